package record_test

import (
	"bytes"
	"math"
	"slices"
	"testing"

	"revenant/api"
	"revenant/digest"
	"revenant/extent"
	"revenant/record"
	"revenant/varint"
)

// top is the greatest ID, Base, Count and Len of a digest.
const top = 1 << 40

// number is the bytes of a number, made without the layers below; so are those of
// all that follows.
func number(n uint64) []byte {
	var b []byte
	for ; n >= 128; n /= 128 {
		b = append(b, byte(n%128)+128)
	}
	return append(b, byte(n))
}

// plain is what is sealed: a kind, numbers, and blocks behind them.
func plain(kind record.Kind, blocks []byte, l ...uint64) []byte {
	b := []byte{byte(kind)}
	for _, n := range l {
		b = append(b, number(n)...)
	}
	return append(b, blocks...)
}

// sum is the checksum of bytes, step by step as the document words it.
func sum(b []byte) uint32 {
	n := uint32(math.MaxUint32)
	for _, c := range b {
		for i := range 8 {
			if n&1 != uint32(c)>>i&1 {
				n = n>>1 ^ 3945912366
			} else {
				n >>= 1
			}
		}
	}
	return ^n
}

func sealed(b []byte) []byte {
	n := sum(b)
	return append(bytes.Clone(b), byte(n), byte(n>>8), byte(n>>16), byte(n>>24))
}

func text(b []byte) []byte {
	return append(number(uint64(len(b))), b...)
}

// whole is the bytes of a record of which this is sealed.
func whole(b []byte) []byte { return text(sealed(b)) }

// blocks is n blocks of bytes that differ.
func blocks(n int) []byte {
	b := make([]byte, n*api.Block)
	for i := range b {
		b[i] = byte(i*7 + 1)
	}
	return b
}

func head(id, base int) record.Record {
	return record.Record{Kind: record.Head, ID: id, Base: base}
}

func data(from, to int, b []byte) record.Record {
	return record.Record{Kind: record.Data, Run: extent.Run{From: from, To: to}, Blocks: b}
}

func hole(from, to int) record.Record {
	return record.Record{Kind: record.Hole, Run: extent.Run{From: from, To: to}}
}

func tail(count int, size, sum uint64) record.Record {
	return record.Record{Kind: record.Tail, Count: count, Digest: digest.Digest{Len: size, Sum: sum}}
}

// pair is a record, and what is sealed of it.
type pair struct {
	r     record.Record
	plain []byte
}

// pairs is records of each kind, with the edges of their fields.
func pairs() []pair {
	var l []pair
	for _, id := range []int{0, 1, 127, 128, 300, top - 1, top} {
		for _, base := range []int{0, 1, 16384, top} {
			l = append(l, pair{head(id, base), plain(record.Head, nil, uint64(id), uint64(base))})
		}
	}
	for n := 1; n <= 4; n++ {
		for _, from := range []int{0, 1, 127, 128, 252, 253, 254, 255} {
			if from+n <= api.MaxImage {
				l = append(l, pair{data(from, from+n, blocks(n)), plain(record.Data, blocks(n), uint64(from))})
			}
		}
		zeros := make([]byte, n*api.Block)
		l = append(l, pair{data(9, 9+n, zeros), plain(record.Data, zeros, 9)})
	}
	for _, run := range [][2]int{{0, 1}, {0, 4}, {0, 5}, {0, 256}, {2, 5}, {127, 128}, {128, 129}, {254, 256}, {255, 256}} {
		l = append(l, pair{hole(run[0], run[1]), plain(record.Hole, nil, uint64(run[0]), uint64(run[1]))})
	}
	for _, count := range []int{0, 9, top} {
		for _, size := range []uint64{0, 4, 200, top} {
			for _, sum := range []uint64{0, 5, digest.Prime - 1} {
				l = append(l, pair{tail(count, size, sum), plain(record.Tail, nil, uint64(count), size, sum)})
			}
		}
	}
	return l
}

// records is the records of pairs.
func records() []record.Record {
	var l []record.Record
	for _, p := range pairs() {
		l = append(l, p.r)
	}
	return l
}

// each is a record of each kind.
func each() []record.Record {
	return []record.Record{head(7, 3), data(254, 256, blocks(2)), hole(2, 5), tail(9, 4, 5)}
}

// bytesOf is the bytes of a record that has such.
func bytesOf(t *testing.T, r record.Record) []byte {
	t.Helper()
	b, e := r.Bytes()
	if e != api.OK {
		t.Fatalf("Bytes() of %v: error %d", r, e)
	}
	return b
}

// wantBytes looks at the bytes of a record.
func wantBytes(t *testing.T, r record.Record, want []byte) {
	t.Helper()
	if b := bytesOf(t, r); !bytes.Equal(b, want) {
		t.Errorf("Bytes() of %v = %v, want %v", r, b, want)
	}
}

// wantNoBytes looks whether a record has no bytes, as it is none.
func wantNoBytes(t *testing.T, r record.Record) {
	t.Helper()
	if b, e := r.Bytes(); e != api.ErrArg || len(b) != 0 {
		t.Errorf("Bytes() of %v = %v, %d, want ErrArg", r, b, e)
	}
}

// equal tells whether two records are, without a call of the package.
func equal(a, b record.Record) bool {
	x, y := a.Blocks, b.Blocks
	a.Blocks, b.Blocks = nil, nil
	return a.Kind == b.Kind && a.ID == b.ID && a.Base == b.Base && a.Run.From == b.Run.From && a.Run.To == b.Run.To &&
		a.Count == b.Count && a.Digest.Len == b.Digest.Len && a.Digest.Sum == b.Digest.Sum && string(x) == string(y)
}

// wantRead looks what the next record of a reader is.
func wantRead(t *testing.T, x *varint.Reader, want record.Record) {
	t.Helper()
	r, e := record.Read(x)
	if e != api.OK || !equal(r, want) {
		t.Fatalf("Read = %v, %d, want %v", r, e, want)
	}
}

// wantError looks whether Read of the reader fails in this way, beside nothing.
func wantError(t *testing.T, what string, x *varint.Reader, want api.Errno) {
	t.Helper()
	r, e := record.Read(x)
	if e != want {
		t.Errorf("%s: Read's error is %d, want %d", what, e, want)
	}
	if !equal(r, record.Record{}) {
		t.Errorf("%s: beside the error there is %v", what, r)
	}
}

// wantRefused looks whether bytes are refused with an error that is Read's own, so
// that the reader stands behind them, without an error.
func wantRefused(t *testing.T, what string, b []byte, want api.Errno) {
	t.Helper()
	x := varint.Open(append(bytes.Clone(b), bytesOf(t, hole(2, 5))...))
	wantError(t, what, x, want)
	if e := x.Failed(); e != api.OK {
		t.Errorf("%s: the reader has error %d", what, e)
		return
	}
	wantRead(t, x, hole(2, 5))
	if e := x.End(); e != api.OK {
		t.Errorf("%s: the reader's end: %d", what, e)
	}
}

// wantFailed looks whether bytes are refused with an error of the reader, which
// reads nothing from then on.
func wantFailed(t *testing.T, what string, b []byte, want api.Errno) {
	t.Helper()
	x := varint.Open(b)
	for range 3 {
		wantError(t, what, x, want)
	}
	if x.Failed() != want || x.End() != want {
		t.Errorf("%s: the reader's errors are %d and %d, want %d", what, x.Failed(), x.End(), want)
	}
}

// The chapter's functions: the kinds' numbers, and Most.
func TestKinds(t *testing.T) {
	if record.Head != 1 || record.Data != 2 || record.Hole != 3 || record.Tail != 4 || record.Most != 4 {
		t.Error(record.Head, record.Data, record.Hole, record.Tail, record.Most)
	}
}

// The chapter's example.
func TestExample(t *testing.T) {
	wantBytes(t, hole(2, 5), []byte{7, 3, 2, 5, 247, 87, 209, 41})
}

// P12.1: the bytes, written out.
func TestBytes(t *testing.T) {
	join := func(l ...[]byte) []byte { return bytes.Join(l, nil) }
	up, nines := make([]byte, 32), bytes.Repeat([]byte{9}, 128)
	for i := range up {
		up[i] = byte(i + 1)
	}
	for _, c := range []struct {
		r    record.Record
		want []byte
	}{
		{head(0, 0), []byte{7, 1, 0, 0, 125, 111, 122, 0}},
		{head(300, 7), []byte{8, 1, 172, 2, 7, 26, 168, 255, 4}},
		{head(top, top), []byte{17, 1, 128, 128, 128, 128, 128, 32, 128, 128, 128, 128, 128, 32, 201, 164, 246, 20}},
		{data(0, 1, up), join([]byte{38, 2, 0}, up, []byte{78, 30, 55, 247})},
		{data(252, 256, nines), join([]byte{135, 1, 2, 252, 1}, nines, []byte{132, 51, 35, 242})},
		{hole(255, 256), []byte{9, 3, 255, 1, 128, 2, 147, 169, 135, 251}},
		{tail(0, 0, 0), []byte{8, 4, 0, 0, 0, 244, 148, 169, 148}},
		{tail(9, 4, 5), []byte{8, 4, 9, 4, 5, 204, 214, 187, 199}},
		{tail(top, top, digest.Prime-1), []byte{26, 4, 128, 128, 128, 128, 128, 32, 128, 128, 128, 128, 128, 32,
			254, 255, 255, 255, 255, 255, 255, 255, 31, 237, 19, 120, 5}},
	} {
		wantBytes(t, c.r, c.want)
		wantRead(t, varint.Open(c.want), c.r)
	}
}

// P12.1: the bytes of many records, against those that are made without the layers
// below.
func TestBytesOfPairs(t *testing.T) {
	for _, p := range pairs() {
		wantBytes(t, p.r, whole(p.plain))
	}
}

// P12.1, P12.2: a Data record at each number, of each number of blocks.
func TestEachData(t *testing.T) {
	for n := 1; n <= 4; n++ {
		for from := range api.MaxImage + 2 {
			r := data(from, from+n, blocks(n))
			if from+n > api.MaxImage {
				wantNoBytes(t, r)
				continue
			}
			b := whole(plain(record.Data, blocks(n), uint64(from)))
			wantBytes(t, r, b)
			wantRead(t, varint.Open(b), r)
		}
	}
}

// P12.1, P12.2: each Hole.
func TestEachHole(t *testing.T) {
	for from := range api.MaxImage + 2 {
		for to := range api.MaxImage + 3 {
			r := hole(from, to)
			b := whole(plain(record.Hole, nil, uint64(from), uint64(to)))
			if from >= to || to > api.MaxImage {
				wantNoBytes(t, r)
				wantRefused(t, "a Hole", b, api.ErrForm)
				continue
			}
			wantBytes(t, r, b)
			wantRead(t, varint.Open(b), r)
		}
	}
}

// beyond is numbers that aren't those of an ID, a Base or a Count.
var beyond = []int{-1, -2, -300, -top, math.MinInt, top + 1, 2 * top, 1 << 62, math.MaxInt}

// P12.1: ErrArg of a Head whose numbers are beyond their bounds.
func TestBytesOfNoHead(t *testing.T) {
	for _, n := range beyond {
		wantNoBytes(t, head(n, 0))
		wantNoBytes(t, head(0, n))
		wantNoBytes(t, head(n, n))
		wantNoBytes(t, head(top, n))
		wantNoBytes(t, head(n, top))
	}
}

// P12.1: ErrArg of a Data record whose run isn't one of 1 to 4 blocks' numbers.
func TestBytesOfNoDataRun(t *testing.T) {
	for _, run := range [][2]int{
		{-1, 0}, {-1, 1}, {-4, 0}, {-2, 2}, {-256, -255}, {math.MinInt, math.MinInt + 1}, {math.MinInt, 1}, {-1 << 32, -1<<32 + 1},
		{255, 257}, {253, 257}, {254, 258}, {256, 257}, {256, 260}, {300, 301}, {1 << 32, 1<<32 + 1}, {math.MaxInt - 1, math.MaxInt},
		{0, 0}, {7, 7}, {256, 256}, {8, 7}, {5, 1}, {9, 5}, {math.MaxInt, math.MinInt}, {math.MinInt, math.MaxInt}, {0, math.MinInt},
		{0, 5}, {251, 256}, {0, 256}, {3, 9}, {0, math.MaxInt}, {1, math.MinInt},
	} {
		for n := range 7 {
			wantNoBytes(t, data(run[0], run[1], blocks(n)))
		}
		wantNoBytes(t, data(run[0], run[1], nil))
		wantNoBytes(t, data(run[0], run[1], blocks(256)))
		wantNoBytes(t, data(run[0], run[1], make([]byte, 1)))
	}
}

// P12.1: ErrArg of a Data record whose blocks aren't as many as its run has numbers,
// or aren't whole.
func TestBytesOfNoDataBlocks(t *testing.T) {
	for n := 1; n <= 4; n++ {
		for _, from := range []int{0, 100, 256 - n} {
			for size := range 6*api.Block + 1 {
				r := data(from, from+n, make([]byte, size))
				if size != n*api.Block {
					wantNoBytes(t, r)
				}
			}
			wantNoBytes(t, data(from, from+n, nil))
			wantNoBytes(t, data(from, from+n, make([]byte, n*api.Block+256)))
		}
	}
}

// P12.1: ErrArg of a Hole whose run has no numbers, or others than those of blocks.
func TestBytesOfNoHole(t *testing.T) {
	for _, run := range [][2]int{
		{255, 255}, {255, 254}, {255, 257}, {255, 0}, {256, 256}, {256, 257}, {257, 258}, {0, 0}, {0, 257}, {0, -1}, {5, 4},
		{-1, 0}, {-1, 1}, {-1, 256}, {-5, -4}, {-1, -1}, {0, math.MaxInt}, {0, math.MinInt}, {math.MinInt, 0}, {math.MinInt, 256},
		{math.MinInt, math.MaxInt}, {math.MaxInt, math.MinInt}, {1 << 32, 1<<32 + 5}, {2, 1<<32 + 5},
	} {
		wantNoBytes(t, hole(run[0], run[1]))
	}
}

// P12.1: ErrArg of a Tail whose numbers are beyond their bounds.
func TestBytesOfNoTail(t *testing.T) {
	for _, n := range beyond {
		wantNoBytes(t, tail(n, 0, 0))
		wantNoBytes(t, tail(n, top, digest.Prime-1))
	}
	for _, n := range []uint64{top + 1, 2 * top, 1 << 63, math.MaxUint64} {
		wantNoBytes(t, tail(0, n, 0))
		wantNoBytes(t, tail(top, n, 5))
	}
	for _, n := range []uint64{digest.Prime, digest.Prime + 1, 1 << 62, 1 << 63, math.MaxUint64} {
		wantNoBytes(t, tail(0, 0, n))
		wantNoBytes(t, tail(top, top, n))
	}
}

// P12.1: ErrArg of a kind that doesn't exist, whatever the fields are.
func TestBytesOfNoKind(t *testing.T) {
	for kind := range 256 {
		if kind >= 1 && kind <= 4 {
			continue
		}
		wantNoBytes(t, record.Record{Kind: record.Kind(kind)})
		for _, r := range each() {
			r.Kind = record.Kind(kind)
			wantNoBytes(t, r)
		}
	}
}

// field changes one field of a record.
type field struct {
	name   string
	change func(r *record.Record)
}

// fields is changes of each field that is zero, to what is not.
func fields() []field {
	return []field{
		{"ID", func(r *record.Record) { r.ID = 1 }},
		{"ID", func(r *record.Record) { r.ID = -1 }},
		{"Base", func(r *record.Record) { r.Base = 1 }},
		{"Base", func(r *record.Record) { r.Base = -1 }},
		{"Run", func(r *record.Record) { r.Run.From = 1 }},
		{"Run", func(r *record.Record) { r.Run.To = 1 }},
		{"Run", func(r *record.Record) { r.Run.From = -1 }},
		{"Run", func(r *record.Record) { r.Run.To = -1 }},
		{"Run", func(r *record.Record) { r.Run = extent.Run{From: 5, To: 5} }},
		{"Run", func(r *record.Record) { r.Run = extent.Run{From: 5, To: 6} }},
		{"Blocks", func(r *record.Record) { r.Blocks = []byte{0} }},
		{"Blocks", func(r *record.Record) { r.Blocks = blocks(1) }},
		{"Blocks", func(r *record.Record) { r.Blocks = make([]byte, 3*api.Block) }},
		{"Count", func(r *record.Record) { r.Count = 1 }},
		{"Count", func(r *record.Record) { r.Count = -1 }},
		{"Digest", func(r *record.Record) { r.Digest.Len = 1 }},
		{"Digest", func(r *record.Record) { r.Digest.Sum = 1 }},
		{"Digest", func(r *record.Record) { r.Digest.Sum = digest.Prime }},
	}
}

// P12.1: ErrArg of a record with a field that isn't mentioned for its kind, and isn't
// zero.
func TestBytesOfOtherFields(t *testing.T) {
	mentioned := map[record.Kind][]string{
		record.Head: {"ID", "Base"},
		record.Data: {"Run", "Blocks"},
		record.Hole: {"Run"},
		record.Tail: {"Count", "Digest"},
	}
	refused := 0
	for _, r := range records() {
		for _, f := range fields() {
			if slices.Contains(mentioned[r.Kind], f.name) {
				continue
			}
			changed := r
			f.change(&changed)
			wantNoBytes(t, changed)
			refused++
		}
	}
	if refused == 0 {
		t.Error("nothing was tried")
	}
}

// P12.1: nil and no blocks are equivalent.
func TestBytesOfEmptyBlocks(t *testing.T) {
	for _, r := range []record.Record{head(7, 3), hole(2, 5), tail(9, 4, 5)} {
		want := bytesOf(t, r)
		r.Blocks = []byte{}
		wantBytes(t, r, want)
		r.Blocks = blocks(2)[:0]
		wantBytes(t, r, want)
	}
}

// P12.1: Same of records of which each field is another one.
func TestSame(t *testing.T) {
	full := record.Record{Kind: 2, ID: 3, Base: 4, Run: extent.Run{From: 5, To: 6}, Blocks: []byte{7, 8}, Count: 9, Digest: digest.Digest{Len: 10, Sum: 11}}
	for _, base := range append(records(), full, record.Record{}, record.Record{Kind: 5}) {
		for _, c := range []struct {
			what   string
			change func(r *record.Record)
		}{
			{"Kind", func(r *record.Record) { r.Kind++ }},
			{"Kind by 128", func(r *record.Record) { r.Kind += 128 }},
			{"ID", func(r *record.Record) { r.ID++ }},
			{"ID's sign", func(r *record.Record) { r.ID = -r.ID - 1 }},
			{"Base", func(r *record.Record) { r.Base-- }},
			{"Run.From", func(r *record.Record) { r.Run.From++ }},
			{"Run.To", func(r *record.Record) { r.Run.To-- }},
			{"both ends of Run", func(r *record.Record) { r.Run.From++; r.Run.To++ }},
			{"Blocks longer", func(r *record.Record) { r.Blocks = append(bytes.Clone(r.Blocks), 0) }},
			{"Count", func(r *record.Record) { r.Count++ }},
			{"Digest.Len", func(r *record.Record) { r.Digest.Len++ }},
			{"Digest.Sum", func(r *record.Record) { r.Digest.Sum ^= 1 << 63 }},
		} {
			other := base
			c.change(&other)
			if record.Same(base, other) || record.Same(other, base) {
				t.Errorf("%s: %v and %v are the same", c.what, base, other)
			}
			if !record.Same(other, other) {
				t.Errorf("%s: %v isn't the same as itself", c.what, other)
			}
		}
	}
}

// P12.1: Same of records whose Blocks differ in a byte, or in length.
func TestSameOfBlocks(t *testing.T) {
	for _, n := range []int{1, 2, 4} {
		r := data(9, 9+n, blocks(n))
		for i := range r.Blocks {
			other := r
			other.Blocks = bytes.Clone(r.Blocks)
			if !record.Same(r, other) {
				t.Fatalf("%v and its copy aren't the same", r)
			}
			other.Blocks[i] ^= 1 << (i % 8)
			if record.Same(r, other) || record.Same(other, r) {
				t.Errorf("byte %d is another one, but the records are the same", i)
			}
			other.Blocks = r.Blocks[:i]
			if record.Same(r, other) || record.Same(other, r) {
				t.Errorf("one has %d bytes, but the records are the same", i)
			}
		}
	}
}

// P12.1: Same of nil and no blocks, and of the same bytes beside different ones.
func TestSameOfEmptyBlocks(t *testing.T) {
	long := blocks(2)
	l := [][]byte{nil, {}, long[:0], long[9:9]}
	for _, a := range l {
		for _, b := range l {
			if !record.Same(record.Record{Blocks: a}, record.Record{Blocks: b}) {
				t.Errorf("%v and %v aren't the same", a, b)
			}
		}
		if record.Same(record.Record{Blocks: a}, record.Record{Blocks: []byte{0}}) {
			t.Errorf("%v and a byte 0 are the same", a)
		}
	}
	if !record.Same(record.Record{Blocks: []byte{1, 2, 3}[:2]}, record.Record{Blocks: []byte{1, 2, 4}[:2]}) {
		t.Error("bytes beyond the length count")
	}
}

// P12.1: Same of all pairs of records.
func TestSameOfPairs(t *testing.T) {
	for _, a := range records() {
		for _, b := range records() {
			if record.Same(a, b) != equal(a, b) {
				t.Errorf("Same(%v, %v) = %t", a, b, record.Same(a, b))
			}
		}
	}
}

// P12.2: the bytes of each record are read as it, with nothing left.
func TestReadOfBytes(t *testing.T) {
	for _, r := range records() {
		x := varint.Open(bytesOf(t, r))
		got, e := record.Read(x)
		if e != api.OK || !equal(got, r) || !record.Same(got, r) {
			t.Errorf("Read = %v, %d, want %v", got, e, r)
		}
		if e := x.End(); e != api.OK {
			t.Errorf("the reader's end: %d", e)
		}
	}
}

// P12.1, P12.2: records behind each other, and other things between them: the reader
// stands behind each one.
func TestReadInARow(t *testing.T) {
	var b []byte
	for i, r := range records() {
		b = append(b, bytesOf(t, r)...)
		b = varint.Put(b, uint64(i))
	}
	x := varint.Open(b)
	for i, r := range records() {
		wantRead(t, x, r)
		if n := x.Number(math.MaxUint64); n != uint64(i) {
			t.Fatalf("behind record %d stands %d", i, n)
		}
	}
	if e := x.End(); e != api.OK {
		t.Errorf("the reader's end: %d", e)
	}
	wantError(t, "behind all", x, api.ErrCut)
}

// P12.1: ErrCut of a string that isn't there as a whole.
func TestReadOfCutStrings(t *testing.T) {
	for _, r := range each() {
		b := bytesOf(t, r)
		for n := range len(b) {
			wantFailed(t, "a record cut", b[:n], api.ErrCut)
		}
	}
	for _, b := range [][]byte{nil, {}, {1}, {128}, {255, 255}, {200, 1}, {9, 1}, {5, 0, 0, 0, 0}, append([]byte{200, 1}, make([]byte, 199)...)} {
		wantFailed(t, "a string cut", b, api.ErrCut)
	}
}

// P12.1: ErrForm of a string whose length isn't a number.
func TestReadOfStringsOfNoForm(t *testing.T) {
	for _, b := range [][]byte{
		{128, 0}, {135, 0, 3, 2, 5, 247, 87, 209, 41}, {128, 128, 0}, {255, 255, 255, 255, 255, 255, 255, 255, 255, 2},
		{128, 128, 128, 128, 128, 128, 128, 128, 128, 128, 1}, bytes.Repeat([]byte{255}, 20),
	} {
		wantFailed(t, "a length of no form", b, api.ErrForm)
	}
}

// P12.1: ErrLong of a string of more than 200 bytes, whether they are there or not,
// sealed or not.
func TestReadOfLongStrings(t *testing.T) {
	for _, b := range [][]byte{
		{201, 1}, {128, 2}, text(make([]byte, 201)), text(make([]byte, 1000)), {255, 255, 255, 255, 255, 255, 255, 255, 255, 1},
		whole(make([]byte, 197)), whole(plain(record.Data, blocks(7), 3)), whole(append(plain(record.Head, nil, 7, 3), make([]byte, 194)...)),
	} {
		wantFailed(t, "a long string", b, api.ErrLong)
	}
}

// P12.1: a string of 200 bytes is read: it is sealed or not, but no record.
func TestReadOf200Bytes(t *testing.T) {
	wantRefused(t, "zeros", text(make([]byte, 200)), api.ErrSum)
	for kind := range record.Kind(7) {
		b := append([]byte{byte(kind)}, make([]byte, 195)...)
		if len(sealed(b)) != 200 {
			t.Fatal(len(sealed(b)))
		}
		wantRefused(t, "sealed zeros", whole(b), api.ErrForm)
	}
	wantRefused(t, "almost six blocks", whole(plain(record.Data, blocks(6), 3)[:196]), api.ErrForm)
}

// P12.1: ErrSum of a string that is too short for a checksum.
func TestReadOfShortStrings(t *testing.T) {
	for n := range 4 {
		for _, c := range []byte{0, 1, 2, 3, 255} {
			wantRefused(t, "a short string", text(bytes.Repeat([]byte{c}, n)), api.ErrSum)
		}
	}
	wantRefused(t, "four other bytes", text([]byte{0, 0, 0, 1}), api.ErrSum)
	wantRefused(t, "no bytes, sealed", text([]byte{0, 0, 0, 0}), api.ErrForm)
}

// P12.1: ErrSum if a bit of what is sealed, or of its checksum, is another one, or if
// bytes are missing or added.
func TestReadOfUnsealed(t *testing.T) {
	for _, p := range pairs() {
		s := sealed(p.plain)
		for i := range s {
			for bit := range 8 {
				s[i] ^= 1 << bit
				wantError(t, "another bit", varint.Open(text(s)), api.ErrSum)
				s[i] ^= 1 << bit
			}
		}
		n := len(p.plain)
		wantRefused(t, "without a checksum", text(p.plain), api.ErrSum)
		wantRefused(t, "without the last byte", text(s[:n+3]), api.ErrSum)
		wantRefused(t, "without the first byte", text(s[1:]), api.ErrSum)
		wantRefused(t, "with a byte more", text(append(bytes.Clone(s), 1)), api.ErrSum)
		wantRefused(t, "with the checksum first", text(append(bytes.Clone(s[n:]), p.plain...)), api.ErrSum)
		slices.Reverse(s[n:])
		wantRefused(t, "with the checksum reversed", text(s), api.ErrSum)
	}
}

// P12.1: ErrSum comes before ErrForm: unsealed bytes that are no record either.
func TestReadOfUnsealedNoRecord(t *testing.T) {
	for _, b := range [][]byte{{0, 0, 0}, {5, 1, 2}, {3, 5, 5}, {1}, {2, 0}} {
		s := sealed(b)
		s[0] ^= 1
		wantRefused(t, "neither sealed nor a record", text(s), api.ErrSum)
	}
}

// P12.1: ErrForm of a kind that doesn't exist, whatever is behind it.
func TestReadOfNoKind(t *testing.T) {
	for kind := range 256 {
		if kind >= 1 && kind <= 4 {
			continue
		}
		wantRefused(t, "a kind alone", whole([]byte{byte(kind)}), api.ErrForm)
		for _, p := range pairs() {
			b := bytes.Clone(p.plain)
			b[0] = byte(kind)
			wantRefused(t, "another kind", whole(b), api.ErrForm)
		}
	}
}

// P12.1: ErrForm of sealed bytes that end early, at each place, or don't end.
func TestReadOfCutFields(t *testing.T) {
	for _, p := range pairs() {
		for n := range len(p.plain) {
			// Fewer blocks are a record of their own.
			if want, ok := parsed(p.plain[:n]); ok {
				wantRead(t, varint.Open(whole(p.plain[:n])), want)
				continue
			}
			wantRefused(t, "fields cut", whole(p.plain[:n]), api.ErrForm)
		}
		if p.r.Kind == record.Data {
			continue
		}
		for _, more := range [][]byte{{0}, {1}, {128}, {255, 255}, blocks(1), make([]byte, 100)} {
			wantRefused(t, "bytes behind the fields", whole(append(bytes.Clone(p.plain), more...)), api.ErrForm)
		}
	}
}

// P12.1: ErrForm of a Data record's blocks that aren't 1 to 4 whole ones below 256.
func TestReadOfNoData(t *testing.T) {
	for n := range 5 {
		wantRefused(t, "no From", whole(append([]byte{2}, bytes.Repeat([]byte{128}, n*api.Block)...)), api.ErrForm)
	}
	for _, from := range []int{0, 1, 100, 127, 128, 251, 252, 253, 254, 255} {
		for size := range 5*api.Block + 20 {
			n := size / api.Block
			b := whole(plain(record.Data, make([]byte, size), uint64(from)))
			if size%api.Block == 0 && n >= 1 && n <= 4 && from+n <= api.MaxImage {
				wantRead(t, varint.Open(b), data(from, from+n, make([]byte, size)))
				continue
			}
			wantRefused(t, "no such blocks", b, api.ErrForm)
		}
	}
}

// great is numbers that are too great everywhere.
var great = []uint64{digest.Prime, 1 << 61, 1 << 62, math.MaxInt - 1, math.MaxInt, 1 << 63, 1<<63 + 3, math.MaxUint64 - 1, math.MaxUint64}

// P12.1: ErrForm of numbers beyond their bounds.
func TestReadOfGreatNumbers(t *testing.T) {
	refuse := func(kind record.Kind, blocks []byte, l ...uint64) {
		t.Helper()
		wantRefused(t, "a number too great", whole(plain(kind, blocks, l...)), api.ErrForm)
	}
	for _, n := range append([]uint64{top + 1, 2 * top, digest.Prime - 1}, great...) {
		refuse(record.Head, nil, n, 0)
		refuse(record.Head, nil, 0, n)
		refuse(record.Head, nil, top, n)
		refuse(record.Tail, nil, n, 0, 0)
		refuse(record.Tail, nil, 0, n, 0)
		refuse(record.Tail, nil, top, n, 5)
	}
	for _, n := range great {
		refuse(record.Tail, nil, 0, 0, n)
		refuse(record.Tail, nil, top, top, n)
	}
	for _, n := range append([]uint64{256, 257, 300, 1 << 32, 1<<32 + 5, top, top + 1}, great...) {
		for k := range 6 {
			refuse(record.Data, blocks(k), n)
		}
		refuse(record.Hole, nil, n, n+1)
		refuse(record.Hole, nil, n, 256)
		refuse(record.Hole, nil, n, 5)
		if n > 256 {
			refuse(record.Hole, nil, 0, n)
			refuse(record.Hole, nil, 255, n)
		}
	}
}

// P12.1: ErrForm of a Hole without numbers.
func TestReadOfEmptyHoles(t *testing.T) {
	for _, run := range [][2]uint64{{0, 0}, {1, 0}, {5, 5}, {5, 4}, {255, 255}, {255, 254}, {255, 0}, {256, 256}} {
		wantRefused(t, "a Hole without numbers", whole(plain(record.Hole, nil, run[0], run[1])), api.ErrForm)
	}
}

// P12.1: ErrForm of numbers that aren't in their only encoding, or are no numbers.
func TestReadOfOtherEncodings(t *testing.T) {
	ten := []byte{128, 128, 128, 128, 128, 128, 128, 128, 128, 2}
	eleven := []byte{128, 128, 128, 128, 128, 128, 128, 128, 128, 128, 1}
	for _, b := range [][]byte{
		{1, 135, 0, 3}, {1, 7, 131, 0}, {1, 128, 0, 0}, {1, 0, 128, 0}, {1, 172, 130, 0, 7},
		{3, 130, 0, 5}, {3, 2, 133, 0}, {3, 128, 0, 5}, {3, 128, 128, 0, 5},
		{4, 137, 0, 4, 5}, {4, 9, 132, 0, 5}, {4, 9, 4, 133, 0}, {4, 128, 0, 0, 0}, {4, 0, 0, 128, 0},
		{1, 7, 128}, {1, 255}, {3, 2, 133}, {4, 9, 4, 255},
	} {
		wantRefused(t, "another encoding", whole(b), api.ErrForm)
	}
	for _, wrong := range [][]byte{{128, 0}, {137, 0}, {255, 129, 0}, {128, 128, 0}, ten, eleven} {
		for size := range 5 * api.Block {
			// Whatever is counted as the blocks, one of these sizes makes them whole ones.
			wantRefused(t, "From in another encoding", whole(slices.Concat([]byte{2}, wrong, make([]byte, size))), api.ErrForm)
		}
		for kind := byte(1); kind <= 4; kind++ {
			for ahead := range 3 {
				b := append([]byte{kind}, []byte{1, 2, 3}[:ahead]...)
				wantRefused(t, "no number", whole(slices.Concat(b, wrong, []byte{5})), api.ErrForm)
			}
		}
	}
}

// P12.1: a reader with an error keeps it, and Read consumes nothing.
func TestReadOfFailedReader(t *testing.T) {
	good := bytesOf(t, hole(2, 5))
	for _, c := range []struct {
		ahead []byte
		want  api.Errno
	}{{[]byte{5}, api.ErrLong}, {[]byte{128, 0}, api.ErrForm}} {
		x := varint.Open(append(bytes.Clone(c.ahead), good...))
		x.Number(4)
		wantError(t, "a reader with an error", x, c.want)
		wantError(t, "a reader with an error", x, c.want)
		if x.Failed() != c.want || x.End() != c.want {
			t.Errorf("the reader's errors are %d and %d, want %d", x.Failed(), x.End(), c.want)
		}
	}
	x := varint.Open(nil)
	x.Number(4)
	wantError(t, "a reader of nothing", x, api.ErrCut)
}

// P12.1: layer 1's error of a nil reader; one that Open didn't make has no bytes.
func TestReadOfNilReader(t *testing.T) {
	wantError(t, "a nil reader", nil, api.ErrArg)
	wantError(t, "an empty reader", &varint.Reader{}, api.ErrCut)
}

// Rule 3: Bytes changes nothing of its record, reads nothing beyond the length of its
// Blocks, and writes nothing there.
func TestBytesChangesNothing(t *testing.T) {
	long := bytes.Repeat([]byte{5}, 300)
	for _, n := range []int{1, 2, 4} {
		r := data(9, 9+n, long[:n*api.Block])
		b := bytesOf(t, r)
		if !bytes.Equal(long, bytes.Repeat([]byte{5}, 300)) || len(r.Blocks) != n*api.Block {
			t.Fatal("the blocks were changed")
		}
		long[n*api.Block] = 6
		wantBytes(t, r, b)
		long[n*api.Block] = 5
	}
}

// Rule 3: what Bytes returns is not shared: neither with Blocks nor with what the next
// call returns.
func TestBytesSharesNothing(t *testing.T) {
	for _, r := range each() {
		before := bytes.Clone(r.Blocks)
		a, b := bytesOf(t, r), bytesOf(t, r)
		want := bytes.Clone(a)
		for i := range a[:cap(a)] {
			a[:cap(a)][i] ^= 255
		}
		if !bytes.Equal(b, want) || !bytes.Equal(r.Blocks, before) {
			t.Errorf("%v: a change of the bytes is one elsewhere", r)
		}
		for i := range r.Blocks {
			r.Blocks[i]++
		}
		if !bytes.Equal(b, want) {
			t.Errorf("%v: a change of the blocks is one of the bytes", r)
		}
	}
}

// Rule 3: what Read returns is not shared with the reader, its bytes, or another
// record, not even beyond its length.
func TestReadSharesNothing(t *testing.T) {
	for n := 1; n <= 4; n++ {
		want := data(9, 9+n, blocks(n))
		b := bytesOf(t, want)
		all := append(bytes.Clone(b), b...)
		before := bytes.Clone(all)
		x := varint.Open(all)
		first, e := record.Read(x)
		if e != api.OK {
			t.Fatal(e)
		}
		kept := first
		kept.Blocks = bytes.Clone(first.Blocks)
		l := first.Blocks[:cap(first.Blocks)]
		for i := range l {
			l[i] ^= 255
		}
		wantRead(t, x, want)
		if !bytes.Equal(all, before) {
			t.Error("a change of the blocks is one of the bytes that were passed")
		}
		again, e := record.Read(varint.Open(all))
		if e != api.OK || !equal(again, kept) {
			t.Fatalf("Read = %v, %d, want %v", again, e, kept)
		}
		clear(all)
		if !equal(again, kept) {
			t.Error("a change of the bytes that were passed is one of the blocks")
		}
	}
}

// Rule 3: Read doesn't change the bytes that were passed, whether they are a record
// or not.
func TestReadChangesNothing(t *testing.T) {
	for _, b := range [][]byte{whole(plain(record.Data, blocks(3), 7)), whole([]byte{5, 1}), text([]byte{1, 2, 3, 4, 5}), {201, 1, 7}, {9, 1}} {
		before := bytes.Clone(b)
		record.Read(varint.Open(b))
		if !bytes.Equal(b, before) {
			t.Errorf("%v became %v", before, b)
		}
	}
}

// P2: the same calls return the same, in whatever order they come.
func TestResultsRepeat(t *testing.T) {
	l := records()
	var first [][]byte
	for _, r := range l {
		first = append(first, bytesOf(t, r))
		head(-1, 0).Bytes()
		record.Read(varint.Open([]byte{9}))
	}
	for i := len(l) - 1; i >= 0; i-- {
		wantBytes(t, l[i], first[i])
		for range 2 {
			wantRead(t, varint.Open(first[i]), l[i])
		}
	}
}

// numbers is the numbers with which bytes begin, and what is behind them; false:
// they aren't so many.
func numbers(b []byte, n int) ([]uint64, []byte, bool) {
	var l []uint64
	for range n {
		size := 1 + slices.IndexFunc(b, func(c byte) bool { return c < 128 })
		if size == 0 || size > 10 || size == 10 && b[9] > 1 {
			return nil, nil, false
		}
		x := uint64(0)
		for i, c := range b[:size] {
			x |= uint64(c%128) << (7 * i)
		}
		if !bytes.Equal(number(x), b[:size]) {
			return nil, nil, false
		}
		l, b = append(l, x), b[size:]
	}
	return l, b, true
}

// parsed is the record that should be read from sealed bytes; false: there is none.
// It is asked of the kinds one by one, with the bounds as the chapter words them.
func parsed(b []byte) (record.Record, bool) {
	if len(b) == 0 {
		return record.Record{}, false
	}
	count, ok := map[byte]int{1: 2, 2: 1, 3: 2, 4: 3}[b[0]]
	if !ok {
		return record.Record{}, false
	}
	l, left, ok := numbers(b[1:], count)
	if !ok || b[0] != 2 && len(left) > 0 {
		return record.Record{}, false
	}
	switch b[0] {
	case 1:
		return head(int(l[0]), int(l[1])), l[0] <= top && l[1] <= top
	case 2:
		n := len(left) / 32
		return data(int(l[0]), int(l[0])+n, left), len(left)%32 == 0 && n >= 1 && n <= 4 && l[0] < 256 && int(l[0])+n <= 256
	case 3:
		return hole(int(l[0]), int(l[1])), l[0] <= 255 && l[1] > l[0] && l[1] <= 256
	default:
		return tail(int(l[0]), l[1], l[2]), l[0] <= top && l[1] <= top && l[2] < digest.Prime
	}
}

// fits tells whether a record has bytes, by the fields that its kind has.
func fits(r record.Record) bool {
	isHead, isTail := r.Kind == record.Head, r.Kind == record.Tail
	isData, isHole := r.Kind == record.Data, r.Kind == record.Hole
	if !isHead && !isData && !isHole && !isTail {
		return false
	}
	if isHead && (r.ID < 0 || r.ID > top || r.Base < 0 || r.Base > top) || !isHead && (r.ID != 0 || r.Base != 0) {
		return false
	}
	if (isData || isHole) && (r.Run.From < 0 || r.Run.To <= r.Run.From || r.Run.To > 256) {
		return false
	}
	if !isData && !isHole && (r.Run.From != 0 || r.Run.To != 0) {
		return false
	}
	if isData && (r.Run.To-r.Run.From > 4 || len(r.Blocks) != 32*(r.Run.To-r.Run.From)) || !isData && len(r.Blocks) != 0 {
		return false
	}
	if isTail && (r.Count < 0 || r.Count > top || r.Digest.Len > top || r.Digest.Sum >= digest.Prime) {
		return false
	}
	return isTail || r.Count == 0 && r.Digest.Len == 0 && r.Digest.Sum == 0
}

// wantAsModel looks whether sealed bytes are read as they should be, and whether the
// record has just these bytes.
func wantAsModel(t *testing.T, b []byte) {
	t.Helper()
	want, ok := parsed(b)
	if !ok {
		wantRefused(t, "no record", whole(b), api.ErrForm)
		return
	}
	wantRead(t, varint.Open(whole(b)), want)
	wantBytes(t, want, whole(b))
}

// wantFits looks whether a record has bytes exactly if it should, from which it is
// read.
func wantFits(t *testing.T, r record.Record) {
	t.Helper()
	if !fits(r) {
		wantNoBytes(t, r)
		return
	}
	wantRead(t, varint.Open(bytesOf(t, r)), r)
}

// dice yields numbers that look mixed, the same ones for each seed.
type dice uint64

// next is a number from 0 on, below n.
func (d *dice) next(n int) int {
	*d = *d*6364136223846793005 + 1442695040888963407
	return int(uint64(*d) >> 33 % uint64(n))
}

// P12.1: sealed bytes of all strings of up to three bytes of some few.
func TestReadOfAllShortBytes(t *testing.T) {
	l := []byte{0, 1, 2, 3, 4, 5, 127, 128, 129, 255}
	wantAsModel(t, nil)
	for kind := range byte(6) {
		wantAsModel(t, []byte{kind})
		for _, a := range l {
			wantAsModel(t, []byte{kind, a})
			for _, b := range l {
				wantAsModel(t, []byte{kind, a, b})
				for _, c := range l {
					wantAsModel(t, []byte{kind, a, b, c})
					wantAsModel(t, []byte{kind, a, b, c, 1})
				}
			}
		}
	}
}

// P12.1, P12.2: sealed bytes that were changed, cut or lengthened.
func TestReadOfMixedBytes(t *testing.T) {
	d := dice(1)
	l := pairs()
	for range 20000 {
		b := bytes.Clone(l[d.next(len(l))].plain)
		for range d.next(3) {
			switch d.next(4) {
			case 0:
				b = b[:d.next(len(b)+1)]
			case 1:
				b = append(b, make([]byte, d.next(34))...)
			case 2:
				b = append(b, byte(d.next(256)))
			default:
				if i := d.next(len(b) + 1); i < len(b) {
					b[i] = []byte{0, 1, 2, 3, 4, 5, 128, 255}[d.next(8)]
				}
			}
		}
		if len(b) <= api.MaxTape-4 {
			wantAsModel(t, b)
		}
	}
}

// P12.1, P12.2: records whose fields are any.
func TestBytesOfMixedRecords(t *testing.T) {
	d := dice(2)
	l := records()
	for range 20000 {
		r, other := l[d.next(len(l))], l[d.next(len(l))]
		if d.next(4) == 0 {
			r.Kind = record.Kind(d.next(6))
		}
		if d.next(4) == 0 {
			r.Run.To = r.Run.From + d.next(6)
		}
		if d.next(4) == 0 {
			r.Blocks = make([]byte, d.next(6)*api.Block)
		}
		if d.next(4) == 0 {
			r.Count, r.ID, r.Base = other.Count, other.ID, other.Base
		}
		if d.next(4) == 0 {
			r.Digest = other.Digest
		}
		wantFits(t, r)
	}
}

// FuzzRead tries further bytes: each as they are, and as those that are sealed.
func FuzzRead(f *testing.F) {
	for _, p := range pairs() {
		f.Add(p.plain)
		f.Add(whole(p.plain))
	}
	f.Fuzz(func(t *testing.T, b []byte) {
		if len(b) <= api.MaxTape-4 {
			wantAsModel(t, b)
		}
		r, e := record.Read(varint.Open(b))
		if e != api.OK {
			wantError(t, "a fuzzed string", varint.Open(b), e)
			return
		}
		if again := bytesOf(t, r); !bytes.HasPrefix(b, again) {
			t.Errorf("%v is read as %v, whose bytes are %v", b, r, again)
		}
	})
}

// FuzzBytes tries further records.
func FuzzBytes(f *testing.F) {
	for _, r := range records() {
		f.Add(byte(r.Kind), r.ID, r.Base, r.Run.From, r.Run.To, r.Blocks, r.Count, r.Digest.Len, r.Digest.Sum)
	}
	f.Fuzz(func(t *testing.T, kind byte, id, base, from, to int, b []byte, count int, size, sum uint64) {
		r := record.Record{Kind: record.Kind(kind), ID: id, Base: base, Run: extent.Run{From: from, To: to}, Blocks: b, Count: count, Digest: digest.Digest{Len: size, Sum: sum}}
		if len(b) == 0 || len(b) > 4*api.Block {
			wantFits(t, r)
			return
		}
		// Few inputs have whole blocks, or none, so that both are made of this one.
		wantFits(t, r)
		r.Blocks = nil
		wantFits(t, r)
		r.Blocks = append(bytes.Clone(b), make([]byte, (api.Block-len(b)%api.Block)%api.Block)...)
		wantFits(t, r)
	})
}

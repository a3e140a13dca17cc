package stream_test

import (
	"bytes"
	"math"
	"math/bits"
	"slices"
	"testing"

	"revenant/api"
	"revenant/digest"
	"revenant/extent"
	"revenant/image"
	"revenant/record"
	"revenant/stream"
)

// top is the greatest ID and Base of a Head.
const top = 1 << 40

// number is the bytes of a number, made without the layers below; so are those of
// all that follows.
func number(n uint64) []byte {
	var b []byte
	for ; n >= 128; n /= 128 {
		b = append(b, byte(n%128)+128)
	}
	return append(b, byte(n))
}

// sum is the checksum of bytes, step by step as the document words it.
func sum(b []byte) uint32 {
	n := uint32(math.MaxUint32)
	for _, c := range b {
		for i := range 8 {
			if n&1 != uint32(c)>>i&1 {
				n = n>>1 ^ 3945912366
			} else {
				n >>= 1
			}
		}
	}
	return ^n
}

func text(b []byte) []byte {
	return append(number(uint64(len(b))), b...)
}

// whole is the bytes of a record of which this is sealed.
func whole(b []byte) []byte {
	n := sum(b)
	return text(append(bytes.Clone(b), byte(n), byte(n>>8), byte(n>>16), byte(n>>24)))
}

// plain is what is sealed: a kind, numbers, and blocks behind them.
func plain(kind record.Kind, blocks []byte, l ...uint64) []byte {
	b := []byte{byte(kind)}
	for _, n := range l {
		b = append(b, number(n)...)
	}
	return append(b, blocks...)
}

// bytesOf is the bytes of a record.
func bytesOf(r record.Record) []byte {
	switch r.Kind {
	case record.Head:
		return whole(plain(r.Kind, nil, uint64(r.ID), uint64(r.Base)))
	case record.Data:
		return whole(plain(r.Kind, r.Blocks, uint64(r.Run.From)))
	case record.Hole:
		return whole(plain(r.Kind, nil, uint64(r.Run.From), uint64(r.Run.To)))
	default:
		return whole(plain(r.Kind, nil, uint64(r.Count), r.Digest.Len, r.Digest.Sum))
	}
}

// digestOf is the digest of bytes.
func digestOf(b []byte) digest.Digest {
	n := uint64(0)
	for _, c := range b {
		hi, lo := bits.Mul64(n, 1000003)
		lo, carry := bits.Add64(lo, uint64(c)+1, 0)
		_, n = bits.Div64(hi+carry, lo, 1<<61-1)
	}
	return digest.Digest{Len: uint64(len(b)), Sum: n}
}

func head(id, base int) record.Record {
	return record.Record{Kind: record.Head, ID: id, Base: base}
}

// data is a Data record of these blocks.
func data(from int, blocks ...[]byte) record.Record {
	return record.Record{Kind: record.Data, Run: extent.Run{From: from, To: from + len(blocks)}, Blocks: slices.Concat(blocks...)}
}

func hole(from, to int) record.Record {
	return record.Record{Kind: record.Hole, Run: extent.Run{From: from, To: to}}
}

// tail is the Tail behind these records.
func tail(l ...record.Record) record.Record {
	return record.Record{Kind: record.Tail, Count: len(l), Digest: digestOf(open(l...))}
}

// open is the bytes of records, without a Tail.
func open(l ...record.Record) []byte {
	var b []byte
	for _, r := range l {
		b = append(b, bytesOf(r)...)
	}
	return b
}

// closed is the bytes of records, and of the Tail behind them.
func closed(l ...record.Record) []byte {
	return append(open(l...), bytesOf(tail(l...))...)
}

// block is a block: these bytes, and bytes 0 behind them.
func block(b ...byte) []byte {
	return append(bytes.Clone(b), make([]byte, api.Block-len(b))...)
}

// model is what an image should be: at each number a block, or nil for a hole.
type model [api.MaxImage][]byte

// image is one of these blocks.
func (m *model) image(t *testing.T) *image.Image {
	t.Helper()
	x := image.New()
	for i, b := range m {
		if b == nil {
			continue
		}
		if e := x.Put(i, b); e != api.OK {
			t.Fatalf("Put(%d) = %d", i, e)
		}
	}
	return x
}

// modelOf is an image with blocks at the numbers of these runs, given by their ends.
// The blocks say which number they have, and what is passed.
func modelOf(c byte, ends ...int) *model {
	var m model
	m.fill(c, ends...)
	return &m
}

func (m *model) fill(c byte, ends ...int) {
	for l := ends; len(l) > 0; l = l[2:] {
		for i := l[0]; i < l[1]; i++ {
			m[i] = block(c, byte(i))
		}
	}
}

func (m *model) clear(ends ...int) {
	for l := ends; len(l) > 0; l = l[2:] {
		for i := l[0]; i < l[1]; i++ {
			m[i] = nil
		}
	}
}

func (m *model) clone() *model {
	c := *m
	return &c
}

// runs is the runs of the numbers that in tells, in pieces of at most most numbers.
func runs(most int, in func(i int) bool) []extent.Run {
	var l []extent.Run
	for i := range api.MaxImage {
		if !in(i) {
			continue
		}
		if n := len(l); n > 0 && l[n-1].To == i && i-l[n-1].From < most {
			l[n-1].To++
		} else {
			l = append(l, extent.Run{From: i, To: i + 1})
		}
	}
	return l
}

// records is those that should be between the Head and the Tail of a stream that
// makes m of base.
func (m *model) records(base *model) []record.Record {
	var l []record.Record
	for _, r := range runs(4, func(i int) bool { return m[i] != nil && !bytes.Equal(m[i], base[i]) }) {
		l = append(l, data(r.From, m[r.From:r.To]...))
	}
	for _, r := range runs(api.MaxImage, func(i int) bool { return m[i] == nil && base[i] != nil }) {
		l = append(l, hole(r.From, r.To))
	}
	return l
}

// made is the image that records should make of this one.
func (m *model) made(l []record.Record) *model {
	out := m.clone()
	for _, r := range l {
		for i := range r.Run.To - r.Run.From {
			out[r.Run.From+i] = nil
			if r.Kind == record.Data {
				out[r.Run.From+i] = r.Blocks[i*api.Block : (i+1)*api.Block]
			}
		}
	}
	return out
}

// wantImage looks at the blocks of an image.
func wantImage(t *testing.T, what string, m *image.Image, want *model) {
	t.Helper()
	if m == nil {
		t.Fatalf("%s: no image", what)
	}
	for i, b := range want {
		got, ok := m.Get(i)
		if ok != (b != nil) || !bytes.Equal(got, b) {
			t.Fatalf("%s: block %d is %x, %t, want %x", what, i, got, ok, b)
		}
	}
}

// equal tells whether two lists of records are, without a call of the layers below.
func equal(a, b []record.Record) bool {
	return slices.EqualFunc(a, b, func(a, b record.Record) bool {
		return a.Kind == b.Kind && a.ID == b.ID && a.Base == b.Base && a.Run.From == b.Run.From && a.Run.To == b.Run.To &&
			string(a.Blocks) == string(b.Blocks) && a.Count == b.Count && a.Digest.Len == b.Digest.Len && a.Digest.Sum == b.Digest.Sum
	})
}

// makeOf is the stream that Make returns.
func makeOf(t *testing.T, h stream.Head, m, base *image.Image) []byte {
	t.Helper()
	b, e := stream.Make(h, m, base)
	if e != api.OK {
		t.Fatalf("Make of %v: error %d", h, e)
	}
	return b
}

// wantMade looks whether Make returns exactly the stream that makes m of base, and
// whether it is read as it and makes m of base.
func wantMade(t *testing.T, what string, h stream.Head, m, base *model) {
	t.Helper()
	l := m.records(base)
	want := closed(append([]record.Record{head(h.ID, h.Base)}, l...)...)
	x, y := m.image(t), base.image(t)
	if b := makeOf(t, h, x, y); !bytes.Equal(b, want) {
		t.Fatalf("%s: Make = %v, want %v", what, b, want)
	}
	wantImage(t, what+": m behind Make", x, m)
	wantImage(t, what+": base behind Make", y, base)
	wantWhole(t, what, want, h, l)
	wantApplied(t, what, base, want, h, m)
}

// wantRecords looks which records are between the Head and the Tail of the stream
// that makes m of base.
func wantRecords(t *testing.T, what string, m, base *model, want ...record.Record) {
	t.Helper()
	if !equal(m.records(base), want) {
		t.Fatalf("%s: the model has %v, want %v", what, m.records(base), want)
	}
	wantMade(t, what, stream.Head{ID: 7, Base: 3}, m, base)
}

// wantWhole looks what Whole returns.
func wantWhole(t *testing.T, what string, b []byte, h stream.Head, want []record.Record) {
	t.Helper()
	got, l, e := stream.Whole(b)
	if e != api.OK || got != h || !equal(l, want) {
		t.Fatalf("%s: Whole = %v, %v, %d, want %v, %v", what, got, l, e, h, want)
	}
}

// wantApplied looks what Apply returns, and whether it leaves the base as it was.
func wantApplied(t *testing.T, what string, base *model, b []byte, h stream.Head, want *model) {
	t.Helper()
	x := base.image(t)
	got, m, e := stream.Apply(x, b)
	if e != api.OK || got != h {
		t.Fatalf("%s: Apply = %v, %d, want %v", what, got, e, h)
	}
	if m == x {
		t.Fatalf("%s: Apply returns the base", what)
	}
	wantImage(t, what+": what Apply returns", m, want)
	wantImage(t, what+": the base", x, base)
}

// wantRefused looks whether Whole and Apply fail in this way, beside nothing.
func wantRefused(t *testing.T, what string, b []byte, want api.Errno) {
	t.Helper()
	if h, l, e := stream.Whole(b); e != want || h != (stream.Head{}) || len(l) != 0 {
		t.Errorf("%s: Whole = %v, %v, %d, want error %d", what, h, l, e, want)
	}
	base := modelOf(9, 0, 10).image(t)
	for _, base := range []*image.Image{nil, base} {
		if h, m, e := stream.Apply(base, b); e != want || h != (stream.Head{}) || m != nil {
			t.Errorf("%s: Apply = %v, %v, %d, want error %d", what, h, m, e, want)
		}
	}
	wantImage(t, what+": the base", base, modelOf(9, 0, 10))
}

// wantStream looks whether records, and a Tail, are such a stream, and what it makes
// of some images.
func wantStream(t *testing.T, what string, l ...record.Record) {
	t.Helper()
	h := stream.Head{ID: l[0].ID, Base: l[0].Base}
	wantWhole(t, what, closed(l...), h, l[1:])
	for _, base := range []*model{{}, modelOf(9, 0, 256), modelOf(9, 0, 3, 5, 9, 250, 256)} {
		wantApplied(t, what, base, closed(l...), h, base.made(l[1:]))
	}
}

// before and after are images of which some blocks are the same, some different, some
// new, and some removed; the records between them, and their streams' bytes, are below.
func before() *model {
	var m model
	for i, c := range map[int]byte{0: 10, 1: 11, 2: 12, 3: 13, 7: 17, 8: 18, 200: 20, 201: 21} {
		m[i] = block(c)
	}
	return &m
}

func after() *model {
	var m model
	for i, c := range map[int]byte{0: 10, 1: 21, 2: 12, 4: 24, 5: 25, 6: 26, 7: 27, 8: 28, 255: 55} {
		m[i] = block(c)
	}
	return &m
}

func between() []record.Record {
	return []record.Record{
		data(1, block(21)), data(4, block(24), block(25), block(26), block(27)), data(8, block(28)), data(255, block(55)),
		hole(3, 4), hole(200, 202),
	}
}

// betweenBytes is the bytes of the Head 300, 7, of these records, and of the Tail.
func betweenBytes() []byte {
	return slices.Concat(
		[]byte{8, 1, 172, 2, 7, 26, 168, 255, 4},
		[]byte{38, 2, 1}, block(21), []byte{56, 85, 250, 114},
		[]byte{134, 1, 2, 4}, block(24), block(25), block(26), block(27), []byte{106, 124, 114, 112},
		[]byte{38, 2, 8}, block(28), []byte{96, 89, 13, 66},
		[]byte{39, 2, 255, 1}, block(55), []byte{132, 123, 38, 15},
		[]byte{7, 3, 3, 4, 151, 140, 212, 155},
		[]byte{9, 3, 200, 1, 202, 1, 150, 81, 12, 71},
		[]byte{17, 4, 7, 153, 2, 166, 206, 234, 163, 129, 166, 177, 189, 7, 78, 168, 85, 49},
	)
}

// The chapter's example: an image of holes with a base of holes is two records.
func TestExample(t *testing.T) {
	want := []byte{7, 1, 0, 0, 125, 111, 122, 0, 16, 4, 1, 8, 252, 231, 183, 245, 227, 233, 189, 181, 1, 243, 24, 101, 84}
	b := makeOf(t, stream.Head{}, image.New(), image.New())
	if !bytes.Equal(b, want) {
		t.Errorf("Make = %v, want %v", b, want)
	}
	wantWhole(t, "holes", b, stream.Head{}, nil)
	wantApplied(t, "holes", &model{}, b, stream.Head{}, &model{})
}

// P13.1: the bytes of a stream, written out.
func TestMakeBytes(t *testing.T) {
	b := makeOf(t, stream.Head{ID: 300, Base: 7}, after().image(t), before().image(t))
	if !bytes.Equal(b, betweenBytes()) {
		t.Errorf("Make = %v, want %v", b, betweenBytes())
	}
	want := append(slices.Concat([]byte{17, 1}, []byte{128, 128, 128, 128, 128, 32, 128, 128, 128, 128, 128, 32, 201, 164, 246, 20}),
		16, 4, 1, 18, 222, 202, 197, 129, 172, 226, 236, 216, 15, 146, 19, 112, 95)
	b = makeOf(t, stream.Head{ID: top, Base: top}, after().image(t), after().image(t))
	if !bytes.Equal(b, want) {
		t.Errorf("Make = %v, want %v", b, want)
	}
}

// P13.1, P13.2: the records of that stream: the Data records before the Holes.
func TestMakeRecords(t *testing.T) {
	wantRecords(t, "some of each", after(), before(), between()...)
	wantWhole(t, "some of each", betweenBytes(), stream.Head{ID: 300, Base: 7}, between())
	wantApplied(t, "some of each", before(), betweenBytes(), stream.Head{ID: 300, Base: 7}, after())
	var full []record.Record
	for _, r := range [][2]int{{0, 3}, {4, 8}, {8, 9}, {255, 256}} {
		full = append(full, data(r[0], after()[r[0]:r[1]]...))
	}
	wantRecords(t, "in full", after(), &model{}, full...)
	wantRecords(t, "nothing left", &model{}, before(), hole(0, 4), hole(7, 9), hole(200, 202))
}

// P13.1, P13.2: the ID and the Base of the Head, at the edges.
func TestHead(t *testing.T) {
	for _, id := range []int{0, 1, 7, 127, 128, top - 1, top} {
		for _, base := range []int{0, 1, 300, top - 1, top} {
			wantMade(t, "a Head", stream.Head{ID: id, Base: base}, after(), before())
		}
	}
}

// P13.1: ErrArg of an ID or a Base that a Head can't have, whatever the images are.
func TestMakeOfNoHead(t *testing.T) {
	m, base := after().image(t), before().image(t)
	for _, n := range []int{-1, -2, -300, -top, math.MinInt, top + 1, 2 * top, 1 << 62, math.MaxInt} {
		for _, h := range []stream.Head{{ID: n}, {Base: n}, {ID: n, Base: n}, {ID: top, Base: n}, {ID: n, Base: top}, {ID: 1, Base: n}} {
			for _, l := range [][2]*image.Image{{m, base}, {m, nil}, {nil, base}, {nil, nil}, {m, m}} {
				if b, e := stream.Make(h, l[0], l[1]); e != api.ErrArg || len(b) != 0 {
					t.Errorf("Make of %v = %v, %d, want ErrArg", h, b, e)
				}
			}
		}
	}
}

// pieces is the Data records that a run of m should have.
func pieces(m *model, from, to int) []record.Record {
	var l []record.Record
	for ; to-from > 4; from += 4 {
		l = append(l, data(from, m[from:from+4]...))
	}
	return append(l, data(from, m[from:to]...))
}

// P13.1: a run of any length, at the beginning, in the midst and at the end, that is
// new, different, or both: Data records of at most four blocks, from its beginning on.
func TestMakeOfRuns(t *testing.T) {
	for _, n := range []int{1, 2, 3, 4, 5, 6, 7, 8, 9, 12, 13, 100} {
		for _, from := range []int{0, 1, 2, 3, 101, 256 - n} {
			to := from + n
			m := modelOf(1, from, to)
			want := pieces(m, from, to)
			if len(want) != (n+3)/4 {
				t.Fatal(len(want))
			}
			wantRecords(t, "a new run", m, &model{}, want...)
			wantRecords(t, "a different run", m, modelOf(2, from, to), want...)
			wantRecords(t, "a run that is new behind some", m, modelOf(2, from, from+n/2), want...)
			wantRecords(t, "a run that is new before some", m, modelOf(2, from+n/2, to), want...)
			wantRecords(t, "a run of which two are new", m, modelOf(2, from+min(2, n), to), want...)
			wantRecords(t, "the same run", m, m)
		}
	}
}

// P13.1: a run between blocks that are the same, or removed, is a run of its own.
func TestMakeOfRunsBesideOthers(t *testing.T) {
	for _, n := range []int{1, 3, 4, 5, 8, 9} {
		base := modelOf(1, 0, 256)
		m := base.clone()
		m.fill(2, 10, 10+n, 11+n, 11+2*n)
		want := append(pieces(m, 10, 10+n), pieces(m, 11+n, 11+2*n)...)
		wantRecords(t, "one that is the same between two runs", m, base, want...)
		m.clear(10+n, 11+n)
		wantRecords(t, "one that is removed between two runs", m, base, append(want, hole(10+n, 11+n))...)
		base.clear(10+n, 11+n)
		wantRecords(t, "a hole between two runs", m, base, want...)
	}
}

// P13.1: all blocks new, different, the same, and removed.
func TestMakeOfAll(t *testing.T) {
	all, other := modelOf(1, 0, 256), modelOf(2, 0, 256)
	want := pieces(all, 0, 256)
	if len(want) != 64 {
		t.Fatal(len(want))
	}
	wantRecords(t, "all new", all, &model{}, want...)
	wantRecords(t, "all different", all, other, want...)
	wantRecords(t, "all the same", all, all.clone())
	wantRecords(t, "all removed", &model{}, all, hole(0, 256))
}

// P13.1: each second block new, different, or removed.
func TestMakeOfSingles(t *testing.T) {
	all, some := modelOf(1, 0, 256), &model{}
	var put, gone []record.Record
	for i := 0; i < 256; i += 2 {
		some.fill(1, i, i+1)
		put = append(put, data(i, some[i]))
		gone = append(gone, hole(i+1, i+2))
	}
	wantRecords(t, "each second one new", some, &model{}, put...)
	wantRecords(t, "each second one removed", some, all, gone...)
	wantRecords(t, "each second one different, the others removed", some, modelOf(2, 0, 256), append(put, gone...)...)
}

// P13.1: a run of removed blocks is one Hole, however long, wherever it is.
func TestMakeOfHoles(t *testing.T) {
	for from := range 256 {
		for _, n := range []int{1, 2, 3, 4, 5, 8, 9, 63, 128, 255, 256 - from} {
			to := from + n
			if to > 256 {
				continue
			}
			base := modelOf(1, 0, 256)
			m := base.clone()
			m.clear(from, to)
			wantRecords(t, "a run removed of all", m, base, hole(from, to))
			if from%50 == 0 || to == 256 {
				wantRecords(t, "all removed", &model{}, modelOf(1, from, to), hole(from, to))
			}
		}
	}
	m, base := modelOf(1, 5, 6, 20, 30), modelOf(1, 0, 10, 12, 14, 20, 32, 255, 256)
	wantRecords(t, "several runs", m, base, hole(0, 5), hole(6, 10), hole(12, 14), hole(30, 32), hole(255, 256))
}

// P13.1: a block of zeros is no hole: it is new where there is one, and gone if there
// is one.
func TestMakeOfZeros(t *testing.T) {
	m := &model{}
	m[3], m[4] = block(), block()
	wantRecords(t, "zeros that are new", m, &model{}, data(3, block(), block()))
	wantRecords(t, "zeros that are removed", &model{}, m, hole(3, 5))
	wantRecords(t, "zeros that are the same", m, m.clone())
}

// P13.1: a block that differs in any byte is different.
func TestMakeOfDifferentBytes(t *testing.T) {
	base := modelOf(1, 0, 9)
	for i := range api.Block {
		m := base.clone()
		m[6] = bytes.Clone(m[6])
		m[6][i] ^= 1 << (i % 8)
		wantRecords(t, "another byte", m, base, data(6, m[6]))
	}
}

// P13.1: an image by itself, and by its copy.
func TestMakeByItself(t *testing.T) {
	for _, m := range []*model{{}, after(), modelOf(1, 0, 256)} {
		x := m.image(t)
		want := closed(head(7, 3))
		for _, base := range []*image.Image{x, x.Clone()} {
			if b := makeOf(t, stream.Head{ID: 7, Base: 3}, x, base); !bytes.Equal(b, want) {
				t.Errorf("Make = %v, want %v", b, want)
			}
		}
		wantApplied(t, "by itself", m, want, stream.Head{ID: 7, Base: 3}, m)
	}
}

// P13.1: nil images are ones of holes, as m and as base; so are ones that New didn't
// make.
func TestMakeOfNilImages(t *testing.T) {
	h := stream.Head{ID: 7, Base: 3}
	for _, nothing := range []*image.Image{nil, {}, image.New()} {
		for _, m := range []*model{{}, before(), modelOf(1, 0, 256)} {
			want := closed(append([]record.Record{head(7, 3)}, m.records(&model{})...)...)
			if b := makeOf(t, h, m.image(t), nothing); !bytes.Equal(b, want) {
				t.Errorf("by a nil base: Make = %v, want %v", b, want)
			}
			want = closed(append([]record.Record{head(7, 3)}, (&model{}).records(m)...)...)
			if b := makeOf(t, h, nothing, m.image(t)); !bytes.Equal(b, want) {
				t.Errorf("of a nil image: Make = %v, want %v", b, want)
			}
		}
		if b := makeOf(t, h, nothing, nil); !bytes.Equal(b, closed(head(7, 3))) {
			t.Errorf("of no image by none: Make = %v", b)
		}
	}
}

// P13.2: streams that Make doesn't make: their records in any order, some of them
// twice, with fewer blocks, and ones that change nothing.
func TestWholeOfAnyRecords(t *testing.T) {
	wantStream(t, "a Head alone", head(7, 3))
	wantStream(t, "Holes first", head(7, 3), hole(2, 5), data(9, block(1)), hole(3, 256), data(0, block(2), block(3)))
	wantStream(t, "falling", head(0, 0), data(200, block(1)), data(100, block(2)), hole(50, 60), hole(4, 5))
	wantStream(t, "twice", head(1, 0), hole(2, 5), hole(2, 5), data(2, block(1)), data(2, block(1)))
	wantStream(t, "pieces that touch", head(1, 0), data(2, block(1)), data(3, block(2)), hole(7, 8), hole(8, 9))
	l := []record.Record{head(top, top)}
	for i := range 700 {
		l = append(l, data(i%253, block(byte(i)), block(1), block(2)), hole(i%255, 256))
	}
	wantStream(t, "many", l...)
}

// P13.2: Apply applies the records in order: what comes last is what is there.
func TestApplyInOrder(t *testing.T) {
	h := stream.Head{ID: 7, Base: 3}
	a, b := data(3, block(1)), hole(3, 4)
	wantApplied(t, "Data, Hole", modelOf(9, 3, 4), closed(head(7, 3), a, b), h, &model{})
	m := &model{}
	m[3] = block(1)
	wantApplied(t, "Hole, Data", modelOf(9, 3, 4), closed(head(7, 3), b, a), h, m)
	m[3] = block(2)
	wantApplied(t, "Data, Data", &model{}, closed(head(7, 3), a, data(3, block(2))), h, m)
	m[3] = block(1)
	wantApplied(t, "Data, Data", &model{}, closed(head(7, 3), data(3, block(2)), a), h, m)
	wantApplied(t, "Data, Hole, Data", &model{}, closed(head(7, 3), a, b, a), h, m)
	wantApplied(t, "Hole, Data, Hole", m, closed(head(7, 3), b, a, b), h, &model{})
	for _, l := range [][]record.Record{
		{data(2, block(1), block(2), block(3), block(4)), hole(3, 5), data(4, block(5), block(6))},
		{hole(0, 256), data(4, block(5), block(6)), data(2, block(1), block(2), block(3), block(4)), hole(5, 6)},
		{data(252, block(1), block(2), block(3), block(4)), hole(255, 256), data(254, block(7))},
		{hole(3, 5), hole(4, 8), data(0, block(1)), hole(0, 1)},
	} {
		wantStream(t, "overlapping", append([]record.Record{head(7, 3)}, l...)...)
		slices.Reverse(l)
		wantStream(t, "overlapping, reversed", append([]record.Record{head(7, 3)}, l...)...)
	}
}

// P13.2: each block of a Data record is put at its number, and each number of a Hole
// is cleared, and no others.
func TestApplyOfEachRun(t *testing.T) {
	h := stream.Head{ID: 1}
	all := modelOf(9, 0, 256)
	for n := 1; n <= 4; n++ {
		for from := range 257 - n {
			m := modelOf(1, from, from+n)
			r := data(from, m[from:from+n]...)
			wantApplied(t, "Data", &model{}, closed(head(1, 0), r), h, m)
			m = all.clone()
			m.fill(1, from, from+n)
			wantApplied(t, "Data", all, closed(head(1, 0), r), h, m)
		}
	}
	for from := range 256 {
		for _, to := range []int{from + 1, from + 2, from + 5, (from + 257) / 2, 255, 256} {
			if to <= from || to > 256 {
				continue
			}
			m := all.clone()
			m.clear(from, to)
			wantApplied(t, "a Hole", all, closed(head(1, 0), hole(from, to)), h, m)
			wantApplied(t, "a Hole of holes", m, closed(head(1, 0), hole(from, to)), h, m)
		}
	}
}

// P13.2: a nil base is one of holes; so is one that New didn't make.
func TestApplyToNil(t *testing.T) {
	for _, base := range []*image.Image{nil, {}, image.New()} {
		h, m, e := stream.Apply(base, betweenBytes())
		if e != api.OK || h != (stream.Head{ID: 300, Base: 7}) {
			t.Fatal(h, e)
		}
		wantImage(t, "by a nil base", m, (&model{}).made(between()))
		if base != nil && base.Blocks().Len() != 0 {
			t.Error("the base was changed")
		}
		h, m, e = stream.Apply(base, closed(head(7, 3)))
		if e != api.OK || h != (stream.Head{ID: 7, Base: 3}) || m == base {
			t.Fatal(h, m, e)
		}
		wantImage(t, "a Head alone by a nil base", m, &model{})
		if e := m.Put(3, []byte{1}); e != api.OK {
			t.Error("nothing can be put into the image:", e)
		}
	}
}

// wrong is bytes that are refused where a record should be.
type wrong struct {
	what string
	b    []byte
	want api.Errno
}

// cut is ends of bytes at which a record should be, but isn't there as a whole.
func cut() []wrong {
	l := []wrong{{"no bytes", nil, api.ErrCut}}
	for _, b := range [][]byte{{1}, {128}, {200, 1}, {9, 1}, append([]byte{200, 1}, make([]byte, 199)...)} {
		l = append(l, wrong{"a string cut", b, api.ErrCut})
	}
	for _, r := range []record.Record{head(7, 3), data(9, block(1), block(2)), hole(2, 5), tail(head(7, 3))} {
		b := bytesOf(r)
		for n := range len(b) {
			l = append(l, wrong{"a record cut", b[:n], api.ErrCut})
		}
	}
	return l
}

// noRecords is strings that are no records, each with layer 12's error.
func noRecords() []wrong {
	l := []wrong{
		{"a length of no form", []byte{128, 0}, api.ErrForm},
		{"a length of no form", []byte{135, 0, 3, 2, 5, 247, 87, 209, 41}, api.ErrForm},
		{"a length of no form", []byte{255, 255, 255, 255, 255, 255, 255, 255, 255, 2}, api.ErrForm},
		{"a string too long", []byte{201, 1}, api.ErrLong},
		{"a string too long", []byte{255, 255, 255, 255, 255, 255, 255, 255, 255, 1}, api.ErrLong},
		{"a string too long", text(make([]byte, 201)), api.ErrLong},
		{"a string too long", whole(plain(record.Data, make([]byte, 7*api.Block), 3)), api.ErrLong},
		{"a string too short", []byte{0}, api.ErrSum},
		{"a string too short", text([]byte{1, 2, 3}), api.ErrSum},
		{"zeros", text(make([]byte, 200)), api.ErrSum},
		{"no bytes, sealed", whole(nil), api.ErrForm},
		{"kind 0", whole([]byte{0}), api.ErrForm},
		{"kind 5", whole([]byte{5, 1, 2}), api.ErrForm},
		{"a Head too great", whole(plain(record.Head, nil, top+1, 0)), api.ErrForm},
		{"a Head too great", whole(plain(record.Head, nil, 0, top+1)), api.ErrForm},
		{"a Head too long", whole(plain(record.Head, nil, 7, 3, 0)), api.ErrForm},
		{"Data without blocks", whole(plain(record.Data, nil, 3)), api.ErrForm},
		{"Data of five blocks", whole(plain(record.Data, make([]byte, 5*api.Block), 3)), api.ErrForm},
		{"Data at 256", whole(plain(record.Data, block(), 256)), api.ErrForm},
		{"Data beyond 255", whole(plain(record.Data, make([]byte, 2*api.Block), 255)), api.ErrForm},
		{"a Hole without numbers", whole(plain(record.Hole, nil, 5, 5)), api.ErrForm},
		{"a Hole beyond 255", whole(plain(record.Hole, nil, 5, 257)), api.ErrForm},
		{"a Tail without a Sum", whole(plain(record.Tail, nil, 1, 8)), api.ErrForm},
		{"a Tail's Sum too great", whole(plain(record.Tail, nil, 1, 8, 1<<61-1)), api.ErrForm},
	}
	for _, r := range []record.Record{head(7, 3), data(9, block(1), block(2)), hole(2, 5), tail(head(7, 3))} {
		b := bytesOf(r)
		for i := 1; i < len(b); i++ {
			c := bytes.Clone(b)
			c[i] ^= 1 << (i % 8)
			if r.Kind != record.Data || i > 1 {
				l = append(l, wrong{"a record that isn't sealed", c, api.ErrSum})
			}
		}
	}
	return l
}

// starts is beginnings of streams, behind which further records may come.
func starts() [][]byte {
	return [][]byte{
		open(head(7, 3)), open(head(0, 0), hole(2, 5)), open(head(1, 0), data(3, block(1))),
		open(append([]record.Record{head(300, 7)}, between()...)...),
	}
}

// P13.2: layer 12's error of the first record, with anything behind it.
func TestFirstRecordIsWrong(t *testing.T) {
	for _, w := range cut() {
		wantRefused(t, "first: "+w.what, w.b, w.want)
	}
	for _, w := range noRecords() {
		wantRefused(t, "first: "+w.what, w.b, w.want)
		wantRefused(t, "first, more behind: "+w.what, slices.Concat(w.b, closed(head(7, 3))), w.want)
		wantRefused(t, "first, a rest behind: "+w.what, slices.Concat(w.b, closed(head(7, 3), hole(2, 5))[8:]), w.want)
	}
}

// P13.2: layer 12's error of a record in the midst, and in place of the Tail.
func TestLaterRecordIsWrong(t *testing.T) {
	for _, start := range starts() {
		for _, w := range cut() {
			wantRefused(t, "last: "+w.what, slices.Concat(start, w.b), w.want)
		}
		for _, w := range noRecords() {
			wantRefused(t, "last: "+w.what, slices.Concat(start, w.b), w.want)
			behind := open(hole(2, 5), data(3, block(1)))
			b := slices.Concat(start, w.b, behind)
			n := record.Record{Kind: record.Tail, Count: 5, Digest: digestOf(b)}
			wantRefused(t, "in the midst: "+w.what, append(b, bytesOf(n)...), w.want)
			wantRefused(t, "in the midst, no Tail: "+w.what, b, w.want)
		}
	}
}

// P13.2: ErrForm of a first record that is Data, a Hole or a Tail, whatever is behind
// it.
func TestFirstRecordIsNoHead(t *testing.T) {
	for _, r := range []record.Record{data(3, block(1)), hole(2, 5), tail(), {Kind: record.Tail, Count: 5}, {Kind: record.Tail, Digest: digest.Digest{Len: 1, Sum: 9}}} {
		first := bytesOf(r)
		wantRefused(t, "alone", first, api.ErrForm)
		wantRefused(t, "with a Tail", closed(r), api.ErrForm)
		wantRefused(t, "with a Head behind", closed(r, head(7, 3)), api.ErrForm)
		wantRefused(t, "with records behind", closed(r, hole(2, 5), data(3, block(1))), api.ErrForm)
		for _, w := range append(noRecords(), cut()...) {
			wantRefused(t, "with others behind: "+w.what, slices.Concat(first, w.b), api.ErrForm)
		}
	}
}

// P13.2: ErrForm of a second Head, wherever it is, also if it is as the first one.
func TestSecondHead(t *testing.T) {
	for _, second := range []record.Record{head(7, 3), head(0, 0), head(8, 7)} {
		wantRefused(t, "behind the first one", closed(head(7, 3), second), api.ErrForm)
		wantRefused(t, "in the midst", closed(head(7, 3), hole(2, 5), second, data(3, block(1))), api.ErrForm)
		wantRefused(t, "at the end", closed(head(7, 3), hole(2, 5), data(3, block(1)), second), api.ErrForm)
		wantRefused(t, "without a Tail", open(head(7, 3), second), api.ErrForm)
		for _, w := range append(noRecords(), cut()...) {
			wantRefused(t, "with others behind: "+w.what, slices.Concat(open(head(7, 3), second), w.b), api.ErrForm)
		}
	}
}

// wrongTails is Tails that aren't that of what precedes them: their Count, their
// Digest's Len, or its Sum is another one.
func wrongTails(l ...record.Record) []record.Record {
	right := tail(l...)
	var out []record.Record
	for _, n := range []int{0, right.Count - 1, right.Count + 1, right.Count + 128, right.Count + 1<<32, top} {
		r := right
		r.Count = n
		out = append(out, r)
	}
	for _, n := range []uint64{0, right.Digest.Len - 1, right.Digest.Len + 1, right.Digest.Len + 1<<32, top} {
		r := right
		r.Digest.Len = n
		out = append(out, r)
	}
	for _, n := range []uint64{0, right.Digest.Sum - 1, right.Digest.Sum + 1, right.Digest.Sum ^ 1<<60, 1<<61 - 2, 1} {
		r := right
		r.Digest.Sum = n
		out = append(out, r)
	}
	other := right
	other.Digest = digestOf(append(open(l...), bytesOf(right)...))
	first := right
	first.Digest = digestOf(bytesOf(l[0]))
	out = append(out, other, record.Record{Kind: record.Tail})
	if len(l) > 1 {
		out = append(out, first, tail(l[1:]...), tail(l[:len(l)-1]...))
	}
	return out
}

// lists is the records of some streams, without the Tail.
func lists() [][]record.Record {
	return [][]record.Record{
		{head(7, 3)}, {head(0, 0), hole(2, 5)}, {head(1, 0), data(3, block(1)), hole(3, 4), data(3, block(2))},
		append([]record.Record{head(300, 7)}, between()...),
	}
}

// P13.2: ErrSum of a Tail that isn't that of what precedes it, whatever is behind it.
func TestWrongTail(t *testing.T) {
	for _, l := range lists() {
		wantStream(t, "with its Tail", l...)
		for _, r := range wrongTails(l...) {
			b := open(append(l, r)...)
			wantRefused(t, "a wrong Tail", b, api.ErrSum)
			wantRefused(t, "a wrong Tail, and a byte", append(b, 0), api.ErrSum)
			wantRefused(t, "a wrong Tail, and the right one", slices.Concat(b, bytesOf(tail(l...))), api.ErrSum)
			wantRefused(t, "a wrong Tail, and that of all", closed(append(l, r)...), api.ErrSum)
			wantRefused(t, "a wrong Tail, and a Head", slices.Concat(b, closed(head(7, 3))), api.ErrSum)
		}
	}
}

// P13.2: ErrSum of a stream whose records are others than those that its Tail counts:
// in another order, one fewer, one twice, or one more.
func TestTailOfOtherRecords(t *testing.T) {
	for _, l := range lists() {
		last := bytesOf(tail(l...))
		for i := 1; i < len(l); i++ {
			wantRefused(t, "one fewer", slices.Concat(open(l[:i]...), open(l[i+1:]...), last), api.ErrSum)
			wantRefused(t, "one twice", slices.Concat(open(l[:i+1]...), open(l[i:]...), last), api.ErrSum)
			wantRefused(t, "one more", slices.Concat(open(l[:i]...), open(hole(9, 11)), open(l[i:]...), last), api.ErrSum)
			if i > 1 {
				swapped := slices.Clone(l)
				swapped[i-1], swapped[i] = swapped[i], swapped[i-1]
				wantRefused(t, "two swapped", slices.Concat(open(swapped...), last), api.ErrSum)
			}
		}
		other := slices.Clone(l)
		other[0] = head(l[0].ID+1, l[0].Base)
		wantRefused(t, "another Head", slices.Concat(open(other...), last), api.ErrSum)
	}
}

// P13.2: ErrLong of bytes behind the Tail, whatever they are.
func TestBytesBehindTheTail(t *testing.T) {
	for _, l := range lists() {
		b := closed(l...)
		for _, more := range [][]byte{{0}, {1}, {128}, {255}, make([]byte, 300), b, bytesOf(tail(l...)), bytesOf(hole(2, 5)), closed(append(l, tail(l...))...)} {
			wantRefused(t, "more behind the Tail", slices.Concat(b, more), api.ErrLong)
		}
		for _, w := range append(noRecords(), cut()[1:]...) {
			if len(w.b) > 0 {
				wantRefused(t, "behind the Tail: "+w.what, slices.Concat(b, w.b), api.ErrLong)
			}
		}
	}
}

// P13.2: record by record: the error of the first one that has an error, of any two.
func TestFirstErrorDecides(t *testing.T) {
	all := append(noRecords(), wrong{"a second Head", bytesOf(head(7, 3)), api.ErrForm})
	for _, r := range wrongTails(head(7, 3))[:12] {
		all = append(all, wrong{"a wrong Tail", bytesOf(r), api.ErrSum})
	}
	all = append(all, wrong{"the Tail", bytesOf(tail(head(7, 3))), api.ErrLong})
	for i, a := range all {
		// One of five of the many that aren't sealed is enough.
		if a.what == "a record that isn't sealed" && i%5 != 0 {
			continue
		}
		for _, b := range append(all, cut()...) {
			if len(b.b) > 0 {
				wantRefused(t, a.what+", then "+b.what, slices.Concat(open(head(7, 3)), a.b, b.b), a.want)
			}
		}
	}
}

// P13.2: ErrCut of no bytes, and of records without a Tail.
func TestNoTail(t *testing.T) {
	wantRefused(t, "nil", nil, api.ErrCut)
	wantRefused(t, "no bytes", []byte{}, api.ErrCut)
	for _, l := range lists() {
		wantRefused(t, "no Tail", open(l...), api.ErrCut)
	}
}

// P13.3: Make's stream, applied to base, yields m, for all pairs of some images.
func TestMadeYieldsTheImage(t *testing.T) {
	l := []*model{{}, before(), after(), modelOf(1, 0, 256), modelOf(2, 0, 256), modelOf(1, 3, 9, 100, 256), modelOf(2, 0, 5, 90, 120)}
	for _, m := range l {
		for _, base := range l {
			b := makeOf(t, stream.Head{ID: 7, Base: 3}, m.image(t), base.image(t))
			wantApplied(t, "one of some images by another one", base, b, stream.Head{ID: 7, Base: 3}, m)
		}
	}
}

// P13.3: a stream is rejected when any one of its bytes was changed, whichever way.
func TestChangedByte(t *testing.T) {
	base := before().image(t)
	for _, b := range [][]byte{betweenBytes(), closed(head(0, 0)), closed(head(top, 300), hole(0, 256))} {
		for i, c := range b {
			for n := range 256 {
				b[i] = byte(n)
				if b[i] == c {
					continue
				}
				if h, l, e := stream.Whole(b); e == api.OK || h != (stream.Head{}) || len(l) != 0 {
					t.Fatalf("byte %d is %d instead of %d: Whole = %v, %v, %d", i, n, c, h, l, e)
				}
				if h, m, e := stream.Apply(base, b); e == api.OK || h != (stream.Head{}) || m != nil {
					t.Fatalf("byte %d is %d instead of %d: Apply = %v, %v, %d", i, n, c, h, m, e)
				}
			}
			b[i] = c
		}
	}
	wantImage(t, "the base", base, before())
}

// P13.3: so is one of all blocks, of which a bit was changed, and so is one in which
// a record was replaced by another one that is sealed.
func TestChangedBit(t *testing.T) {
	b := makeOf(t, stream.Head{ID: 7, Base: 3}, modelOf(1, 0, 256).image(t), nil)
	for i := 0; i < len(b); i += 11 {
		b[i] ^= 1 << (i % 8)
		if h, l, e := stream.Whole(b); e == api.OK || h != (stream.Head{}) || len(l) != 0 {
			t.Fatalf("byte %d was changed: Whole = %v, %v, %d", i, h, l, e)
		}
		b[i] ^= 1 << (i % 8)
	}
	l := append([]record.Record{head(300, 7)}, between()...)
	last := bytesOf(tail(l...))
	for i, r := range l {
		if r.Kind != record.Data {
			continue
		}
		for at := range r.Blocks {
			other := slices.Clone(l)
			other[i].Blocks = bytes.Clone(r.Blocks)
			other[i].Blocks[at] ^= 1
			wantRefused(t, "a record that was replaced", slices.Concat(open(other...), last), api.ErrSum)
		}
	}
}

// P13.3: a stream is rejected when it is truncated at any length; and bytes behind
// that are in the same memory aren't read.
func TestTruncated(t *testing.T) {
	for _, b := range [][]byte{betweenBytes(), closed(head(0, 0)), closed(head(top, 300), hole(0, 256), data(3, block(1)))} {
		for n := range len(b) {
			wantRefused(t, "truncated", b[:n], api.ErrCut)
		}
		long := append(bytes.Clone(b), 1, 2, 3)
		wantRefused(t, "longer", long, api.ErrLong)
		if _, _, e := stream.Whole(long[:len(b)]); e != api.OK {
			t.Error("not truncated:", e)
		}
	}
}

// Rule 3: Make neither changes nor keeps the images; what it returns is not shared
// with them, or with what the next call returns.
func TestMakeSharesNothing(t *testing.T) {
	m, base := after().image(t), before().image(t)
	h := stream.Head{ID: 300, Base: 7}
	a, b := makeOf(t, h, m, base), makeOf(t, h, m, base)
	all := a[:cap(a)]
	for i := range all {
		all[i] ^= 255
	}
	wantImage(t, "m", m, after())
	wantImage(t, "base", base, before())
	if !bytes.Equal(b, betweenBytes()) || !bytes.Equal(makeOf(t, h, m, base), betweenBytes()) {
		t.Error("a change of what Make returned is one elsewhere")
	}
	for i := range 256 {
		m.Put(i, []byte{99})
		base.Clear(i)
	}
	if !bytes.Equal(b, betweenBytes()) {
		t.Error("a change of the images is one of what Make returned")
	}
}

// guarded is a copy of bytes with others behind them, in the same memory.
func guarded(b []byte) []byte {
	return append(bytes.Clone(b), bytes.Repeat([]byte{77}, 300)...)[:len(b)]
}

// wantGuarded looks whether such bytes, and those behind them, are as they were.
func wantGuarded(t *testing.T, what string, b, want []byte) {
	t.Helper()
	if !bytes.Equal(b, want) || !bytes.Equal(b[len(b):len(b)+300], bytes.Repeat([]byte{77}, 300)) {
		t.Errorf("%s: the bytes that were passed were changed", what)
	}
}

// Rule 3: Whole and Apply don't change the bytes that are passed, nor those behind
// them, whether they are a stream or not.
func TestBytesAreNotChanged(t *testing.T) {
	l := [][]byte{betweenBytes(), closed(head(0, 0)), append(betweenBytes(), 1), betweenBytes()[:300], open(head(1, 0), head(1, 0)), {0}}
	for _, want := range l {
		b := guarded(want)
		stream.Whole(b)
		wantGuarded(t, "Whole", b, want)
		stream.Apply(nil, b)
		wantGuarded(t, "Apply", b, want)
	}
}

// Rule 3: what Whole returns is not shared with the bytes, with one another, or with
// what the next call returns.
func TestWholeSharesNothing(t *testing.T) {
	b := guarded(betweenBytes())
	_, first, e := stream.Whole(b)
	if e != api.OK {
		t.Fatal(e)
	}
	_, second, _ := stream.Whole(b)
	for i := range first {
		all := first[i].Blocks[:cap(first[i].Blocks)]
		for at := range all {
			all[at] ^= 255
		}
		if !equal(first[i+1:], between()[i+1:]) {
			t.Errorf("a change of record %d is one of another", i)
		}
	}
	wantGuarded(t, "a change of the Blocks", b, betweenBytes())
	for i := range first {
		first[i] = record.Record{}
	}
	_ = append(first, head(1, 1))
	if !equal(second, between()) {
		t.Error("a change of what Whole returned is one of what it returned next")
	}
	clear(b[:cap(b)])
	if !equal(second, between()) {
		t.Error("a change of the bytes is one of what Whole returned")
	}
}

// Rule 3: what Apply returns is not shared with the base or the bytes; so it is by a
// stream that changes nothing.
func TestApplySharesNothing(t *testing.T) {
	for _, c := range []struct {
		b    []byte
		want *model
	}{{betweenBytes(), after()}, {closed(head(7, 3)), before()}} {
		base := before().image(t)
		b := guarded(c.b)
		_, first, _ := stream.Apply(base, b)
		_, second, _ := stream.Apply(base, b)
		for i := range 256 {
			first.Put(i, []byte{99})
		}
		wantImage(t, "the base", base, before())
		wantImage(t, "the other image", second, c.want)
		wantGuarded(t, "a change of the image", b, c.b)
		for i := range 256 {
			base.Put(i, []byte{88})
		}
		clear(b[:cap(b)])
		wantImage(t, "the image, when base and bytes are changed", second, c.want)
		wantImage(t, "the first image", first, all99())
	}
}

// all99 is an image of which each block is 99 and zeros.
func all99() *model {
	var m model
	for i := range m {
		m[i] = block(99)
	}
	return &m
}

// P2: the same calls return the same, in whatever order they come, and whatever was
// called between.
func TestResultsRepeat(t *testing.T) {
	m, base := after().image(t), before().image(t)
	h := stream.Head{ID: 300, Base: 7}
	for range 3 {
		stream.Make(stream.Head{ID: -1}, m, base)
		stream.Make(stream.Head{ID: 9}, base, m)
		stream.Whole(closed(head(9, 9), hole(0, 256)))
		stream.Apply(m, open(head(9, 9), hole(0, 256)))
		if b := makeOf(t, h, m, base); !bytes.Equal(b, betweenBytes()) {
			t.Error("Make returns something else")
		}
		wantWhole(t, "again", betweenBytes(), h, between())
		_, x, e := stream.Apply(base, betweenBytes())
		if e != api.OK {
			t.Fatal(e)
		}
		wantImage(t, "again", x, after())
		wantRefused(t, "again", betweenBytes()[:100], api.ErrCut)
	}
}

// str is the string with which bytes begin, and how many bytes it has with its length.
func str(b []byte) ([]byte, int, api.Errno) {
	n := uint64(0)
	for i, c := range b {
		if i == 9 && c > 1 || i > 0 && c == 0 {
			return nil, 0, api.ErrForm
		}
		n |= uint64(c%128) << (7 * i)
		if c >= 128 {
			continue
		}
		if n > 200 {
			return nil, 0, api.ErrLong
		}
		if i+1+int(n) > len(b) {
			return nil, 0, api.ErrCut
		}
		return b[i+1 : i+1+int(n)], i + 1 + int(n), api.OK
	}
	return nil, 0, api.ErrCut
}

// numbers is the numbers with which bytes begin, and what is behind them; false:
// they aren't so many.
func numbers(b []byte, n int) ([]uint64, []byte, bool) {
	var l []uint64
	for range n {
		size := 1 + slices.IndexFunc(b, func(c byte) bool { return c < 128 })
		if size == 0 || size > 10 || size == 10 && b[9] > 1 {
			return nil, nil, false
		}
		x := uint64(0)
		for i, c := range b[:size] {
			x |= uint64(c%128) << (7 * i)
		}
		if !bytes.Equal(number(x), b[:size]) {
			return nil, nil, false
		}
		l, b = append(l, x), b[size:]
	}
	return l, b, true
}

// parsed is the record of what is sealed; false: there is none.
func parsed(b []byte) (record.Record, bool) {
	if len(b) == 0 {
		return record.Record{}, false
	}
	count, ok := map[byte]int{1: 2, 2: 1, 3: 2, 4: 3}[b[0]]
	if !ok {
		return record.Record{}, false
	}
	l, left, ok := numbers(b[1:], count)
	if !ok || b[0] != 2 && len(left) > 0 {
		return record.Record{}, false
	}
	switch b[0] {
	case 1:
		return head(int(l[0]), int(l[1])), l[0] <= top && l[1] <= top
	case 2:
		n := len(left) / 32
		run := extent.Run{From: int(l[0]), To: int(l[0]) + n}
		return record.Record{Kind: record.Data, Run: run, Blocks: left}, len(left)%32 == 0 && n >= 1 && n <= 4 && l[0] < 256 && run.To <= 256
	case 3:
		return hole(int(l[0]), int(l[1])), l[0] <= 255 && l[1] > l[0] && l[1] <= 256
	default:
		d := digest.Digest{Len: l[1], Sum: l[2]}
		return record.Record{Kind: record.Tail, Count: int(l[0]), Digest: d}, l[0] <= top && l[1] <= top && l[2] < digest.Prime
	}
}

// next is the record with which bytes begin, and how many bytes it has.
func next(b []byte) (record.Record, int, api.Errno) {
	s, size, e := str(b)
	if e != api.OK {
		return record.Record{}, 0, e
	}
	if len(s) < 4 || !bytes.Equal(whole(s[:len(s)-4]), text(s)) {
		return record.Record{}, 0, api.ErrSum
	}
	r, ok := parsed(s[:len(s)-4])
	if !ok {
		return record.Record{}, 0, api.ErrForm
	}
	return r, size, api.OK
}

// told is what Whole should return.
func told(b []byte) (stream.Head, []record.Record, api.Errno) {
	var l []record.Record
	for at := 0; ; {
		r, size, e := next(b[at:])
		switch {
		case e != api.OK:
			return stream.Head{}, nil, e
		case at == 0 && r.Kind != record.Head, at > 0 && r.Kind == record.Head:
			return stream.Head{}, nil, api.ErrForm
		case r.Kind != record.Tail:
			l = append(l, r)
		case r.Count != len(l) || r.Digest != digestOf(b[:at]):
			return stream.Head{}, nil, api.ErrSum
		case at+size < len(b):
			return stream.Head{}, nil, api.ErrLong
		default:
			return stream.Head{ID: l[0].ID, Base: l[0].Base}, l[1:], api.OK
		}
		at += size
	}
}

// wantAsModel looks whether Whole and Apply return what they should, of bytes and of
// a base. It returns the error.
func wantAsModel(t *testing.T, base *model, b []byte) api.Errno {
	t.Helper()
	h, l, e := told(b)
	if e != api.OK {
		wantRefused(t, "as the model", b, e)
		return e
	}
	wantWhole(t, "as the model", b, h, l)
	wantApplied(t, "as the model", base, b, h, base.made(l))
	return api.OK
}

// scripted is bytes of records, of which some are wrong, as the script says: each of
// its bytes says what comes next, some of the following ones with which numbers.
func scripted(script []byte) []byte {
	b, count := bytesOf(head(7, 3)), 1
	take := func() int {
		if len(script) == 0 {
			return 0
		}
		c := script[0]
		script = script[1:]
		return int(c)
	}
	for len(script) > 0 {
		op := take()
		if op >= 250 {
			b, count = nil, 0
		}
		n := tail()
		n.Count, n.Digest = count, digestOf(b)
		count++
		switch from := take(); op % 16 {
		case 0, 1, 2, 3:
			blocks := slices.Repeat([][]byte{block(byte(op), byte(from))}, 1+op%4)
			b = append(b, bytesOf(data(min(from, 255-op%4), blocks...))...)
		case 4, 5, 6, 7:
			b = append(b, bytesOf(hole(from, min(256, from+1+take())))...)
		case 8, 9, 10:
			b = append(b, bytesOf(n)...)
		case 11:
			n.Digest.Sum += uint64(from % 3)
			n.Count += take() % 2
			b = append(b, bytesOf(n)...)
		case 12:
			b = append(b, bytesOf(head(from, take()))...)
		case 13:
			b = append(b, byte(from))
		case 14:
			b = append(b, whole([]byte{byte(from), byte(take()), byte(take())})...)
		default:
			b = b[:max(0, len(b)-from%9)]
		}
	}
	return b
}

// dice yields numbers that look mixed, the same ones for each seed.
type dice uint64

// next is a number from 0 on, below n.
func (d *dice) next(n int) int {
	*d = *d*6364136223846793005 + 1442695040888963407
	return int(uint64(*d) >> 33 % uint64(n))
}

// model is an image of runs of blocks, of which some are alike.
func (d *dice) model() *model {
	var m model
	for i := 0; i < 256; {
		n := 1 + d.next(12)
		if some := d.next(3); some > 0 {
			m.fill(byte(some), i, min(256, i+n))
		}
		i += n
	}
	return &m
}

// P13.1, P13.2, P13.3: mixed images by mixed bases, against the model; and again by
// what came of it.
func TestMixedImages(t *testing.T) {
	d := dice(1)
	for range 1500 {
		m, base := d.model(), d.model()
		wantMade(t, "mixed", stream.Head{ID: d.next(top), Base: d.next(300)}, m, base)
		other := m.clone()
		for range d.next(6) {
			i := d.next(256)
			other[i] = [][]byte{nil, block(byte(d.next(3))), block()}[d.next(3)]
		}
		wantMade(t, "a few changes", stream.Head{ID: d.next(300)}, other, m)
	}
}

// P13.3: a chain of streams, each applied to what the one before it made.
func TestChain(t *testing.T) {
	d := dice(2)
	first := d.model()
	at, last := first.image(t), first.image(t)
	for i := range 300 {
		m := d.model().image(t)
		h, x, e := stream.Apply(at, makeOf(t, stream.Head{ID: i + 1, Base: i}, m, last))
		if e != api.OK || h != (stream.Head{ID: i + 1, Base: i}) || !image.Same(x, m) {
			t.Fatal(i, h, e)
		}
		at, last = x, m
	}
}

// P13.2: mixed records, of which some are wrong, against the model.
func TestMixedRecords(t *testing.T) {
	d := dice(3)
	seen := map[api.Errno]int{}
	for range 10000 {
		script := make([]byte, d.next(14))
		for i := range script {
			script[i] = byte(d.next(256))
		}
		if d.next(2) == 0 {
			script = append(script, 8, 0)
		}
		seen[wantAsModel(t, modelOf(9, 0, 100), scripted(script))]++
	}
	for _, e := range []api.Errno{api.OK, api.ErrCut, api.ErrForm, api.ErrSum, api.ErrLong} {
		if seen[e] < 20 {
			t.Errorf("error %d was seen %d times", e, seen[e])
		}
	}
}

// P13.2, P13.3: streams of which some bytes were changed, cut or lengthened, against
// the model.
func TestMixedBytes(t *testing.T) {
	d := dice(4)
	for range 5000 {
		b := closed(lists()[d.next(len(lists()))]...)
		for range 1 + d.next(3) {
			switch i := d.next(len(b) + 1); d.next(4) {
			case 0:
				b = b[:i]
			case 1:
				b = slices.Insert(b, i, byte(d.next(256)))
			case 2:
				b = slices.Concat(b[:i], b[min(len(b), i+1):])
			default:
				if i < len(b) {
					b[i] = byte(d.next(256))
				}
			}
		}
		wantAsModel(t, modelOf(9, 0, 100), b)
	}
}

// P13.2: all strings of up to three bytes of some few, alone and behind a Head.
func TestShortBytes(t *testing.T) {
	l := []byte{0, 1, 2, 4, 5, 127, 128, 200, 201, 255}
	try := func(b ...byte) {
		wantAsModel(t, &model{}, b)
		wantAsModel(t, &model{}, append(bytesOf(head(7, 3)), b...))
	}
	try()
	for _, a := range l {
		try(a)
		for _, b := range l {
			try(a, b)
			for _, c := range l {
				try(a, b, c)
			}
		}
	}
}

// FuzzWhole tries further bytes.
func FuzzWhole(f *testing.F) {
	for _, l := range lists() {
		f.Add(closed(l...))
		f.Add(open(l...))
	}
	f.Fuzz(func(t *testing.T, b []byte) {
		wantAsModel(t, modelOf(9, 0, 100), b)
	})
}

// FuzzRecords tries further records, of which some are wrong.
func FuzzRecords(f *testing.F) {
	f.Add([]byte{8, 0})
	f.Add([]byte{0, 9, 4, 9, 1, 3, 250, 8, 0})
	f.Add([]byte{0, 9, 11, 1, 0, 12, 7, 3, 13, 1, 14, 1, 2, 3, 15, 4, 250, 8})
	f.Fuzz(func(t *testing.T, script []byte) {
		wantAsModel(t, modelOf(9, 0, 100), scripted(script))
	})
}

// FuzzMake tries further images: each byte is a block, or a hole if it is 0.
func FuzzMake(f *testing.F) {
	f.Add(7, 3, []byte{0, 1, 2}, []byte{1, 1, 0})
	f.Add(0, top, bytes.Repeat([]byte{5}, 256), bytes.Repeat([]byte{0, 5}, 128))
	f.Add(-1, 0, []byte{}, []byte{1})
	f.Fuzz(func(t *testing.T, id, from int, a, b []byte) {
		var m, base model
		for i := range m {
			if i < len(a) && a[i] > 0 {
				m[i] = block(a[i])
			}
			if i < len(b) && b[i] > 0 {
				base[i] = block(b[i])
			}
		}
		h := stream.Head{ID: id, Base: from}
		if id < 0 || from < 0 || id > top || from > top {
			if b, e := stream.Make(h, m.image(t), base.image(t)); e != api.ErrArg || len(b) != 0 {
				t.Errorf("Make = %v, %d", b, e)
			}
			h = stream.Head{}
		}
		wantMade(t, "fuzzed", h, &m, &base)
	})
}

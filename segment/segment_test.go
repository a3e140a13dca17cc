package segment_test

import (
	"bytes"
	"math"
	"slices"
	"testing"

	"revenant/api"
	"revenant/segment"
)

// top is the greatest number of a Head and of an End.
const top = 1 << 30

// The first bytes of what is sealed: H, T and D.
const (
	headByte = 72
	endByte  = 84
	dataByte = 68
)

// number is the bytes of a number, made without the layers below; so are those of
// all that follows.
func number(n uint64) []byte {
	var b []byte
	for ; n >= 128; n /= 128 {
		b = append(b, byte(n%128)+128)
	}
	return append(b, byte(n))
}

// sum is the checksum of bytes, step by step as the document words it.
func sum(b []byte) uint32 {
	n := uint32(math.MaxUint32)
	for _, c := range b {
		for i := range 8 {
			if n&1 != uint32(c)>>i&1 {
				n = n>>1 ^ 3945912366
			} else {
				n >>= 1
			}
		}
	}
	return ^n
}

func sealed(b []byte) []byte {
	n := sum(b)
	return append(bytes.Clone(b), byte(n), byte(n>>8), byte(n>>16), byte(n>>24))
}

// plain is what is sealed: a first byte, and numbers, whether they may be or not.
func plain(first byte, l ...uint64) []byte {
	b := []byte{first}
	for _, n := range l {
		b = append(b, number(n)...)
	}
	return b
}

// plainData is what is sealed of data, whether it may be or not.
func plainData(b []byte) []byte { return append([]byte{dataByte}, b...) }

func head(dump, part, level, base, snap int) segment.Head {
	return segment.Head{Dump: dump, Part: part, Level: level, Base: base, Snap: snap}
}

func end(dump, part, blocks, size int, last bool) segment.End {
	return segment.End{Dump: dump, Part: part, Blocks: blocks, Bytes: size, Last: last}
}

// data is n bytes that differ, as Data.
func data(n int) segment.Data {
	b := make(segment.Data, n)
	for i := range b {
		b[i] = byte(i*7 + 1)
	}
	return b
}

// headOf, and endOf, is one with these numbers.
func headOf(l [5]int) segment.Head { return head(l[0], l[1], l[2], l[3], l[4]) }

func endOf(l [4]int, last bool) segment.End { return end(l[0], l[1], l[2], l[3], last) }

// pair is a block, and what is sealed of it.
type pair struct {
	x     segment.Block
	plain []byte
}

// pairHead, pairEnd and pairData are pairs of blocks that may be.
func pairHead(l [5]int) pair {
	return pair{headOf(l), plain(headByte, uint64(l[0]), uint64(l[1]), uint64(l[2]), uint64(l[3]), uint64(l[4]))}
}

func pairEnd(l [4]int, last bool) pair {
	n := uint64(0)
	if last {
		n = 1
	}
	return pair{endOf(l, last), plain(endByte, uint64(l[0]), uint64(l[1]), uint64(l[2]), uint64(l[3]), n)}
}

func pairData(b []byte) pair { return pair{segment.Data(b), plainData(b)} }

// counts is numbers that may be.
var counts = []int{0, 1, 2, 127, 128, 300, 16383, 16384, 2097151, 2097152, 268435455, 268435456, top - 1, top}

// noCounts is numbers that may not be.
var noCounts = []int{
	-1, -2, -128, -top, -top - 1, math.MinInt32, math.MinInt, math.MinInt + 1,
	top + 1, top + 2, 2*top - 1, 2 * top, 4*top - 1, 4 * top, 4*top + 1, 1<<40 + 5, 1 << 62, math.MaxInt,
}

// pairs is blocks of each kind that may be, with the edges of each field.
func pairs() []pair {
	var l []pair
	for _, n := range counts {
		for _, other := range []int{0, 3, top} {
			for i := range 5 {
				h := [5]int{other, other, other, other, other}
				h[i] = n
				l = append(l, pairHead(h))
			}
			for i := range 4 {
				e := [4]int{other, other, other, other}
				e[i] = n
				l = append(l, pairEnd(e, false), pairEnd(e, true))
			}
		}
	}
	l = append(l, pairHead([5]int{1, 2, 3, 4, 5}), pairHead([5]int{300, 20000, 9, 299, 70000}))
	l = append(l, pairEnd([4]int{1, 2, 3, 4}, true), pairEnd([4]int{300, 20000, 70000, 9999999}, false))
	for n := 1; n <= 160; n++ {
		l = append(l, pairData(data(n)), pairData(make([]byte, n)), pairData(bytes.Repeat([]byte{255}, n)))
	}
	return l
}

// few is a block of each kind, and those with the fewest and the most bytes.
func few() []pair {
	return []pair{
		pairHead([5]int{1, 2, 3, 4, 5}), pairHead([5]int{}), pairHead([5]int{top, top, top, top, top}), pairHead([5]int{300, 0, 9, 299, 128}),
		pairEnd([4]int{1, 2, 3, 4}, true), pairEnd([4]int{1, 2, 3, 4}, false), pairEnd([4]int{}, false), pairEnd([4]int{top, top, top, top}, true),
		pairData([]byte{7}), pairData([]byte("abc")), pairData(data(160)),
	}
}

// noBlocks is blocks that may not be.
func noBlocks() []segment.Block {
	l := []segment.Block{nil, segment.Data(nil), segment.Data{}, make(segment.Data, 0, 10), data(161), data(162), data(200), data(256), data(320), data(1 << 16)}
	for _, n := range noCounts {
		for _, other := range []int{0, 3, top, n} {
			for i := range 5 {
				h := [5]int{other, other, other, other, other}
				h[i] = n
				l = append(l, headOf(h))
			}
			for i := range 4 {
				e := [4]int{other, other, other, other}
				e[i] = n
				l = append(l, endOf(e, false), endOf(e, true))
			}
		}
	}
	return l
}

// same tells whether two blocks are of one kind, and have the same fields.
func same(a, b segment.Block) bool {
	d, isData := a.(segment.Data)
	o, alsoData := b.(segment.Data)
	if isData || alsoData {
		return isData && alsoData && bytes.Equal(d, o)
	}
	return a == b
}

// bytesOf is the bytes of a block that may be.
func bytesOf(t *testing.T, x segment.Block) []byte {
	t.Helper()
	b, e := segment.Bytes(x)
	if e != api.OK {
		t.Fatalf("Bytes(%#v): error %d", x, e)
	}
	return b
}

// wantBytes looks whether a block has these bytes, and is read from them.
func wantBytes(t *testing.T, x segment.Block, want []byte) {
	t.Helper()
	if b := bytesOf(t, x); !bytes.Equal(b, want) {
		t.Errorf("Bytes(%#v) = %v, want %v", x, b, want)
	}
	if y, e := segment.Read(want); !same(y, x) || e != api.OK {
		t.Errorf("Read(%v) = %#v, %d, want %#v", want, y, e, x)
	}
}

// wantNoBytes looks whether a block has no bytes.
func wantNoBytes(t *testing.T, x segment.Block) {
	t.Helper()
	if b, e := segment.Bytes(x); len(b) != 0 || e != api.ErrArg {
		t.Errorf("Bytes(%#v) = %v, %d, want ErrArg", x, b, e)
	}
}

// wantRefused looks whether bytes are refused with this error, beside nothing.
func wantRefused(t *testing.T, b []byte, want api.Errno) {
	t.Helper()
	if x, e := segment.Read(b); x != nil || e != want {
		t.Errorf("Read(%v) = %#v, %d, want nothing, %d", b, x, e, want)
	}
}

// wantNoForm looks whether bytes are no block's when they are sealed.
func wantNoForm(t *testing.T, b []byte) {
	t.Helper()
	wantRefused(t, sealed(b), api.ErrForm)
}

func TestMost(t *testing.T) {
	if segment.MostData != 160 {
		t.Errorf("MostData = %d, want 160", segment.MostData)
	}
}

// P15.1: the bytes of blocks.

// The chapter's example.
func TestExample(t *testing.T) {
	wantBytes(t, segment.Data{7}, []byte{68, 7, 225, 227, 117, 242})
}

func TestBytesWrittenOut(t *testing.T) {
	wantBytes(t, head(1, 2, 3, 4, 5), []byte{72, 1, 2, 3, 4, 5, 233, 252, 27, 36})
	wantBytes(t, segment.Head{}, []byte{72, 0, 0, 0, 0, 0, 84, 28, 137, 115})
	wantBytes(t, head(300, 0, 9, 299, 128), []byte{72, 172, 2, 0, 9, 171, 2, 128, 1, 170, 225, 43, 157})
	wantBytes(t, head(top, top, top, top, top), []byte{72, 128, 128, 128, 128, 4, 128, 128, 128, 128, 4,
		128, 128, 128, 128, 4, 128, 128, 128, 128, 4, 128, 128, 128, 128, 4, 112, 61, 191, 198})
	wantBytes(t, end(1, 2, 1, 3, true), []byte{84, 1, 2, 1, 3, 1, 159, 225, 227, 178})
	wantBytes(t, end(1, 2, 1, 3, false), []byte{84, 1, 2, 1, 3, 0, 85, 37, 118, 36})
	wantBytes(t, segment.End{}, []byte{84, 0, 0, 0, 0, 0, 96, 156, 159, 236})
	wantBytes(t, end(top, top, top, top, true), []byte{84, 128, 128, 128, 128, 4, 128, 128, 128, 128, 4,
		128, 128, 128, 128, 4, 128, 128, 128, 128, 4, 1, 93, 181, 43, 169})
	wantBytes(t, segment.Data("abc"), []byte{68, 97, 98, 99, 79, 99, 15, 16})
	wantBytes(t, segment.Data{0}, []byte{68, 0, 45, 221, 91, 191})
}

func TestBytesOfBlocks(t *testing.T) {
	for _, p := range pairs() {
		wantBytes(t, p.x, sealed(p.plain))
	}
}

func TestBytesOfNoBlocks(t *testing.T) {
	for _, x := range noBlocks() {
		wantNoBytes(t, x)
	}
}

// Each number of a Head and of an End at its edges, while the others may be.
func TestBytesOfEdges(t *testing.T) {
	for _, c := range []struct {
		n     int
		right bool
	}{{math.MinInt, false}, {-1, false}, {0, true}, {top - 1, true}, {top, true}, {top + 1, false}, {math.MaxInt, false}} {
		for i := range 5 {
			l := [5]int{1, 2, 3, 4, 5}
			l[i] = c.n
			if c.right {
				p := pairHead(l)
				wantBytes(t, p.x, sealed(p.plain))
			} else {
				wantNoBytes(t, headOf(l))
			}
		}
		for i := range 8 {
			l := [4]int{1, 2, 3, 4}
			l[i/2] = c.n
			if c.right {
				p := pairEnd(l, i%2 == 1)
				wantBytes(t, p.x, sealed(p.plain))
			} else {
				wantNoBytes(t, endOf(l, i%2 == 1))
			}
		}
	}
}

// Where each number of a block comes.
func TestOrderOfNumbers(t *testing.T) {
	for i := range 5 {
		var l [5]int
		l[i] = 1
		want := make([]byte, 6)
		want[0], want[1+i] = headByte, 1
		wantBytes(t, headOf(l), sealed(want))
	}
	for i := range 4 {
		var l [4]int
		l[i] = 1
		want := make([]byte, 6)
		want[0], want[1+i] = endByte, 1
		wantBytes(t, endOf(l, false), sealed(want))
	}
	wantBytes(t, segment.End{Last: true}, sealed([]byte{endByte, 0, 0, 0, 0, 1}))
}

func TestDataOfEachLength(t *testing.T) {
	for n := range 600 {
		if n >= 1 && n <= 160 {
			wantBytes(t, data(n), sealed(plainData(data(n))))
		} else {
			wantNoBytes(t, data(n))
			wantNoForm(t, plainData(data(n)))
		}
	}
}

func TestDataOfEachByte(t *testing.T) {
	for c := range 256 {
		wantBytes(t, segment.Data{byte(c)}, sealed([]byte{dataByte, byte(c)}))
		wantBytes(t, segment.Data{byte(c), 0}, sealed([]byte{dataByte, byte(c), 0}))
	}
}

// Data may look like any other block, or like a sealed one.
func TestDataOfOtherBlocks(t *testing.T) {
	for _, p := range few() {
		for _, b := range [][]byte{p.plain, sealed(p.plain)} {
			if len(b) <= 160 {
				wantBytes(t, segment.Data(b), sealed(plainData(b)))
			}
		}
	}
}

// A Head and an End may have the same numbers; only their first byte differs then.
func TestHeadsAndEndsAreDistinct(t *testing.T) {
	for _, n := range counts {
		a, b := bytesOf(t, head(n, n, n, n, 1)), bytesOf(t, end(n, n, n, n, true))
		if a[0] != headByte || b[0] != endByte || !bytes.Equal(a[1:len(a)-4], b[1:len(b)-4]) {
			t.Errorf("a Head's bytes are %v, and an End's %v", a, b)
		}
	}
}

// The longest blocks have room on a tape.
func TestLengthOfBlocks(t *testing.T) {
	for _, p := range pairs() {
		if n := len(bytesOf(t, p.x)); n > api.MaxTape || n < 6 {
			t.Errorf("%#v has %d bytes", p.x, n)
		}
	}
	for _, c := range []struct {
		x    segment.Block
		want int
	}{
		{head(0, 0, 0, 0, 0), 10}, {head(top, top, top, top, top), 30}, {end(0, 0, 0, 0, true), 10},
		{end(top, top, top, top, true), 26}, {data(1), 6}, {data(160), 165},
	} {
		if n := len(bytesOf(t, c.x)); n != c.want {
			t.Errorf("%#v has %d bytes, want %d", c.x, n, c.want)
		}
	}
}

// A pointer to a block is a Block as well: one that is nil is no block.
func TestNilPointers(t *testing.T) {
	for range 2 {
		wantNoBytes(t, (*segment.Head)(nil))
		wantNoBytes(t, (*segment.End)(nil))
		wantNoBytes(t, (*segment.Data)(nil))
		wantNoBytes(t, struct{ segment.Block }{})
		wantNoBytes(t, struct{ *segment.End }{})
	}
	wantBytes(t, head(1, 2, 3, 4, 5), sealed([]byte{headByte, 1, 2, 3, 4, 5}))
}

// P15.1: ErrSum of what isn't sealed.

func TestReadOfFewBytes(t *testing.T) {
	wantRefused(t, nil, api.ErrSum)
	wantRefused(t, []byte{}, api.ErrSum)
	for _, c := range []byte{0, 1, dataByte, headByte, endByte, 255} {
		for n := 1; n <= 3; n++ {
			wantRefused(t, bytes.Repeat([]byte{c}, n), api.ErrSum)
		}
	}
}

func TestReadOfUnsealed(t *testing.T) {
	for _, p := range few() {
		b := p.plain
		n := sum(b)
		wantRefused(t, b, api.ErrSum)
		wantRefused(t, append(bytes.Clone(b), 0, 0, 0, 0), api.ErrSum)
		wantRefused(t, append(bytes.Clone(b), byte(n>>24), byte(n>>16), byte(n>>8), byte(n)), api.ErrSum)
		wantRefused(t, append(bytes.Clone(b), byte(^n), byte(^n>>8), byte(^n>>16), byte(^n>>24)), api.ErrSum)
		wantRefused(t, append([]byte{byte(n), byte(n >> 8), byte(n >> 16), byte(n >> 24)}, b...), api.ErrSum)
	}
}

func TestReadOfEachChangedByte(t *testing.T) {
	for _, p := range few() {
		b := sealed(p.plain)
		for i := range b {
			for c := 1; c < 256; c++ {
				b[i] ^= byte(c)
				wantRefused(t, b, api.ErrSum)
				b[i] ^= byte(c)
			}
		}
	}
}

func TestReadOfCutOrLongerBlocks(t *testing.T) {
	for _, p := range few() {
		b := sealed(p.plain)
		for i := range b {
			wantRefused(t, b[:i], api.ErrSum)
		}
		for _, c := range []byte{0, 1, dataByte, headByte, endByte, 255} {
			wantRefused(t, append(bytes.Clone(b), c), api.ErrSum)
			wantRefused(t, append([]byte{c}, b...), api.ErrSum)
		}
		wantRefused(t, append(bytes.Clone(b), b...), api.ErrSum)
	}
}

// What isn't sealed is ErrSum, also where it is no block's.
func TestSumAheadOfForm(t *testing.T) {
	for _, b := range [][]byte{
		{}, {headByte}, {endByte}, {dataByte}, {76, 1, 97, 1, 0}, plain(headByte, 1, 2, 3, 4), plain(headByte, 1, 2, 3, 4, 5, 6),
		plain(endByte, 1, 2, 3, 4, 2), plain(headByte, top+1, 2, 3, 4, 5), plainData(data(161)), make([]byte, 300),
	} {
		wantNoForm(t, b)
		for i := range 32 {
			s := sealed(b)
			s[len(s)-4+i/8] ^= 1 << (i % 8)
			wantRefused(t, s, api.ErrSum)
		}
	}
}

// P15.1: ErrForm of what is sealed, but no block's.

func TestReadOfSealedNothing(t *testing.T) {
	wantNoForm(t, nil)
	wantRefused(t, []byte{0, 0, 0, 0}, api.ErrForm)
}

func TestReadOfOtherFirstBytes(t *testing.T) {
	for c := range 256 {
		if slices.Contains([]byte{headByte, endByte, dataByte}, byte(c)) {
			continue
		}
		wantNoForm(t, []byte{byte(c)})
		for _, p := range few() {
			wantNoForm(t, append([]byte{byte(c)}, p.plain...))
			wantNoForm(t, append([]byte{byte(c)}, p.plain[1:]...))
		}
	}
}

// Each kind has a first byte of its own, by which alone it is known.
func TestReadOfEachFirstByte(t *testing.T) {
	fields := []byte{1, 2, 3, 4, 1}
	for _, c := range []struct {
		first byte
		want  segment.Block
	}{
		{headByte, head(1, 2, 3, 4, 1)}, {endByte, end(1, 2, 3, 4, true)}, {dataByte, segment.Data(fields)},
	} {
		wantBytes(t, c.want, sealed(append([]byte{c.first}, fields...)))
	}
}

func TestReadOfEarlyEnd(t *testing.T) {
	for _, p := range few() {
		if p.plain[0] == dataByte {
			continue
		}
		for i := range p.plain {
			wantNoForm(t, p.plain[:i])
		}
	}
	wantNoForm(t, []byte{dataByte})
}

func TestReadOfBytesLeft(t *testing.T) {
	for _, p := range few() {
		if p.plain[0] == dataByte {
			continue
		}
		for c := range 256 {
			wantNoForm(t, append(bytes.Clone(p.plain), byte(c)))
		}
		wantNoForm(t, append(bytes.Clone(p.plain), p.plain...))
		wantNoForm(t, append(bytes.Clone(p.plain), make([]byte, 1000)...))
		wantNoForm(t, sealed(p.plain))
	}
}

func TestReadOfNumbersOutOfBounds(t *testing.T) {
	for _, n := range []uint64{
		top + 1, top + 2, 2 * top, 2*top + 1, 4 * top, 4*top + 1, 4*top + top, 1<<40 + 1, 1 << 62, 1<<63 - 1, 1 << 63, 1<<63 + 1, math.MaxUint64 - 1, math.MaxUint64,
	} {
		for _, other := range []uint64{0, 1, top, n} {
			for i := range 5 {
				l := []uint64{other, other, other, other, other}
				l[i] = n
				wantNoForm(t, plain(headByte, l...))
				l[4] = min(l[4], 1)
				if i < 4 {
					wantNoForm(t, plain(endByte, l...))
				}
			}
		}
	}
}

// The last number of an End is 0 or 1.
func TestReadOfLast(t *testing.T) {
	wantBytes(t, end(1, 2, 3, 4, false), sealed(plain(endByte, 1, 2, 3, 4, 0)))
	wantBytes(t, end(1, 2, 3, 4, true), sealed(plain(endByte, 1, 2, 3, 4, 1)))
	for n := uint64(2); n < 400; n++ {
		wantNoForm(t, plain(endByte, 1, 2, 3, 4, n))
	}
	for _, n := range []uint64{top, top + 1, 1 << 32, 1<<32 + 1, 1 << 63, 1<<63 + 1, math.MaxUint64} {
		wantNoForm(t, plain(endByte, 1, 2, 3, 4, n))
	}
}

// longer is encodings that aren't those of a number: with a digit 0 at the end, of
// more than 64 bits, or without an end.
func longer() [][]byte {
	var l [][]byte
	for _, n := range []uint64{0, 1, 4, 127, 128, 300, top} {
		b := number(n)
		b[len(b)-1] += 128
		l = append(l, append(bytes.Clone(b), 0), append(bytes.Clone(b), 128, 0), append(bytes.Clone(b), 128, 128, 0))
	}
	full := bytes.Repeat([]byte{255}, 9)
	return append(l, append(bytes.Clone(full), 2), append(bytes.Clone(full), 129, 0), append(bytes.Clone(full), 255, 1), full, []byte{128}, []byte{129})
}

func TestReadOfOtherEncodings(t *testing.T) {
	for _, wrong := range longer() {
		for _, first := range []byte{headByte, endByte} {
			for i := range 5 {
				l := [][]byte{{1}, {1}, {1}, {1}, {1}}
				l[i] = wrong
				wantNoForm(t, append([]byte{first}, slices.Concat(l...)...))
			}
			wantNoForm(t, append([]byte{first}, wrong...))
		}
		wantNoForm(t, wrong)
	}
}

// Memory, and P2.

func TestReadChangesAndKeepsNothing(t *testing.T) {
	for _, p := range few() {
		whole := append(sealed(p.plain), 9, 9, 9, 9, 9, 9, 9, 9)
		b := whole[:len(whole)-8]
		before := bytes.Clone(whole)
		x, e := segment.Read(b)
		if !same(x, p.x) || e != api.OK {
			t.Fatalf("Read = %#v, %d, want %#v", x, e, p.x)
		}
		if !bytes.Equal(whole, before) {
			t.Error("Read changed its bytes, or those behind them")
		}
		clear(whole)
		if !same(x, p.x) {
			t.Errorf("a change of the bytes made %#v of the block", x)
		}
		if d, ok := x.(segment.Data); ok {
			copy(whole, before)
			clear(d[:cap(d)])
			if !bytes.Equal(whole, before) {
				t.Error("a change of the Data is one of the bytes")
			}
		}
	}
	for _, b := range [][]byte{{}, {1, 2}, {0, 0, 0, 0}, sealed([]byte("HX")), sealed([]byte("D")), sealed(plainData(data(161)))} {
		before := bytes.Clone(b)
		segment.Read(b)
		if !bytes.Equal(b, before) {
			t.Errorf("%v became %v", before, b)
		}
	}
}

// Two results of Read are Data of their own.
func TestReadSharesNothing(t *testing.T) {
	b := sealed(plainData(data(160)))
	x, _ := segment.Read(b)
	y, _ := segment.Read(b)
	d := x.(segment.Data)
	clear(d[:cap(d)])
	if !same(y, data(160)) {
		t.Error("a change of Data is one of a later result")
	}
	wantBytes(t, data(160), b)
}

func TestBytesSharesNothing(t *testing.T) {
	for _, p := range few() {
		a, b := bytesOf(t, p.x), bytesOf(t, p.x)
		clear(a[:cap(a)])
		if !bytes.Equal(b, sealed(p.plain)) {
			t.Error("a change of the bytes is one of an earlier or later result")
		}
		wantBytes(t, p.x, sealed(p.plain))
	}
}

// Bytes leaves Data, and what is behind it, as it was.
func TestBytesChangesAndKeepsNothing(t *testing.T) {
	for n := range 200 {
		whole := data(n + 40)
		before := bytes.Clone(whole)
		b, e := segment.Bytes(whole[:n])
		if !bytes.Equal(whole, before) {
			t.Errorf("Data of %d bytes, or what is behind it, became another one", n)
		}
		clear(whole)
		if e == api.OK && !bytes.Equal(b, sealed(plainData(before[:n]))) {
			t.Errorf("a change of Data of %d bytes is one of the bytes", n)
		}
		copy(whole, before)
		clear(b[:cap(b)])
		if !bytes.Equal(whole, before) {
			t.Errorf("a change of the bytes is one of Data of %d bytes", n)
		}
	}
}

func TestResultsRepeat(t *testing.T) {
	l := pairs()
	slices.Reverse(l)
	none := noBlocks()
	for i, p := range l {
		wantBytes(t, p.x, sealed(p.plain))
		wantNoForm(t, plain(endByte, 1, 2, 3, 4, 2))
		wantNoBytes(t, none[i%len(none)])
		wantRefused(t, []byte("tape"), api.ErrSum)
		wantBytes(t, p.x, sealed(p.plain))
	}
}

// A model, by the chapter's words.

// cut is a number, and what is behind it; false: there is none.
func cut(b []byte) (uint64, []byte, bool) {
	size := 1 + slices.IndexFunc(b, func(c byte) bool { return c < 128 })
	if size < 1 || size > 10 {
		return 0, nil, false
	}
	n := uint64(0)
	for i, c := range b[:size] {
		n += uint64(c%128) << (7 * i)
	}
	return n, b[size:], bytes.Equal(number(n), b[:size])
}

// parsed is the block that should be read from sealed bytes; nil: there is none.
func parsed(b []byte) segment.Block {
	if len(b) == 0 || !bytes.Contains([]byte("HTD"), b[:1]) {
		return nil
	}
	first, b := b[0], b[1:]
	if first == dataByte {
		if len(b) < 1 || len(b) > 160 {
			return nil
		}
		return segment.Data(b)
	}
	var l [5]int
	for i := range l {
		n, left, ok := cut(b)
		if !ok || n > top {
			return nil
		}
		l[i], b = int(n), left
	}
	switch {
	case len(b) > 0:
		return nil
	case first == headByte:
		return headOf(l)
	case l[4] > 1:
		return nil
	}
	return endOf([4]int(l[:4]), l[4] == 1)
}

// wantAsModel looks whether sealed bytes are read as they should be, and whether the
// block has just these bytes.
func wantAsModel(t *testing.T, b []byte) {
	t.Helper()
	if x := parsed(b); x != nil {
		wantBytes(t, x, sealed(b))
	} else {
		wantNoForm(t, b)
	}
}

// dice yields numbers that look mixed, the same ones for each seed.
type dice uint64

// next is a number from 0 on, below n.
func (d *dice) next(n int) int {
	*d = *d*6364136223846793005 + 1442695040888963407
	return int(uint64(*d) >> 33 % uint64(n))
}

// Sealed bytes of each first byte, and all strings of up to six bytes of some few.
func TestReadOfAllShortBytes(t *testing.T) {
	some := []byte{0, 1, 2, 127, 128, 255}
	var try func(b []byte, more int)
	try = func(b []byte, more int) {
		wantAsModel(t, b)
		for _, c := range some[:min(more, 1)*len(some)] {
			try(append(bytes.Clone(b), c), more-1)
		}
	}
	try([]byte{headByte}, 6)
	try([]byte{endByte}, 6)
	try([]byte{dataByte}, 3)
}

// Sealed bytes of blocks that were changed, cut or lengthened.
func TestReadOfMixedBytes(t *testing.T) {
	d := dice(1)
	l := pairs()
	for range 30000 {
		b := bytes.Clone(l[d.next(len(l))].plain)
		for range d.next(3) {
			switch d.next(4) {
			case 0:
				b = b[:d.next(len(b)+1)]
			case 1:
				b = append(b, byte(d.next(256)))
			case 2:
				b = slices.Insert(b, d.next(len(b)+1), byte(d.next(256)))
			default:
				if i := d.next(len(b) + 1); i < len(b) {
					b[i] = []byte{0, 1, 2, 4, 5, 68, 72, 84, 127, 128, 132, 255}[d.next(12)]
				}
			}
		}
		wantAsModel(t, b)
	}
}

// FuzzRead tries further bytes: each as they are, and as those that are sealed.
func FuzzRead(f *testing.F) {
	for _, p := range few() {
		f.Add(p.plain)
		f.Add(sealed(p.plain))
	}
	f.Fuzz(func(t *testing.T, b []byte) {
		wantAsModel(t, b)
		if len(b) < 4 || !bytes.Equal(sealed(b[:len(b)-4]), b) {
			wantRefused(t, b, api.ErrSum)
			return
		}
		wantAsModel(t, b[:len(b)-4])
	})
}

// FuzzBytes tries further blocks of each kind.
func FuzzBytes(f *testing.F) {
	f.Add(1, 2, 3, 4, 5, []byte("abc"))
	f.Add(0, 0, 0, 0, 0, []byte{})
	f.Add(top, top+1, -1, 0, top, make([]byte, 161))
	f.Fuzz(func(t *testing.T, a, b, c, d, e int, s []byte) {
		fits := func(l ...int) bool { return slices.Min(l) >= 0 && slices.Max(l) <= top }
		want := func(fits bool, p pair) {
			if fits {
				wantBytes(t, p.x, sealed(p.plain))
			} else {
				wantNoBytes(t, p.x)
			}
		}
		want(fits(a, b, c, d, e), pairHead([5]int{a, b, c, d, e}))
		want(fits(a, b, c, d), pairEnd([4]int{a, b, c, d}, e%2 == 0))
		want(len(s) >= 1 && len(s) <= 160, pairData(s))
	})
}

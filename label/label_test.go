package label_test

import (
	"bytes"
	"math"
	"slices"
	"strings"
	"testing"

	"revenant/api"
	"revenant/label"
)

// top is the greatest Gen and Number.
const top = 1 << 30

// number is the bytes of a number, made without the layers below; so are those of
// all that follows.
func number(n uint64) []byte {
	var b []byte
	for ; n >= 128; n /= 128 {
		b = append(b, byte(n%128)+128)
	}
	return append(b, byte(n))
}

// sum is the checksum of bytes, step by step as the document words it.
func sum(b []byte) uint32 {
	n := uint32(math.MaxUint32)
	for _, c := range b {
		for i := range 8 {
			if n&1 != uint32(c)>>i&1 {
				n = n>>1 ^ 3945912366
			} else {
				n >>= 1
			}
		}
	}
	return ^n
}

func sealed(b []byte) []byte {
	n := sum(b)
	return append(bytes.Clone(b), byte(n), byte(n>>8), byte(n>>16), byte(n>>24))
}

// plain is what is sealed: an L, a pool's string, and numbers, whether they may be or
// not.
func plain(pool string, l ...uint64) []byte {
	b := append([]byte{76}, number(uint64(len(pool)))...)
	b = append(b, pool...)
	for _, n := range l {
		b = append(b, number(n)...)
	}
	return b
}

// block is the block of a label that may be.
func block(l label.Label) []byte {
	return sealed(plain(l.Pool, uint64(l.Gen), uint64(l.Number)))
}

func of(pool string, gen, number int) label.Label {
	return label.Label{Pool: pool, Gen: gen, Number: number}
}

// names is names of pools.
var names = []string{"a", "z", "l", "ab", "zz", "daily", "weekly", "monthly", "aaaaaaaa", "abcdefgh", "stuvwxyz", "zzzzzzzz"}

// noNames is what is no name of a pool.
var noNames = []string{
	"", "aaaaaaaaa", "abcdefghi", "zzzzzzzzzzzzzzzz", strings.Repeat("a", 127), strings.Repeat("a", 128),
	strings.Repeat("a", 200), strings.Repeat("a", 256), strings.Repeat("a", 257), strings.Repeat("b", 1<<16+1),
	"`", "{", "@", "[", "A", "Z", "0", "9", " ", "_", "-", "\x00", "\x7f", "\x80", "\xe1", "\xfa", "\xff",
	"Daily", "dailY", "daily ", " daily", "daily1", "1daily", "dai ly", "daily\n", "daily\x00", "\x00daily", "dai{ly", "dai`ly",
	"\u00e4", "da\u00e4", "\u0161", "\u0061\u0301", "\uff41", "\U00010061", "\ufffd", "a\x80", "a\xe1b", "aaaaaaa\xff",
	"aaaaaaa\u00e9", "\u00e9\u00e9\u00e9\u00e9\u00e9\u00e9\u00e9\u00e9", "AAAAAAAA", "aaaaaaaA", "abcdefg{", "abcdefg`", "abcdefgH",
}

// gens and counts are numbers that a Gen, and that a Number, may be.
var (
	gens   = []int{1, 2, 127, 128, 300, 16383, 16384, 2097151, 2097152, 268435455, 268435456, top - 1, top}
	counts = append([]int{0}, gens...)
)

// noCounts is numbers that neither may be.
var noCounts = []int{
	-1, -2, -128, -top, -top - 1, math.MinInt32, math.MinInt, math.MinInt + 1,
	top + 1, top + 2, 2*top - 1, 2 * top, 4*top - 1, 4 * top, 4*top + 1, 1<<40 + 5, 1 << 62, math.MaxInt,
}

// labels is labels that may be, with the edges of their fields.
func labels() []label.Label {
	var l []label.Label
	for _, pool := range names {
		for _, gen := range gens {
			for _, n := range counts {
				l = append(l, of(pool, gen, n))
			}
		}
	}
	return l
}

// noLabels is labels that may not be.
func noLabels() []label.Label {
	l := []label.Label{{}, {Pool: "a"}, {Gen: 1}, {Number: 1}, {Gen: 1, Number: 1}, of("", 0, -1), of("A", 0, -1), of("a", 0, -1)}
	for _, pool := range noNames {
		l = append(l, of(pool, 1, 0), of(pool, top, top), of(pool, 0, 0))
	}
	for _, n := range append([]int{0}, noCounts...) {
		l = append(l, of("a", n, 0), of("zzzzzzzz", n, top), of("a", n, n))
	}
	for _, n := range noCounts {
		l = append(l, of("a", 1, n), of("zzzzzzzz", top, n))
	}
	return l
}

func wantPool(t *testing.T, s string, want bool) {
	t.Helper()
	if label.Pool(s) != want {
		t.Errorf("Pool(%q) = %t", s, !want)
	}
}

// bytesOf is the bytes of a label that may be.
func bytesOf(t *testing.T, l label.Label) []byte {
	t.Helper()
	b, e := l.Bytes()
	if e != api.OK {
		t.Fatalf("Bytes() of %v: error %d", l, e)
	}
	return b
}

// wantBytes looks whether a label may be, has these bytes, and is read from them.
func wantBytes(t *testing.T, l label.Label, want []byte) {
	t.Helper()
	if !l.Right() {
		t.Errorf("Right() of %v is false", l)
	}
	if b := bytesOf(t, l); !bytes.Equal(b, want) {
		t.Errorf("Bytes() of %v = %v, want %v", l, b, want)
	}
	if m, e := label.Read(want); m != l || e != api.OK {
		t.Errorf("Read(%v) = %v, %d, want %v", want, m, e, l)
	}
}

// wantNoBytes looks whether a label may not be, and so has no bytes.
func wantNoBytes(t *testing.T, l label.Label) {
	t.Helper()
	if l.Right() {
		t.Errorf("Right() of %v is true", l)
	}
	if b, e := l.Bytes(); len(b) != 0 || e != api.ErrArg {
		t.Errorf("Bytes() of %v = %v, %d, want ErrArg", l, b, e)
	}
}

// wantRefused looks whether bytes are refused with this error, beside nothing.
func wantRefused(t *testing.T, b []byte, want api.Errno) {
	t.Helper()
	if l, e := label.Read(b); l != (label.Label{}) || e != want {
		t.Errorf("Read(%v) = %v, %d, want nothing, %d", b, l, e, want)
	}
}

// wantNoForm looks whether bytes are no label's when they are sealed.
func wantNoForm(t *testing.T, b []byte) {
	t.Helper()
	wantRefused(t, sealed(b), api.ErrForm)
}

func TestMost(t *testing.T) {
	if label.MostPool != 8 {
		t.Errorf("MostPool = %d, want 8", label.MostPool)
	}
}

// P14.1: the name of a pool.

func TestPoolsOfNames(t *testing.T) {
	for _, s := range names {
		wantPool(t, s, true)
	}
	for _, s := range noNames {
		wantPool(t, s, false)
	}
}

func TestPoolsOfEachLength(t *testing.T) {
	for _, letter := range []string{"a", "k", "z"} {
		for n := range 600 {
			wantPool(t, strings.Repeat(letter, n), n >= 1 && n <= 8)
		}
	}
}

// Each byte at each place of a name of each length.
func TestPoolsOfEachByte(t *testing.T) {
	for n := 1; n <= 8; n++ {
		for at := range n {
			b := bytes.Repeat([]byte{'m'}, n)
			for c := range 256 {
				b[at] = byte(c)
				wantPool(t, string(b), c >= 97 && c <= 122)
			}
		}
	}
}

// Characters of several bytes, also such whose last bits are a letter's.
func TestPoolsOfEachCharacter(t *testing.T) {
	for c := range rune(0x30000) {
		if s := string(c); label.Pool(s) != (c >= 97 && c <= 122) {
			t.Fatalf("Pool(%q) = %t", s, label.Pool(s))
		}
	}
}

// P14.1: labels and their blocks.

// The chapter's example.
func TestExample(t *testing.T) {
	wantBytes(t, of("a", 1, 0), []byte{76, 1, 97, 1, 0, 153, 207, 49, 94})
}

func TestBytesWrittenOut(t *testing.T) {
	wantBytes(t, of("z", 1, 1), []byte{76, 1, 122, 1, 1, 236, 71, 248, 81})
	wantBytes(t, of("daily", 3, 0), []byte{76, 5, 100, 97, 105, 108, 121, 3, 0, 95, 195, 69, 145})
	wantBytes(t, of("weekly", 128, 300), []byte{76, 6, 119, 101, 101, 107, 108, 121, 128, 1, 172, 2, 193, 19, 13, 11})
	wantBytes(t, of("abcdefgh", top, top), []byte{76, 8, 97, 98, 99, 100, 101, 102, 103, 104,
		128, 128, 128, 128, 4, 128, 128, 128, 128, 4, 54, 215, 113, 158})
	wantBytes(t, of("zzzzzzzz", top-1, 127), []byte{76, 8, 122, 122, 122, 122, 122, 122, 122, 122,
		255, 255, 255, 255, 3, 127, 141, 197, 231, 157})
}

func TestBytesOfLabels(t *testing.T) {
	for _, l := range labels() {
		wantBytes(t, l, block(l))
	}
}

func TestBytesOfNoLabels(t *testing.T) {
	for _, l := range noLabels() {
		wantNoBytes(t, l)
	}
}

func TestBytesOfEachPool(t *testing.T) {
	for c := range 256 {
		l := of("ab"+string([]byte{byte(c)}), 5, 6)
		if c >= 97 && c <= 122 {
			wantBytes(t, l, block(l))
		} else {
			wantNoBytes(t, l)
		}
	}
}

func TestBytesOfEdges(t *testing.T) {
	for _, c := range []struct {
		gen, number int
		right       bool
	}{
		{1, 0, true}, {1, top, true}, {top, 0, true}, {top, top, true}, {2, 1, true}, {top - 1, top - 1, true},
		{0, 0, false}, {0, top, false}, {-1, 0, false}, {top + 1, 0, false}, {1, -1, false}, {1, top + 1, false},
		{top, -1, false}, {top, top + 1, false}, {top + 1, top + 1, false}, {0, -1, false}, {-1, top + 1, false},
	} {
		l := of("tape", c.gen, c.number)
		if c.right {
			wantBytes(t, l, block(l))
		} else {
			wantNoBytes(t, l)
		}
	}
}

// P14.1: ErrSum of what isn't sealed.

func TestReadOfFewBytes(t *testing.T) {
	wantRefused(t, nil, api.ErrSum)
	wantRefused(t, []byte{}, api.ErrSum)
	for _, c := range []byte{0, 1, 76, 97, 255} {
		for n := 1; n <= 3; n++ {
			wantRefused(t, bytes.Repeat([]byte{c}, n), api.ErrSum)
		}
	}
}

func TestReadOfUnsealed(t *testing.T) {
	for _, l := range []label.Label{of("a", 1, 0), of("daily", 3, 0), of("abcdefgh", top, top)} {
		b := plain(l.Pool, uint64(l.Gen), uint64(l.Number))
		n := sum(b)
		wantRefused(t, b, api.ErrSum)
		wantRefused(t, append(bytes.Clone(b), 0, 0, 0, 0), api.ErrSum)
		wantRefused(t, append(bytes.Clone(b), byte(n>>24), byte(n>>16), byte(n>>8), byte(n)), api.ErrSum)
		wantRefused(t, append(bytes.Clone(b), byte(^n), byte(^n>>8), byte(^n>>16), byte(^n>>24)), api.ErrSum)
		wantRefused(t, append([]byte{byte(n), byte(n >> 8), byte(n >> 16), byte(n >> 24)}, b...), api.ErrSum)
	}
}

func TestReadOfEachChangedByte(t *testing.T) {
	for _, l := range []label.Label{of("a", 1, 0), of("weekly", 128, 300), of("abcdefgh", top, top)} {
		b := block(l)
		for i := range b {
			for c := 1; c < 256; c++ {
				b[i] ^= byte(c)
				wantRefused(t, b, api.ErrSum)
				b[i] ^= byte(c)
			}
		}
	}
}

func TestReadOfCutOrLongerBlock(t *testing.T) {
	for _, l := range []label.Label{of("a", 1, 0), of("weekly", 128, 300), of("abcdefgh", top, top)} {
		b := block(l)
		for i := range b {
			wantRefused(t, b[:i], api.ErrSum)
		}
		for _, c := range []byte{0, 1, 76, 255} {
			wantRefused(t, append(bytes.Clone(b), c), api.ErrSum)
			wantRefused(t, append([]byte{c}, b...), api.ErrSum)
		}
		wantRefused(t, append(bytes.Clone(b), b...), api.ErrSum)
	}
}

// What isn't sealed is ErrSum, also where it is no label's.
func TestSumAheadOfForm(t *testing.T) {
	for _, b := range [][]byte{
		{}, {76}, plain("A", 1, 0), plain("", 1, 0), plain("a", 0, 0), plain("a", 1, top+1), plain("aaaaaaaaa", 1, 0),
		plain("a", 1), plain("a", 1, 0, 0), {75, 1, 97, 1, 0}, {76, 129, 0, 97, 1, 0}, make([]byte, 300),
	} {
		wantNoForm(t, b)
		for i := range 32 {
			s := sealed(b)
			s[len(s)-4+i/8] ^= 1 << (i % 8)
			wantRefused(t, s, api.ErrSum)
		}
	}
}

// P14.1: ErrForm of what is sealed, but no label's.

func TestReadOfSealedNothing(t *testing.T) {
	wantNoForm(t, nil)
	wantRefused(t, []byte{0, 0, 0, 0}, api.ErrForm)
}

func TestReadOfOtherFirstBytes(t *testing.T) {
	for c := range 256 {
		if c == 76 {
			continue
		}
		wantNoForm(t, []byte{byte(c)})
		for _, l := range []label.Label{of("a", 1, 0), of("abcdefgh", top, top)} {
			b := plain(l.Pool, uint64(l.Gen), uint64(l.Number))
			wantNoForm(t, append([]byte{byte(c)}, b...))
			wantNoForm(t, b[1:])
			b[0] = byte(c)
			wantNoForm(t, b)
		}
	}
}

func TestReadOfEarlyEnd(t *testing.T) {
	for _, l := range []label.Label{of("a", 1, 0), of("daily", 3, 0), of("weekly", 128, 300), of("abcdefgh", top, top)} {
		b := plain(l.Pool, uint64(l.Gen), uint64(l.Number))
		for i := range b {
			wantNoForm(t, b[:i])
		}
	}
}

func TestReadOfBytesLeft(t *testing.T) {
	for _, l := range []label.Label{of("a", 1, 0), of("daily", 3, 0), of("abcdefgh", top, top)} {
		b := plain(l.Pool, uint64(l.Gen), uint64(l.Number))
		for c := range 256 {
			wantNoForm(t, append(bytes.Clone(b), byte(c)))
		}
		wantNoForm(t, append(bytes.Clone(b), b...))
		wantNoForm(t, append(bytes.Clone(b), make([]byte, 1000)...))
		wantNoForm(t, sealed(b))
	}
}

func TestReadOfNoPools(t *testing.T) {
	for _, pool := range noNames {
		wantNoForm(t, plain(pool, 1, 0))
		wantNoForm(t, plain(pool, top, top))
	}
	for n := range 600 {
		b := plain(strings.Repeat("a", n), 1, 0)
		if n < 1 || n > 8 {
			wantNoForm(t, b)
		} else {
			wantBytes(t, of(strings.Repeat("a", n), 1, 0), sealed(b))
		}
	}
}

// The length that is ahead of a pool isn't how many bytes there are.
func TestReadOfOtherLengths(t *testing.T) {
	for _, size := range []uint64{0, 1, 2, 3, 5, 6, 7, 8, 9, 10, 127, 128, 1 << 31, 1<<32 + 4, 1 << 63, 1<<63 + 4, math.MaxUint64, math.MaxUint64 - 3} {
		wantNoForm(t, slices.Concat([]byte{76}, number(size), []byte("tape"), number(300), number(5)))
	}
}

// Another length with which just what is behind the name is still a label: it is that
// label then.
func TestReadOfLettersAsNumbers(t *testing.T) {
	b := []byte{76, 2, 97, 98, 99, 100}
	wantBytes(t, of("ab", 99, 100), sealed(b))
	b[1] = 1
	wantNoForm(t, b)
	b[1] = 3
	wantNoForm(t, b)
}

func TestReadOfNumbersOutOfBounds(t *testing.T) {
	for _, n := range []uint64{
		top + 1, top + 2, 2 * top, 2*top + 1, 4 * top, 4*top + 1, 4*top + top, 1<<40 + 1, 1 << 62, 1<<63 - 1, 1 << 63, 1<<63 + 1, math.MaxUint64 - 1, math.MaxUint64,
	} {
		wantNoForm(t, plain("a", n, 0))
		wantNoForm(t, plain("zzzzzzzz", n, top))
		wantNoForm(t, plain("a", 1, n))
		wantNoForm(t, plain("zzzzzzzz", top, n))
		wantNoForm(t, plain("a", n, n))
	}
	wantNoForm(t, plain("a", 0, 0))
	wantNoForm(t, plain("a", 0, 1))
	wantNoForm(t, plain("a", 0, top))
}

// longer is encodings that aren't those of a number: with a digit 0 at the end, of
// more than 64 bits, or without an end.
func longer() [][]byte {
	var l [][]byte
	for _, n := range []uint64{0, 1, 4, 127, 128, 300, top} {
		b := number(n)
		b[len(b)-1] += 128
		l = append(l, append(bytes.Clone(b), 0), append(bytes.Clone(b), 128, 0), append(bytes.Clone(b), 128, 128, 0))
	}
	full := bytes.Repeat([]byte{255}, 9)
	return append(l, append(bytes.Clone(full), 2), append(bytes.Clone(full), 129, 0), append(bytes.Clone(full), 255, 1), full, []byte{128}, []byte{129})
}

func TestReadOfOtherEncodings(t *testing.T) {
	for _, wrong := range longer() {
		wantNoForm(t, slices.Concat([]byte{76}, wrong, []byte("tape"), []byte{1}, []byte{1}))
		wantNoForm(t, slices.Concat([]byte{76, 4}, []byte("tape"), wrong, []byte{1}))
		wantNoForm(t, slices.Concat([]byte{76, 4}, []byte("tape"), []byte{1}, wrong))
		wantNoForm(t, slices.Concat([]byte{76}, wrong))
		wantNoForm(t, wrong)
	}
}

// Memory, and P2.

func TestReadChangesAndKeepsNothing(t *testing.T) {
	want := of("daily", 3, 7)
	whole := append(block(want), 9, 9, 9, 9, 9, 9, 9, 9)
	b := whole[:len(whole)-8]
	before := bytes.Clone(whole)
	l, e := label.Read(b)
	if l != want || e != api.OK {
		t.Fatalf("Read = %v, %d, want %v", l, e, want)
	}
	if !bytes.Equal(whole, before) {
		t.Error("Read changed its bytes, or those behind them")
	}
	for i := range whole {
		whole[i] = 'x'
	}
	if l != want {
		t.Errorf("a change of the bytes made %v of the label", l)
	}
	for _, b := range [][]byte{{}, {1, 2}, {0, 0, 0, 0}, sealed([]byte("LX")), sealed(plain("A", 1, 0)), sealed(plain("a", 1, 0, 0))} {
		before := bytes.Clone(b)
		label.Read(b)
		if !bytes.Equal(b, before) {
			t.Errorf("%v became %v", before, b)
		}
	}
}

func TestBytesSharesNothing(t *testing.T) {
	for _, l := range []label.Label{of("a", 1, 0), of("abcdefgh", top, top)} {
		a, b := bytesOf(t, l), bytesOf(t, l)
		clear(a[:cap(a)])
		if !bytes.Equal(b, block(l)) {
			t.Error("a change of the bytes is one of an earlier or later result")
		}
		wantBytes(t, l, block(l))
	}
}

func TestResultsRepeat(t *testing.T) {
	l := labels()
	slices.Reverse(l)
	for i, x := range l {
		wantBytes(t, x, block(x))
		wantPool(t, noNames[i%len(noNames)], false)
		wantNoForm(t, plain("A", 1, 0))
		wantNoBytes(t, of("A", 1, 0))
		wantRefused(t, []byte("tape"), api.ErrSum)
		wantBytes(t, x, block(x))
	}
}

// A model, by the chapter's words.

// fits tells whether a label may be.
func fits(l label.Label) bool {
	letters := len(strings.Trim(l.Pool, "abcdefghijklmnopqrstuvwxyz")) == 0
	return letters && len(l.Pool) >= 1 && len(l.Pool) <= 8 && l.Gen >= 1 && l.Gen <= top && l.Number >= 0 && l.Number <= top
}

// cut is a number, and what is behind it; false: there is none.
func cut(b []byte) (uint64, []byte, bool) {
	size := 1 + slices.IndexFunc(b, func(c byte) bool { return c < 128 })
	if size < 1 || size > 10 {
		return 0, nil, false
	}
	n := uint64(0)
	for i, c := range b[:size] {
		n += uint64(c%128) << (7 * i)
	}
	return n, b[size:], bytes.Equal(number(n), b[:size])
}

// parsed is the label that should be read from sealed bytes; false: there is none.
func parsed(b []byte) (label.Label, bool) {
	if len(b) == 0 || b[0] != 76 {
		return label.Label{}, false
	}
	size, b, ok := cut(b[1:])
	if !ok || size > uint64(len(b)) {
		return label.Label{}, false
	}
	pool := string(b[:size])
	gen, b, ok := cut(b[size:])
	if !ok || gen > top {
		return label.Label{}, false
	}
	n, b, ok := cut(b)
	if !ok || n > top {
		return label.Label{}, false
	}
	l := of(pool, int(gen), int(n))
	return l, len(b) == 0 && fits(l)
}

// wantAsModel looks whether sealed bytes are read as they should be, and whether the
// label has just these bytes.
func wantAsModel(t *testing.T, b []byte) {
	t.Helper()
	if l, ok := parsed(b); ok {
		wantBytes(t, l, sealed(b))
	} else {
		wantNoForm(t, b)
	}
}

// dice yields numbers that look mixed, the same ones for each seed.
type dice uint64

// next is a number from 0 on, below n.
func (d *dice) next(n int) int {
	*d = *d*6364136223846793005 + 1442695040888963407
	return int(uint64(*d) >> 33 % uint64(n))
}

// Sealed bytes of an L and all strings of up to five bytes of some few.
func TestReadOfAllShortBytes(t *testing.T) {
	few := []byte{0, 1, 2, 9, 76, 96, 97, 122, 123, 127, 128, 255}
	var try func(b []byte, more int)
	try = func(b []byte, more int) {
		wantAsModel(t, b)
		for _, c := range few[:min(more, 1)*len(few)] {
			try(append(bytes.Clone(b), c), more-1)
		}
	}
	try([]byte{76}, 5)
}

// Sealed bytes of labels that were changed, cut or lengthened.
func TestReadOfMixedBytes(t *testing.T) {
	d := dice(1)
	l := labels()
	for range 30000 {
		x := l[d.next(len(l))]
		b := plain(x.Pool, uint64(x.Gen), uint64(x.Number))
		for range d.next(3) {
			switch d.next(4) {
			case 0:
				b = b[:d.next(len(b)+1)]
			case 1:
				b = append(b, byte(d.next(256)))
			case 2:
				i := d.next(len(b) + 1)
				b = slices.Insert(b, i, byte(d.next(256)))
			default:
				if i := d.next(len(b) + 1); i < len(b) {
					b[i] = []byte{0, 1, 2, 8, 76, 96, 97, 98, 122, 123, 127, 128, 255}[d.next(13)]
				}
			}
		}
		wantAsModel(t, b)
	}
}

// FuzzRead tries further bytes: each as they are, and as those that are sealed.
func FuzzRead(f *testing.F) {
	for _, l := range []label.Label{of("a", 1, 0), of("weekly", 128, 300), of("abcdefgh", top, top)} {
		f.Add(plain(l.Pool, uint64(l.Gen), uint64(l.Number)))
		f.Add(block(l))
	}
	f.Fuzz(func(t *testing.T, b []byte) {
		wantAsModel(t, b)
		if len(b) < 4 || !bytes.Equal(sealed(b[:len(b)-4]), b) {
			wantRefused(t, b, api.ErrSum)
			return
		}
		wantAsModel(t, b[:len(b)-4])
	})
}

// FuzzBytes tries further labels.
func FuzzBytes(f *testing.F) {
	f.Add("a", 1, 0)
	f.Add("abcdefgh", top, top)
	f.Add("A", 0, -1)
	f.Fuzz(func(t *testing.T, pool string, gen, n int) {
		l := of(pool, gen, n)
		wantPool(t, pool, fits(of(pool, 1, 0)))
		if fits(l) {
			wantBytes(t, l, block(l))
		} else {
			wantNoBytes(t, l)
		}
	})
}

package check_test

import (
	"bytes"
	"slices"
	"strings"
	"testing"

	"revenant/check"
)

// sums were worked out outside of Go, from the chapter's words.
var sums = []struct {
	b   string
	sum uint32
}{
	{"", 0},
	{"\x00", 0x3f522c72},
	{"\x01", 0xa9c7e8b8},
	{"\x80", 0xd463f45c},
	{"\xff", 0xff000000},
	{"a", 0x0da2aa8a},
	{"123456789", 0x2d3dd0ae},
	{"\x00\x00\x00\x00", 0xf7bccdc4},
	{"\xff\xff\xff\xff", 0xffffffff},
	{strings.Repeat("\x00", 100), 0x00bc434d},
	{string(counted(256)), 0xabc0d366},
}

func counted(n int) []byte {
	b := make([]byte, n)
	for i := range b {
		b[i] = byte(i)
	}
	return b
}

// byWords goes bit by bit, as the chapter does.
func byWords(b []byte) uint32 {
	n := uint32(0xffffffff)
	for _, c := range b {
		for bit := range 8 {
			differs := n&1 != uint32(c>>bit&1)
			n >>= 1
			if differs {
				n ^= 3945912366
			}
		}
	}
	return ^n
}

// mixed is n bytes without a plain pattern, the same ones each time.
func mixed(n int, seed uint32) []byte {
	b := make([]byte, n)
	for i := range b {
		seed = seed*1664525 + 1013904223
		b[i] = byte(seed >> 24)
	}
	return b
}

// flipped is a copy of b in which bit i is another one, counted from the lowest bit of the first byte.
func flipped(b []byte, i int) []byte {
	c := bytes.Clone(b)
	c[i/8] ^= 1 << (i % 8)
	return c
}

// P2.1: known checksums, that of no bytes among them.
func TestOf(t *testing.T) {
	for _, c := range sums {
		if n := check.Of([]byte(c.b)); n != c.sum {
			t.Errorf("Of(%q) = %#x, want %#x", c.b, n, c.sum)
		}
	}
}

// P2.1: the checksum is the one that the chapter's words describe.
func TestOfByWords(t *testing.T) {
	for i := range 1 << 16 {
		b := []byte{byte(i), byte(i >> 8)}
		if n := check.Of(b); n != byWords(b) {
			t.Fatalf("Of(%v) = %#x, want %#x", b, n, byWords(b))
		}
	}
	for n := range 300 {
		b := mixed(n, uint32(n))
		if got := check.Of(b); got != byWords(b) {
			t.Fatalf("%d bytes: %#x, want %#x", n, got, byWords(b))
		}
	}
}

// P2.1: no slices at all, and slices without bytes, have the checksum of no bytes.
func TestOfNothing(t *testing.T) {
	for i, l := range [][][]byte{nil, {}, {nil}, {{}}, {nil, {}, nil}} {
		if n := check.Of(l...); n != 0 {
			t.Errorf("%d: %#x", i, n)
		}
	}
}

// P2.1: where the bytes are cut into slices makes no difference, but their order does.
func TestOfSeveral(t *testing.T) {
	b := mixed(12, 7)
	want := check.Of(b)
	for i := range len(b) + 1 {
		for j := i; j <= len(b); j++ {
			if n := check.Of(b[:i], nil, b[i:j], []byte{}, b[j:]); n != want {
				t.Errorf("cut at %d and %d: %#x, want %#x", i, j, n, want)
			}
		}
	}
	if n := check.Of(slices.Collect(slices.Chunk(b, 1))...); n != want {
		t.Errorf("byte by byte: %#x, want %#x", n, want)
	}
	if check.Of([]byte("c"), []byte("ab")) == check.Of([]byte("ab"), []byte("c")) {
		t.Error("another order has the same checksum")
	}
}

// P2.1: sealed bytes are the bytes and their checksum, its lowest byte first.
func TestSeal(t *testing.T) {
	for _, c := range []struct{ b, want string }{
		{"", "\x00\x00\x00\x00"},
		{"\x00", "\x00\x72\x2c\x52\x3f"},
		{"\xff", "\xff\x00\x00\x00\xff"},
		{"a", "a\x8a\xaa\xa2\x0d"},
		{"123456789", "123456789\xae\xd0\x3d\x2d"},
	} {
		if s := check.Seal([]byte(c.b)); string(s) != c.want {
			t.Errorf("Seal(%q) = %q, want %q", c.b, s, c.want)
		}
	}
	if s := check.Seal(nil); string(s) != "\x00\x00\x00\x00" {
		t.Errorf("Seal(nil) = %v", s)
	}
}

// P2.1: what is sealed is opened, also if it was sealed before.
func TestOpenSealed(t *testing.T) {
	for n := range 100 {
		b := mixed(n, uint32(n))
		s := check.Seal(b)
		if got, ok := check.Open(s); !ok || !bytes.Equal(got, b) {
			t.Errorf("%d bytes: %v %v", n, got, ok)
		}
		if got, ok := check.Open(check.Seal(s)); !ok || !bytes.Equal(got, s) {
			t.Errorf("%d bytes, sealed twice: %v %v", n, got, ok)
		}
	}
}

// P2.1: of exactly four bytes, only the checksum of no bytes is sealed.
func TestOpenFour(t *testing.T) {
	none := make([]byte, 4)
	if b, ok := check.Open(none); !ok || len(b) != 0 {
		t.Errorf("Open(%v) = %v %v", none, b, ok)
	}
	for i := range 32 {
		mustNotOpen(t, flipped(none, i))
	}
	mustNotOpen(t, []byte("abcd"))
	mustNotOpen(t, []byte{255, 255, 255, 255})
}

// P2.1: fewer than four bytes are not sealed, whatever stands behind them.
func TestOpenShort(t *testing.T) {
	zeros := make([]byte, 8)
	for n := range 4 {
		mustNotOpen(t, zeros[:n])
		mustNotOpen(t, slices.Clip(zeros[:n]))
	}
	mustNotOpen(t, nil)
}

// P2.1: bytes that were never sealed.
func TestOpenUnsealed(t *testing.T) {
	n := check.Of([]byte("tape"))
	for _, b := range [][]byte{
		[]byte("tape"),
		[]byte("tape of bytes"),
		append([]byte("tape"), 0, 0, 0, 0),
		append([]byte("tape"), byte(n>>24), byte(n>>16), byte(n>>8), byte(n)),
		append([]byte("tape"), byte(^n), byte(^n>>8), byte(^n>>16), byte(^n>>24)),
		append([]byte("tale"), byte(n), byte(n>>8), byte(n>>16), byte(n>>24)),
		append([]byte{byte(n), byte(n >> 8), byte(n >> 16), byte(n >> 24)}, "tape"...),
	} {
		mustNotOpen(t, b)
	}
	s := check.Seal([]byte("tape"))
	for i := range s {
		mustNotOpen(t, s[:i])
	}
	mustNotOpen(t, append(s, 0))
}

// P2.1, P2.2: one bit that is another one, in the bytes or in the checksum.
func TestOpenFlipped(t *testing.T) {
	for n := range 40 {
		s := check.Seal(mixed(n, uint32(n)))
		for i := range 8 * len(s) {
			mustNotOpen(t, flipped(s, i))
		}
	}
}

// Beside false there are no bytes.
func mustNotOpen(t *testing.T, b []byte) {
	t.Helper()
	if got, ok := check.Open(b); ok || len(got) != 0 {
		t.Errorf("Open(%v) = %v %v", b, got, ok)
	}
}

// P2.2: sequences that differ in one bit.
func TestOneBit(t *testing.T) {
	for _, n := range []int{1, 2, 3, 4, 5, 32, 100, 500} {
		b := mixed(n, uint32(n))
		sum := check.Of(b)
		for i := range 8 * n {
			if check.Of(flipped(b, i)) == sum {
				t.Errorf("%d bytes, bit %d: the same checksum", n, i)
			}
		}
	}
}

// P2.2: sequences that differ only within 32 bits, which may begin anywhere in a byte.
func TestRangeOfBits(t *testing.T) {
	b := mixed(20, 20)
	sum := check.Of(b)
	seed := uint32(1)
	for first := range 8*len(b) - 31 {
		for range 100 {
			seed = seed*1664525 + 1013904223
			if seed != 0 && check.Of(differing(b, first, seed)) == sum {
				t.Errorf("bits %#x from %d on: the same checksum", seed, first)
			}
		}
	}
}

// differing is a copy of b in which the bits of mask, from bit first on, are other ones.
func differing(b []byte, first int, mask uint32) []byte {
	for i := range 32 {
		if mask>>i&1 == 1 {
			b = flipped(b, first+i)
		}
	}
	return b
}

// P2.2: several other bits change the checksum by the changes of each, exclusive-ored. So no choice of bits within
// a range leaves it the same if none of the changes is made of others there: this covers every choice.
func TestRangeOfBitsIndependent(t *testing.T) {
	b := mixed(20, 20)
	sum := check.Of(b)
	for first := range 8*len(b) - 31 {
		var changes []uint32
		for i := range 32 {
			changes = append(changes, check.Of(flipped(b, first+i))^sum)
		}
		if !independent(changes) {
			t.Errorf("from bit %d on: some choice of bits leaves the checksum", first)
		}
	}
}

func independent(l []uint32) bool {
	var byTop [32]uint32
	for _, n := range l {
		for top := 31; top >= 0 && n != 0; top-- {
			if n>>top&1 == 0 {
				continue
			}
			if byTop[top] == 0 {
				byTop[top] = n
				break
			}
			n ^= byTop[top]
		}
		if n == 0 {
			return false
		}
	}
	return true
}

// Rule 3: no call changes what it is given, nor what stands behind its length.
func TestArgumentsStay(t *testing.T) {
	b := mixed(40, 3)
	copy(b, check.Seal(b[:10]))
	before := bytes.Clone(b)
	check.Of(b[:10], b[20:30], b[:0])
	check.Seal(b[:10])
	check.Seal(b[:0])
	check.Open(b[:14])
	check.Open(b[:13])
	if !bytes.Equal(b, before) {
		t.Errorf("%v, was %v", b, before)
	}
}

// Rule 3: results share no bytes with arguments, even where those have room.
func TestResultsAreNew(t *testing.T) {
	room := make([]byte, 10, 100)
	s := check.Seal(room)
	before := bytes.Clone(s)
	clear(room[:cap(room)])
	room[0] = 1
	if !bytes.Equal(s, before) {
		t.Errorf("Seal: %v, was %v", s, before)
	}

	b, ok := check.Open(s)
	if !ok || !bytes.Equal(b, make([]byte, 10)) {
		t.Fatalf("Open(%v) = %v %v", s, b, ok)
	}
	s[0] = 7
	if b[0] != 0 {
		t.Error("Open: changed with its argument")
	}
	b[1] = 9
	if s[1] != 0 {
		t.Error("Open: its argument changed with it")
	}
	_ = append(b, 1, 2, 3, 4)
	if !bytes.Equal(s[10:], before[10:]) {
		t.Error("Open: appending to it changed its argument")
	}
}

// P2: the same call has the same result, whatever was called in between.
func TestSameAgain(t *testing.T) {
	b := mixed(50, 50)
	sum, s := check.Of(b), check.Seal(b)
	check.Of([]byte("other"))
	check.Seal([]byte("other"))
	check.Open([]byte("other"))
	if check.Of(b) != sum || !bytes.Equal(check.Seal(b), s) {
		t.Error("another result")
	}
	for range 2 {
		if got, ok := check.Open(s); !ok || !bytes.Equal(got, b) {
			t.Errorf("Open = %v %v", got, ok)
		}
	}
}

// P1, P2.1: whatever bytes come, Open takes exactly what Seal makes.
func FuzzOpen(f *testing.F) {
	f.Add([]byte(nil))
	f.Add([]byte{0, 0, 0, 0})
	f.Add([]byte("a\x8a\xaa\xa2\x0d"))
	f.Fuzz(func(t *testing.T, b []byte) {
		if got, ok := check.Open(b); ok && !bytes.Equal(check.Seal(got), b) {
			t.Errorf("Open(%v) = %v", b, got)
		}
		if got, ok := check.Open(check.Seal(b)); !ok || !bytes.Equal(got, b) {
			t.Errorf("sealed %v, opened %v %v", b, got, ok)
		}
	})
}

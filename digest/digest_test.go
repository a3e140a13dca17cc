package digest_test

import (
	"bytes"
	"math/big"
	"slices"
	"strings"
	"testing"

	"revenant/digest"
)

type Digest = digest.Digest

// The greatest of the numbers that the chapter takes.
const (
	greatestSum = 1<<62 - 1
	greatestLen = 1<<62 - 1
)

// digests were worked out outside of Go, from the chapter's words.
var digests = []struct {
	b string
	d Digest
}{
	{"", Digest{}},
	{"\x00", Digest{1, 1}},
	{"\x01", Digest{1, 2}},
	{"\xff", Digest{1, 256}},
	{"\x00\x00", Digest{2, 1000004}},
	{"\x00\x01", Digest{2, 1000005}},
	{"\x01\x00", Digest{2, 2000007}},
	{"tape", Digest{4, 1709000543175306932}},
	{"123456789", Digest{9, 1069075690822774162}},
	{counted(256), Digest{256, 1605053934867085507}},
	{strings.Repeat("\xff", 100), Digest{100, 1977446471883930510}},
	{strings.Repeat("\x00", 1000), Digest{1000, 37342385984756649}},
}

func counted(n int) string {
	b := make([]byte, n)
	for i := range b {
		b[i] = byte(i)
	}
	return string(b)
}

// mixed is n bytes without a plain pattern, the same ones each time.
func mixed(n int, seed uint32) []byte {
	b := make([]byte, n)
	for i := range b {
		seed = seed*1664525 + 1013904223
		b[i] = byte(seed >> 24)
	}
	return b
}

// byWords appends byte by byte, as the chapter does.
func byWords(b []byte) Digest {
	sum, prime, base := new(big.Int), number(digest.Prime), number(digest.Base)
	for _, c := range b {
		sum.Mul(sum, base)
		sum.Add(sum, number(uint64(c)+1))
		sum.Mod(sum, prime)
	}
	return Digest{uint64(len(b)), sum.Uint64()}
}

// joinedByWords goes element by element, as P3.1 does for numbers that are no digest.
func joinedByWords(l ...Digest) Digest {
	n, sum, prime := uint64(0), new(big.Int), number(digest.Prime)
	for _, d := range l {
		n += d.Len
		sum.Mul(sum, new(big.Int).Exp(number(digest.Base), number(d.Len), prime))
		sum.Add(sum, number(d.Sum))
		sum.Mod(sum, prime)
	}
	return Digest{n, sum.Uint64()}
}

func number(n uint64) *big.Int {
	return new(big.Int).SetUint64(n)
}

func TestConstants(t *testing.T) {
	if uint64(digest.Prime) != 2305843009213693951 || digest.Base != 1000003 {
		t.Error(uint64(digest.Prime), digest.Base)
	}
}

// P3.1: known digests: that of no bytes, and that of the byte 0, among them.
func TestOf(t *testing.T) {
	for _, c := range digests {
		if d := digest.Of([]byte(c.b)); d != c.d {
			t.Errorf("Of(%q) = %v, want %v", c.b, d, c.d)
		}
	}
	if d := digest.Of(nil); d != (Digest{}) {
		t.Errorf("Of(nil) = %v", d)
	}
}

// P3.1: the digest is the one that the chapter's words describe.
func TestOfByWords(t *testing.T) {
	for i := range 1 << 16 {
		b := []byte{byte(i), byte(i >> 8)}
		if d := digest.Of(b); d != byWords(b) {
			t.Fatalf("Of(%v) = %v, want %v", b, d, byWords(b))
		}
	}
	for n := range 300 {
		b := mixed(n, uint32(n))
		if d := digest.Of(b); d != byWords(b) {
			t.Fatalf("%d bytes: %v, want %v", n, d, byWords(b))
		}
	}
}

// P3.1: bytes 0 count, wherever they stand: sequences that they alone tell apart have other digests.
func TestOfZeros(t *testing.T) {
	for n := range 100 {
		d := digest.Of(make([]byte, n))
		if longer := digest.Of(make([]byte, n+1)); longer.Sum == d.Sum || longer.Len != d.Len+1 {
			t.Errorf("%d bytes: %v, one more: %v", n, d, longer)
		}
	}
	if digest.Of([]byte{0, 7}).Sum == digest.Of([]byte{7}).Sum {
		t.Error("a byte 0 ahead makes no difference")
	}
}

// P3.1: no digests at all, and those of no bytes, come to the digest of no bytes.
func TestJoinNothing(t *testing.T) {
	none := digest.Of(nil)
	for i, l := range [][]Digest{nil, {}, {none}, {none, none, none}} {
		if d := digest.Join(l...); d != (Digest{}) {
			t.Errorf("%d: %v", i, d)
		}
	}
}

// P3.1: one digest alone is joined to itself.
func TestJoinOne(t *testing.T) {
	for _, c := range digests {
		if d := digest.Join(c.d); d != c.d {
			t.Errorf("Join(%v) = %v", c.d, d)
		}
	}
}

// P3.1, P3.3: where a sequence is cut into parts makes no difference; some of these are empty.
func TestJoinParts(t *testing.T) {
	b := mixed(40, 7)
	want := digest.Of(b)
	for i := range len(b) + 1 {
		for j := i; j <= len(b); j++ {
			d := digest.Join(digest.Of(b[:i]), digest.Of(nil), digest.Of(b[i:j]), digest.Of(b[j:]), digest.Of(nil))
			if d != want {
				t.Errorf("cut at %d and %d: %v, want %v", i, j, d, want)
			}
		}
	}
}

// P3.3: parts of every length, and parts of parts.
func TestJoinChunks(t *testing.T) {
	b := mixed(1000, 8)
	want := digest.Of(b)
	for n := 1; n <= len(b); n++ {
		var l []Digest
		for c := range slices.Chunk(b, n) {
			l = append(l, digest.Of(c))
		}
		if d := digest.Join(l...); d != want {
			t.Errorf("%d bytes each: %v, want %v", n, d, want)
		}
		k := len(l) / 2
		if d := digest.Join(digest.Join(l[:k]...), digest.Join(l[k:]...)); d != want {
			t.Errorf("%d bytes each, joined half by half: %v, want %v", n, d, want)
		}
	}
}

// P3.1: the order of the parts makes a difference.
func TestJoinOrder(t *testing.T) {
	a, b := digest.Of([]byte("ab")), digest.Of([]byte("c"))
	if d := digest.Join(a, b); d != digest.Of([]byte("abc")) {
		t.Errorf("ab, c: %v", d)
	}
	if d := digest.Join(b, a); d != digest.Of([]byte("cab")) || d == digest.Join(a, b) {
		t.Errorf("c, ab: %v", d)
	}
}

// P3.1: numbers that are no digest of a sequence, worked out outside of Go.
func TestJoinNumbers(t *testing.T) {
	const prime = digest.Prime
	for _, c := range []struct {
		l    []Digest
		want Digest
	}{
		{[]Digest{{0, prime - 1}}, Digest{0, prime - 1}},
		{[]Digest{{0, prime}}, Digest{0, 0}},
		{[]Digest{{0, prime + 1}}, Digest{0, 1}},
		{[]Digest{{5, greatestSum - 1}}, Digest{5, 0}},
		{[]Digest{{0, greatestSum}}, Digest{0, 1}},
		{[]Digest{{greatestLen, prime - 1}}, Digest{greatestLen, prime - 1}},
		{[]Digest{{1, 1}, {0, prime - 1}}, Digest{1, 0}},
		{[]Digest{{3, 4}, {prime - 1, 0}}, Digest{prime + 2, 4}},
		{[]Digest{{3, 4}, {prime, 0}}, Digest{prime + 3, 4000012}},
		{[]Digest{{3, 4}, {1 << 63, 5}}, Digest{1<<63 + 3, 1407331797351226272}},
		{[]Digest{{1, prime - 1}, {greatestLen, prime - 1}}, Digest{1 << 62, 1305834009186693923}},
		{[]Digest{{7, greatestSum}, {greatestLen, greatestSum}}, Digest{greatestLen + 7, 1000009000027000028}},
		{[]Digest{{1, greatestSum}, {2, greatestSum}, {3, greatestSum}}, Digest{6, 1618164284988614325}},
	} {
		if d := digest.Join(c.l...); d != c.want {
			t.Errorf("Join(%v) = %v, want %v", c.l, d, c.want)
		}
	}
}

// edges are Lens and Sums next to which the arithmetic may go wrong; those of Sums are below 2^62, as P3.1 says.
func edges() []uint64 {
	return []uint64{
		0, 1, 2, 256, digest.Base - 1, digest.Base, 1 << 31, 1<<32 - 1, 1<<60 + 12345, digest.Prime / 2,
		digest.Prime - 2, digest.Prime - 1, digest.Prime, digest.Prime + 1, greatestSum - 1, greatestSum,
	}
}

func edgeDigests() []Digest {
	var l []Digest
	for _, n := range edges() {
		for _, sum := range edges() {
			l = append(l, Digest{n, sum})
		}
	}
	return l
}

// P3.1: whatever the numbers are, Join is what its words say.
func TestJoinByWords(t *testing.T) {
	for _, a := range edgeDigests() {
		for _, b := range edgeDigests() {
			if d := digest.Join(a, b); d != joinedByWords(a, b) {
				t.Fatalf("Join(%v, %v) = %v, want %v", a, b, d, joinedByWords(a, b))
			}
		}
	}
}

// P3.2: a part cut off behind any place.
func TestCut(t *testing.T) {
	for n := range 60 {
		b := mixed(n, uint32(n))
		all := digest.Of(b)
		for i := range n + 1 {
			if d, ok := digest.Cut(all, digest.Of(b[:i])); !ok || d != digest.Of(b[i:]) {
				t.Errorf("%d bytes, cut at %d: %v %v, want %v", n, i, d, ok, digest.Of(b[i:]))
			}
		}
	}
}

// P3.2: no bytes cut off, and none left.
func TestCutNothing(t *testing.T) {
	for _, c := range digests {
		if d, ok := digest.Cut(c.d, Digest{}); !ok || d != c.d {
			t.Errorf("nothing cut off %v: %v %v", c.d, d, ok)
		}
		if d, ok := digest.Cut(c.d, c.d); !ok || d != (Digest{}) {
			t.Errorf("%v cut off itself: %v %v", c.d, d, ok)
		}
	}
}

// P3.2: numbers that are no digest of a sequence, worked out outside of Go.
func TestCutNumbers(t *testing.T) {
	const prime = digest.Prime
	for _, c := range []struct{ all, head, want Digest }{
		{Digest{0, 0}, Digest{0, prime - 1}, Digest{0, 1}},
		{Digest{1, 0}, Digest{0, prime - 1}, Digest{1, 1000003}},
		{Digest{4, 5}, Digest{4, 6}, Digest{0, prime - 1}},
		{Digest{prime - 1, 7}, Digest{0, 7}, Digest{prime - 1, 0}},
		{Digest{greatestLen, 0}, Digest{1, 1}, Digest{greatestLen - 1, 2305842009207693942}},
		{Digest{greatestLen, 5}, Digest{greatestLen, 6}, Digest{0, prime - 1}},
		{Digest{greatestLen, prime - 1}, Digest{0, prime - 1}, Digest{greatestLen, 1000009000027000026}},
		{Digest{greatestLen, prime - 1}, Digest{1 << 61, 12345}, Digest{prime, 2305842996868656915}},
	} {
		if d, ok := digest.Cut(c.all, c.head); !ok || d != c.want {
			t.Errorf("Cut(%v, %v) = %v %v, want %v", c.all, c.head, d, ok, c.want)
		}
	}
}

// P3.2: false exactly if the head is longer, or a Sum isn't below Prime; else the Join after head is all.
func TestCutByWords(t *testing.T) {
	for _, all := range edgeDigests() {
		for _, head := range edgeDigests() {
			mustCut(t, all, head)
		}
	}
}

func mustCut(t *testing.T, all, head Digest) {
	t.Helper()
	d, ok := digest.Cut(all, head)
	if want := head.Len <= all.Len && all.Sum < digest.Prime && head.Sum < digest.Prime; ok != want {
		t.Fatalf("Cut(%v, %v) = %v %v", all, head, d, ok)
	}
	if !ok && d != (Digest{}) {
		t.Fatalf("Cut(%v, %v) = %v beside false", all, head, d)
	}
	if ok && (joinedByWords(head, d) != all || d.Sum >= digest.Prime) {
		t.Fatalf("Cut(%v, %v) = %v, which joins to %v", all, head, d, joinedByWords(head, d))
	}
}

// P3.2: a head that is longer than all, by one byte and by many.
func TestCutLonger(t *testing.T) {
	b := mixed(50, 5)
	for i := range b {
		for j := i + 1; j <= len(b); j++ {
			mustNotCut(t, digest.Of(b[:i]), digest.Of(b[:j]))
		}
	}
	mustNotCut(t, Digest{}, Digest{1, 0})
	mustNotCut(t, Digest{greatestLen - 1, 0}, Digest{greatestLen, 0})
}

// P3.2: a Sum that isn't below Prime, on either side, and on both.
func TestCutGreatSum(t *testing.T) {
	for _, sum := range []uint64{digest.Prime, digest.Prime + 1, greatestSum, greatestSum + 1, 1<<64 - 1} {
		mustNotCut(t, Digest{5, sum}, Digest{2, 1})
		mustNotCut(t, Digest{5, 1}, Digest{2, sum})
		mustNotCut(t, Digest{5, sum}, Digest{2, sum})
		mustNotCut(t, Digest{5, sum}, Digest{5, sum})
		mustNotCut(t, Digest{0, sum}, Digest{0, 0})
	}
}

// Beside false there is no digest.
func mustNotCut(t *testing.T, all, head Digest) {
	t.Helper()
	if d, ok := digest.Cut(all, head); ok || d != (Digest{}) {
		t.Errorf("Cut(%v, %v) = %v %v", all, head, d, ok)
	}
}

// Rule 3: no call changes what it is given, nor what stands behind its length.
func TestArgumentsStay(t *testing.T) {
	b := mixed(40, 3)
	bytesBefore := bytes.Clone(b)
	digest.Of(b[:10])
	if !bytes.Equal(b, bytesBefore) {
		t.Errorf("%v, was %v", b, bytesBefore)
	}

	l := []Digest{{1, greatestSum}, {2, digest.Prime}, {3, 3}, {4, 4}, {5, greatestSum}}
	before := slices.Clone(l)
	digest.Join(l[:3]...)
	digest.Join(l[:0]...)
	digest.Cut(l[4], l[2])
	digest.Cut(l[3], l[2])
	if !slices.Equal(l, before) {
		t.Errorf("%v, was %v", l, before)
	}
}

// Rule 3: what stands behind the length is not read.
func TestBehindLength(t *testing.T) {
	if d := digest.Of([]byte("tape of bytes")[:4]); d != digest.Of([]byte("tape")) {
		t.Error(d)
	}
	if d := digest.Join([]Digest{{1, 7}, {1, 8}}[:1]...); d != (Digest{1, 7}) {
		t.Error(d)
	}
}

// P1: Lens and Sums beyond what the chapter promises for end, and don't panic.
func TestEnds(t *testing.T) {
	greatest := Digest{1<<64 - 1, 1<<64 - 1}
	digest.Join(greatest, greatest, greatest)
	digest.Cut(greatest, greatest)
	digest.Cut(Digest{1<<64 - 1, 1}, Digest{0, 1})
}

// P2: the same call has the same result, whatever was called in between.
func TestSameAgain(t *testing.T) {
	b := mixed(50, 50)
	all, head := digest.Of(b), digest.Of(b[:20])
	tail, _ := digest.Cut(all, head)
	digest.Of([]byte("other"))
	digest.Join(head, head)
	digest.Cut(head, all)
	if d := digest.Of(b); d != all {
		t.Errorf("Of: %v, was %v", d, all)
	}
	if d, ok := digest.Cut(all, head); !ok || d != tail {
		t.Errorf("Cut: %v %v, was %v", d, ok, tail)
	}
	for range 2 {
		if d := digest.Join(head, tail); d != all {
			t.Errorf("Join: %v, want %v", d, all)
		}
	}
}

// P3.1 to P3.3: whatever bytes come, and wherever they are cut.
func FuzzParts(f *testing.F) {
	f.Add([]byte(nil), uint16(0))
	f.Add([]byte{0}, uint16(1))
	f.Add([]byte("tape"), uint16(2))
	f.Fuzz(func(t *testing.T, b []byte, at uint16) {
		k := int(at) % (len(b) + 1)
		all, head, tail := digest.Of(b), digest.Of(b[:k]), digest.Of(b[k:])
		if all != byWords(b) || digest.Join(head, tail) != all {
			t.Errorf("%v, cut at %d: %v %v %v", b, k, all, head, tail)
		}
		if d, ok := digest.Cut(all, head); !ok || d != tail {
			t.Errorf("%v, cut at %d: %v %v", b, k, d, ok)
		}
	})
}

// P3.1, P3.2: whatever numbers come.
func FuzzNumbers(f *testing.F) {
	f.Add(uint64(0), uint64(0), uint64(0), uint64(0))
	f.Add(uint64(greatestLen), uint64(digest.Prime-1), uint64(1), uint64(greatestSum))
	f.Fuzz(func(t *testing.T, allLen, allSum, headLen, headSum uint64) {
		all, head := Digest{allLen, allSum}, Digest{headLen, headSum}
		digest.Join(all, head)
		all.Sum, head.Sum = all.Sum&greatestSum, head.Sum&greatestSum
		all.Len, head.Len = all.Len&greatestLen, head.Len&greatestLen
		if d := digest.Join(head, all); d != joinedByWords(head, all) {
			t.Errorf("Join(%v, %v) = %v", head, all, d)
		}
		mustCut(t, all, head)
	})
}

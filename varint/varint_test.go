package varint_test

import (
	"bytes"
	"math"
	"slices"
	"strings"
	"testing"

	"revenant/api"
	"revenant/varint"
)

// numbers are ordinary ones and those at which an encoding gets one byte longer.
func numbers() []uint64 {
	l := []uint64{0, 1, 5, 300, 1000003, math.MaxInt64, math.MaxUint64, math.MaxUint64 - 1}
	for bits := 7; bits < 64; bits += 7 {
		l = append(l, 1<<bits-1, 1<<bits, 1<<bits+1)
	}
	return l
}

var encodings = []struct {
	n uint64
	b string
}{
	{0, "\x00"},
	{1, "\x01"},
	{127, "\x7f"},
	{128, "\x80\x01"},
	{255, "\xff\x01"},
	{300, "\xac\x02"},
	{16383, "\xff\x7f"},
	{16384, "\x80\x80\x01"},
	{1<<63 - 1, "\xff\xff\xff\xff\xff\xff\xff\xff\x7f"},
	{1 << 63, "\x80\x80\x80\x80\x80\x80\x80\x80\x80\x01"},
	{math.MaxUint64, "\xff\xff\xff\xff\xff\xff\xff\xff\xff\x01"},
}

// P1.1: the bytes of a number.
func TestPutNumber(t *testing.T) {
	for _, c := range encodings {
		if b := varint.Put(nil, c.n); string(b) != c.b {
			t.Errorf("Put(nil, %d) = %v, want %v", c.n, b, []byte(c.b))
		}
	}
}

// P1.1: what is put follows b, and comes in order.
func TestPutSeveral(t *testing.T) {
	for i, c := range []struct {
		b    string
		l    []uint64
		want string
	}{
		{"", nil, ""},
		{"ab", nil, "ab"},
		{"", []uint64{0}, "\x00"},
		{"\xff", []uint64{300}, "\xff\xac\x02"},
		{"ab", []uint64{300, 0, 127, 128}, "ab\xac\x02\x00\x7f\x80\x01"},
	} {
		if b := varint.Put([]byte(c.b), c.l...); string(b) != c.want {
			t.Errorf("%d: %v, want %v", i, b, []byte(c.want))
		}
	}
	if b := varint.Put(nil); len(b) != 0 {
		t.Errorf("Put(nil) = %v", b)
	}
}

// P1.1: the bytes of a string are those of its length, and its own.
func TestPutStrings(t *testing.T) {
	long := strings.Repeat("x", 300)
	for i, c := range []struct {
		b    string
		l    []string
		want string
	}{
		{"", nil, ""},
		{"ab", nil, "ab"},
		{"", []string{""}, "\x00"},
		{"ab", []string{"c", "", "def"}, "ab\x01c\x00\x03def"},
		{"a", []string{long}, "a\xac\x02" + long},
	} {
		var l [][]byte
		for _, s := range c.l {
			l = append(l, []byte(s))
		}
		if b := varint.Bytes([]byte(c.b), l...); string(b) != c.want {
			t.Errorf("%d: %q, want %q", i, b, c.want)
		}
	}
	if b := varint.Bytes(nil, nil, nil); string(b) != "\x00\x00" {
		t.Errorf("two nil strings: %v", b)
	}
}

// Rule 3: arguments are not modified, nor is anything beyond their length, and
// a result shares no memory with them.
func TestPutKeepsArguments(t *testing.T) {
	calls := map[string]func(b []byte) []byte{
		"Put":           func(b []byte) []byte { return varint.Put(b, 300, 7) },
		"Put nothing":   func(b []byte) []byte { return varint.Put(b) },
		"Bytes":         func(b []byte) []byte { return varint.Bytes(b, []byte("cd")) },
		"Bytes nothing": func(b []byte) []byte { return varint.Bytes(b) },
	}
	for name, call := range calls {
		whole := []byte("ab------")
		out := call(whole[:2])
		clear(out[:cap(out)])
		if string(whole) != "ab------" {
			t.Errorf("%s: the argument became %q", name, whole)
		}
		if first, second := call(whole[:2]), call(whole[:2]); !bytes.Equal(first, second) {
			t.Errorf("%s: %v, then %v", name, first, second)
		}
	}
	s := []byte("cd")
	clear(varint.Bytes(nil, s))
	if string(s) != "cd" {
		t.Errorf("a string that was put became %q", s)
	}
	l := []uint64{300, 7}
	varint.Put(nil, l...)
	if !slices.Equal(l, []uint64{300, 7}) {
		t.Errorf("numbers that were put became %v", l)
	}
}

// P1.1: Next returns the number with which b begins, whatever follows it.
func TestNext(t *testing.T) {
	for _, c := range encodings {
		for _, behind := range []string{"", "\x00", "\x80", "\xff\xff", "x"} {
			n, size, e := varint.Next([]byte(c.b + behind))
			if n != c.n || size != len(c.b) || e != api.OK {
				t.Errorf("Next(%v) = %d %d %d, want %d %d", []byte(c.b+behind), n, size, e, c.n, len(c.b))
			}
		}
	}
}

var wrong = []struct {
	b string
	e api.Errno
}{
	{"", api.ErrCut},
	{"\x80", api.ErrCut},
	{"\xac", api.ErrCut},
	{"\x80\x80\x80", api.ErrCut},
	{strings.Repeat("\xff", 9), api.ErrCut},
	{strings.Repeat("\x80", 9), api.ErrCut},
	{"\x80\x00", api.ErrForm},
	{"\xff\x00", api.ErrForm},
	{"\x80\x00\x01", api.ErrForm},
	{"\xac\x82\x00", api.ErrForm},
	{strings.Repeat("\xff", 8) + "\x00", api.ErrForm},
	{strings.Repeat("\xff", 9) + "\x00", api.ErrForm},
	{strings.Repeat("\xff", 9) + "\x02", api.ErrForm},
	{strings.Repeat("\x80", 9) + "\x02", api.ErrForm},
	{strings.Repeat("\x80", 9) + "\x7f", api.ErrForm},
	{strings.Repeat("\x80", 10), api.ErrForm},
	{strings.Repeat("\x80", 9) + "\x81\x01", api.ErrForm},
	{strings.Repeat("\xff", 10), api.ErrForm},
	{strings.Repeat("\xff", 1000), api.ErrForm},
}

// P1.1: the errors of Next; with an error the other results are 0.
func TestNextWrong(t *testing.T) {
	if n, size, e := varint.Next(nil); n != 0 || size != 0 || e != api.ErrCut {
		t.Errorf("Next(nil) = %d %d %d", n, size, e)
	}
	for _, c := range wrong {
		if n, size, e := varint.Next([]byte(c.b)); n != 0 || size != 0 || e != c.e {
			t.Errorf("Next(%v) = %d %d %d, want error %d", []byte(c.b), n, size, e, c.e)
		}
	}
}

// Rule 3: what stands beyond the length of b is not read.
func TestNextStopsAtLength(t *testing.T) {
	whole := []byte{172, 2}
	if n, size, e := varint.Next(whole[:1]); n != 0 || size != 0 || e != api.ErrCut {
		t.Errorf("%d %d %d", n, size, e)
	}
	r := varint.Open(whole[:1])
	if n := r.Number(300); n != 0 || r.Failed() != api.ErrCut {
		t.Errorf("a reader: %d %d", n, r.Failed())
	}
}

// P1.2: numbers and strings are read in the order in which they were put.
func TestReader(t *testing.T) {
	b := varint.Put(nil, 300, 0)
	b = varint.Bytes(b, []byte("abc"), nil)
	b = varint.Put(b, math.MaxUint64)
	r := varint.Open(b)
	if n := r.Number(1000); n != 300 {
		t.Errorf("first number: %d", n)
	}
	if n := r.Number(1000); n != 0 {
		t.Errorf("second number: %d", n)
	}
	if s := r.Bytes(10); string(s) != "abc" {
		t.Errorf("first string: %q", s)
	}
	if s := r.Bytes(10); len(s) != 0 || r.Failed() != api.OK {
		t.Errorf("empty string: %q %d", s, r.Failed())
	}
	if r.End() != api.ErrLong {
		t.Errorf("End with a number left: %d", r.End())
	}
	if n := r.Number(math.MaxUint64); n != math.MaxUint64 {
		t.Errorf("last number: %d", n)
	}
	if r.Failed() != api.OK || r.End() != api.OK {
		t.Errorf("at the end: %d %d", r.Failed(), r.End())
	}
}

// P1.2: Number's errors are those of Next, for what is left.
func TestNumberWrong(t *testing.T) {
	for _, c := range wrong {
		r := varint.Open([]byte("\x07" + c.b))
		if n := r.Number(7); n != 7 || r.Failed() != api.OK {
			t.Errorf("%v: %d %d", []byte(c.b), n, r.Failed())
		}
		if n := r.Number(0); n != 0 || r.Failed() != c.e || r.End() != c.e {
			t.Errorf("%v: %d %d %d, want error %d", []byte(c.b), n, r.Failed(), r.End(), c.e)
		}
	}
}

// P1.2: a number may be most, but not greater.
func TestNumberMost(t *testing.T) {
	for _, n := range numbers() {
		r := varint.Open(varint.Put(nil, n))
		if got := r.Number(n); got != n || r.End() != api.OK {
			t.Errorf("Number(%d) = %d %d", n, got, r.End())
		}
		if n == 0 {
			continue
		}
		for _, most := range []uint64{n - 1, 0} {
			r = varint.Open(varint.Put(nil, n))
			if got := r.Number(most); got != 0 || r.Failed() != api.ErrLong || r.End() != api.ErrLong {
				t.Errorf("%d: Number(%d) = %d %d %d", n, most, got, r.Failed(), r.End())
			}
		}
	}
}

// P1.2: a string's length is bounded by most, then by the bytes that are left.
func TestReaderBytes(t *testing.T) {
	for i, c := range []struct {
		b    string
		most int
		want string
		e    api.Errno
	}{
		{"\x03abc", 3, "abc", api.OK},
		{"\x03abc", math.MaxInt, "abc", api.OK},
		{"\x03abc", 2, "", api.ErrLong},
		{"\x03abc", 0, "", api.ErrLong},
		{"\x03abc", -1, "", api.ErrLong},
		{"\x03ab", 3, "", api.ErrCut},
		{"\x03ab", 2, "", api.ErrLong},
		{"\x03", 3, "", api.ErrCut},
		{"\x01", 1, "", api.ErrCut},
		{"\x01a", 1, "a", api.OK},
		{"\x00", 0, "", api.OK},
		{"\x00", -1, "", api.OK},
		{"\x00", math.MinInt, "", api.OK},
		{"\x00", 5, "", api.OK},
		{"\x01a", math.MinInt, "", api.ErrLong},
		{"", 5, "", api.ErrCut},
		{"", -1, "", api.ErrCut},
		{"\x83", 5, "", api.ErrCut},
		{"\x83\x00abc", 5, "", api.ErrForm},
		{"\xff\xff\xff\xff\xff\xff\xff\xff\x7fabc", math.MaxInt, "", api.ErrCut},
		{"\x80\x80\x80\x80\x80\x80\x80\x80\x80\x01abc", math.MaxInt, "", api.ErrLong},
		{"\xff\xff\xff\xff\xff\xff\xff\xff\xff\x01abc", math.MaxInt, "", api.ErrLong},
		{"\xff\xff\xff\xff\xff\xff\xff\xff\xff\x02abc", math.MaxInt, "", api.ErrForm},
	} {
		r := varint.Open([]byte(c.b))
		if s := r.Bytes(c.most); string(s) != c.want || r.Failed() != c.e || r.End() != c.e {
			t.Errorf("%d: Bytes(%d) of %q = %q %d %d, want %q %d", i, c.most, c.b, s, r.Failed(), r.End(), c.want, c.e)
		}
	}
}

// P1.2: once there was an error, nothing is read, and it stays the first one.
func TestFirstErrorStays(t *testing.T) {
	for name, c := range map[string]struct {
		b    string
		fail func(r *varint.Reader)
		e    api.Errno
	}{
		"number too great": {"\x06\x01\x01a", func(r *varint.Reader) { r.Number(5) }, api.ErrLong},
		"number cut":       {"\x86", func(r *varint.Reader) { r.Number(5) }, api.ErrCut},
		"number malformed": {"\x86\x00\x01\x01a", func(r *varint.Reader) { r.Number(5) }, api.ErrForm},
		"string too long":  {"\x02ab\x01\x01a", func(r *varint.Reader) { r.Bytes(1) }, api.ErrLong},
		"string cut":       {"\x05\x01\x01a", func(r *varint.Reader) { r.Bytes(5) }, api.ErrCut},
		"length malformed": {"\x85\x00\x01\x01a", func(r *varint.Reader) { r.Bytes(5) }, api.ErrForm},
	} {
		r := varint.Open([]byte(c.b))
		c.fail(r)
		for range 3 {
			if n := r.Number(math.MaxUint64); n != 0 {
				t.Errorf("%s: then a number %d", name, n)
			}
			if s := r.Bytes(math.MaxInt); len(s) != 0 {
				t.Errorf("%s: then a string %q", name, s)
			}
			r.Number(0)
			r.Bytes(-1)
			if r.Failed() != c.e || r.End() != c.e {
				t.Errorf("%s: %d %d, want %d", name, r.Failed(), r.End(), c.e)
			}
		}
	}
}

// P1.2: End asks whether bytes are left; that is not an error of the reader.
func TestEnd(t *testing.T) {
	for _, b := range []string{"\x00", "\x80", "ab"} {
		if r := varint.Open([]byte(b)); r.End() != api.ErrLong || r.Failed() != api.OK {
			t.Errorf("%q is left: %d %d", b, r.End(), r.Failed())
		}
	}
	for _, b := range [][]byte{nil, {}} {
		if r := varint.Open(b); r == nil || r.End() != api.OK || r.Failed() != api.OK {
			t.Errorf("nothing is left: %d %d", r.End(), r.Failed())
		}
	}
	r := varint.Open([]byte{172, 2})
	if r.End() != api.ErrLong || r.Number(300) != 300 || r.End() != api.OK {
		t.Errorf("reading after End: %d", r.End())
	}
}

// P1.2, rule 4: a nil reader.
func TestNilReader(t *testing.T) {
	var r *varint.Reader
	if n := r.Number(math.MaxUint64); n != 0 {
		t.Errorf("Number: %d", n)
	}
	for _, most := range []int{-1, 0, 9} {
		if s := r.Bytes(most); len(s) != 0 {
			t.Errorf("Bytes: %q", s)
		}
	}
	if r.Failed() != api.ErrArg || r.End() != api.ErrArg {
		t.Errorf("%d %d", r.Failed(), r.End())
	}
}

// Rule 3: a reader retains neither its argument nor its results.
func TestReaderSharesNothing(t *testing.T) {
	b := []byte("\x02ab\x02cd")
	r := varint.Open(b)
	clear(b)
	first := r.Bytes(2)
	if string(first) != "ab" {
		t.Errorf("after the argument was changed: %q", first)
	}
	clear(first[:cap(first)])
	_ = append(first, "xyz"...)
	if second := r.Bytes(2); string(second) != "cd" || r.End() != api.OK {
		t.Errorf("after a result was changed: %q %d", second, r.End())
	}
	b = []byte("\x02ab")
	clear(varint.Open(b).Bytes(2))
	if string(b) != "\x02ab" {
		t.Errorf("the argument became %q", b)
	}
}

// P2: readers of the same bytes do not affect each other.
func TestReadersAreApart(t *testing.T) {
	b := []byte{5, 6}
	x, y := varint.Open(b), varint.Open(b)
	x.Number(0)
	if x.Failed() != api.ErrLong || y.Failed() != api.OK || y.Number(9) != 5 || y.Number(9) != 6 {
		t.Errorf("%d %d", x.Failed(), y.Failed())
	}
}

// P1.3: what is encoded is decoded, all numbers at once too.
func TestRoundTrip(t *testing.T) {
	l := numbers()
	all := varint.Put(nil, l...)
	r := varint.Open(all)
	for _, n := range l {
		b := varint.Put(nil, n)
		if got, size, e := varint.Next(b); got != n || size != len(b) || e != api.OK {
			t.Errorf("%d: %d %d %d", n, got, size, e)
		}
		for k := range b {
			if got, size, e := varint.Next(b[:k]); got != 0 || size != 0 || e != api.ErrCut {
				t.Errorf("%d cut to %d bytes: %d %d %d", n, k, got, size, e)
			}
		}
		if got := r.Number(math.MaxUint64); got != n {
			t.Errorf("%d: read as %d", n, got)
		}
	}
	if r.End() != api.OK {
		t.Errorf("End: %d", r.End())
	}
}

// P1.3: strings of each length up to one whose length has two bytes.
func TestRoundTripStrings(t *testing.T) {
	for size := range 300 {
		s := bytes.Repeat([]byte{byte(size)}, size)
		r := varint.Open(varint.Bytes(nil, s))
		if got := r.Bytes(size); !bytes.Equal(got, s) || r.End() != api.OK {
			t.Errorf("%d bytes: %v %d", size, got, r.End())
		}
	}
}

// P1.3: of all sequences of up to three bytes, those that are decoded are just
// what Put makes of the number.
func TestOneEncodingOnly(t *testing.T) {
	seen := map[uint64]int{}
	for size := 1; size <= 3; size++ {
		for i := range 1 << (8 * size) {
			b := []byte{byte(i), byte(i >> 8), byte(i >> 16)}[:size]
			n, used, e := varint.Next(b)
			if e != api.OK || used != size {
				continue
			}
			if again := varint.Put(nil, n); !bytes.Equal(again, b) {
				t.Fatalf("%v is read as %d, which is put as %v", b, n, again)
			}
			seen[n]++
		}
	}
	for n := range uint64(1 << 21) {
		if seen[n] != 1 {
			t.Fatalf("%d has %d encodings", n, seen[n])
		}
	}
	if len(seen) != 1<<21 {
		t.Errorf("%d numbers", len(seen))
	}
}

// P1, P1.3: any bytes are read without a panic, and what is decoded from them
// is encoded as them.
func FuzzNext(f *testing.F) {
	for _, c := range encodings {
		f.Add([]byte(c.b))
	}
	for _, c := range wrong {
		f.Add([]byte(c.b))
	}
	f.Fuzz(func(t *testing.T, b []byte) {
		n, size, e := varint.Next(b)
		if e != api.OK && (n != 0 || size != 0) {
			t.Fatalf("%d %d beside error %d", n, size, e)
		}
		if e == api.OK && !bytes.Equal(varint.Put(nil, n), b[:size]) {
			t.Fatalf("%v is read as %d", b[:size], n)
		}
		r := varint.Open(b)
		for r.Failed() == api.OK {
			r.Bytes(len(b))
			r.Number(math.MaxUint64)
		}
	})
}

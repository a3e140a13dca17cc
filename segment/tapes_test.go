package segment_test

import (
	"bytes"
	"slices"
	"testing"

	"revenant/api"
	"revenant/power"
	"revenant/segment"
	"revenant/tape"
)

// great is more room than a test needs that isn't about room.
const great = 1 << 20

// wide is the plan of a tape without defects.
var wide = tape.Plan{Room: great}

// small is a Head whose block has 10 bytes, so that it occupies 14.
var small = head(1, 2, 3, 4, 5)

// its is the block of a pair, as a text.
func its(p pair) string { return string(sealed(p.plain)) }

// newTape is a tape of this plan, and its power.
func newTape(t *testing.T, plan tape.Plan) (*tape.Tape, *power.Power) {
	t.Helper()
	p := power.New()
	x, e := tape.New(plan, p)
	wantErr(t, e, api.OK)
	return x, p
}

// fall lets power fail at a write that is none of a tape's.
func fall(p *power.Power) {
	p.Plan(0, 0)
	p.Write(1)
}

// at plans a fall of power at the write behind so many.
func at(after, torn int) func(p *power.Power) {
	return func(p *power.Power) { p.Plan(after, torn) }
}

func wantErr(t *testing.T, e, want api.Errno) {
	t.Helper()
	if e != want {
		t.Errorf("error %d, want %d", e, want)
	}
}

// write writes pieces where a tape stands; "" is a mark.
func write(t *testing.T, x *tape.Tape, pieces ...string) {
	t.Helper()
	for _, s := range pieces {
		if s == "" {
			wantErr(t, x.Mark(), api.OK)
		} else {
			wantErr(t, x.Put([]byte(s)), api.OK)
		}
	}
}

// wantContent looks what is on a tape, which stays where it is; "" is a mark, and "?"
// a piece that can't be read.
func wantContent(t *testing.T, x *tape.Tape, want ...string) {
	t.Helper()
	place := x.Place()
	var l []string
	for i := range x.Len() {
		wantErr(t, x.Seek(i), api.OK)
		b, e := x.Get()
		if e == api.ErrMedia {
			b = []byte("?")
		} else if e != api.OK {
			wantErr(t, e, api.ErrMark)
		}
		l = append(l, string(b))
	}
	wantErr(t, x.Seek(place), api.OK)
	if !slices.Equal(l, want) {
		t.Errorf("the tape has %q, want %q", l, want)
	}
}

// wantAt looks where a tape stands, and how many pieces it has.
func wantAt(t *testing.T, x *tape.Tape, place, n int) {
	t.Helper()
	if x.Place() != place || x.Len() != n {
		t.Errorf("Place() = %d, Len() = %d, want %d, %d", x.Place(), x.Len(), place, n)
	}
}

// put puts a block, and looks whether the tape is behind it then, and it is the last
// piece.
func put(t *testing.T, x *tape.Tape, b segment.Block) {
	t.Helper()
	place := x.Place()
	wantErr(t, segment.Put(x, b), api.OK)
	wantAt(t, x, place+1, place+1)
}

// wantGet gets a block, and looks whether the tape is behind it then.
func wantGet(t *testing.T, x *tape.Tape, want segment.Block) {
	t.Helper()
	place, n := x.Place(), x.Len()
	if b, e := segment.Get(x); !same(b, want) || e != api.OK {
		t.Errorf("Get = %#v, %d, want %#v", b, e, want)
	}
	wantAt(t, x, place+1, n)
}

func wantGetFails(t *testing.T, x *tape.Tape, want api.Errno) {
	t.Helper()
	if b, e := segment.Get(x); b != nil || e != want {
		t.Errorf("Get = %#v, %d, want nothing, %d", b, e, want)
	}
}

// P15.1: what is put and got.

func TestPutAndGet(t *testing.T) {
	for _, c := range pairs() {
		x, p := newTape(t, wide)
		put(t, x, c.x)
		if p.Count() != 1 {
			t.Fatalf("%d writes, want 1", p.Count())
		}
		wantContent(t, x, its(c))
		wantErr(t, x.Seek(0), api.OK)
		wantGet(t, x, c.x)
		wantGetFails(t, x, api.ErrNone)
		wantAt(t, x, 1, 1)
	}
}

// Blocks of all kinds, one behind the other, and marks among them.
func TestPutAndGetInARow(t *testing.T) {
	x, _ := newTape(t, wide)
	var want []string
	for i, c := range pairs() {
		put(t, x, c.x)
		want = append(want, its(c))
		if i%3 == 2 {
			wantErr(t, x.Mark(), api.OK)
			want = append(want, "")
		}
	}
	wantContent(t, x, want...)
	wantErr(t, x.Seek(0), api.OK)
	for i, c := range pairs() {
		wantGet(t, x, c.x)
		if i%3 == 2 {
			wantGetFails(t, x, api.ErrMark)
		}
	}
	wantGetFails(t, x, api.ErrNone)
	wantAt(t, x, len(want), len(want))
	wantContent(t, x, want...)
}

// A segment as a whole.
func TestSegment(t *testing.T) {
	x, _ := newTape(t, wide)
	h, e := head(3, 0, 1, 2, 9), end(3, 0, 2, 161, true)
	put(t, x, h)
	put(t, x, data(160))
	put(t, x, segment.Data{5})
	put(t, x, e)
	wantErr(t, x.Mark(), api.OK)
	wantErr(t, x.Seek(0), api.OK)
	wantGet(t, x, h)
	wantGet(t, x, data(160))
	wantGet(t, x, segment.Data{5})
	wantGet(t, x, e)
	wantGetFails(t, x, api.ErrMark)
	wantGetFails(t, x, api.ErrNone)
}

// A Head whose numbers are those of an End, and the other way round, stay what they
// are; so do Data that are a block's bytes.
func TestLikeNumbersOnATape(t *testing.T) {
	for _, n := range counts {
		x, _ := newTape(t, wide)
		l := []segment.Block{
			head(n, n, n, n, 1), end(n, n, n, n, true), head(n, n, n, n, 0), end(n, n, n, n, false),
			segment.Data(plain(headByte, uint64(n), 1, 1, 1, 1)), segment.Data(sealed(plain(endByte, 1, 1, 1, 1, uint64(n)))),
		}
		for _, b := range l {
			put(t, x, b)
		}
		wantErr(t, x.Seek(0), api.OK)
		for _, b := range l {
			wantGet(t, x, b)
		}
	}
}

// The kinds of what Get returns are the values, as those who tell them apart ask.
func TestKindsOfWhatIsGot(t *testing.T) {
	x, _ := newTape(t, wide)
	put(t, x, small)
	put(t, x, end(1, 2, 3, 4, true))
	put(t, x, segment.Data("abc"))
	wantErr(t, x.Seek(0), api.OK)
	a, _ := segment.Get(x)
	b, _ := segment.Get(x)
	c, _ := segment.Get(x)
	if h, ok := a.(segment.Head); !ok || h != small {
		t.Errorf("a Head became %#v", a)
	}
	if e, ok := b.(segment.End); !ok || e != end(1, 2, 3, 4, true) {
		t.Errorf("an End became %#v", b)
	}
	if d, ok := c.(segment.Data); !ok || string(d) != "abc" {
		t.Errorf("Data became %#v", c)
	}
}

// Put is at the position, and all behind it is gone.
func TestPutInTheMiddle(t *testing.T) {
	had := []string{"a", "", "b", "", "c"}
	for i := range len(had) + 1 {
		for _, c := range few() {
			x, _ := newTape(t, wide)
			write(t, x, had...)
			wantErr(t, x.Seek(i), api.OK)
			put(t, x, c.x)
			wantContent(t, x, append(slices.Clone(had[:i]), its(c))...)
			wantErr(t, x.Seek(i), api.OK)
			wantGet(t, x, c.x)
		}
	}
}

// Get is at the position, wherever that is.
func TestGetInEachOrder(t *testing.T) {
	x, p := newTape(t, wide)
	l := few()
	for _, c := range l {
		put(t, x, c.x)
	}
	before := p.Count()
	p.Plan(0, 0)
	for i := range 5 * len(l) {
		k := i * 7 % len(l)
		wantErr(t, x.Seek(k), api.OK)
		wantGet(t, x, l[k].x)
	}
	if !p.On() || p.Count() != before {
		t.Errorf("the power is on: %t, and counts %d writes, want %d", p.On(), p.Count(), before)
	}
}

// P15.1: which error is returned, and what is left behind.

// attempt is a call of Put, or of Get, for a tape of this plan, with these pieces, at
// the position from.
type attempt struct {
	name   string
	plan   tape.Plan
	had    []string
	from   int
	power  func(p *power.Power)
	x      segment.Block
	want   api.Errno
	place  int
	writes int
	has    []string
}

// try makes the attempt's call, and looks at all that it leaves.
func try(t *testing.T, a attempt, call func(t *testing.T, x *tape.Tape)) {
	t.Run(a.name, func(t *testing.T) {
		x, p := newTape(t, a.plan)
		write(t, x, a.had...)
		wantErr(t, x.Seek(a.from), api.OK)
		if a.power != nil {
			a.power(p)
		}
		before, on := p.Count(), p.On()
		call(t, x)
		if p.Count() != before+a.writes {
			t.Errorf("%d writes, want %d", p.Count()-before, a.writes)
		}
		if p.On() != (on && a.want != api.ErrDown) {
			t.Errorf("the power is on: %t", p.On())
		}
		wantAt(t, x, a.place, len(a.has))
		p.Up()
		wantContent(t, x, a.has...)
	})
}

func tryPut(t *testing.T, l []attempt) {
	for _, a := range l {
		try(t, a, func(t *testing.T, x *tape.Tape) { wantErr(t, segment.Put(x, a.x), a.want) })
	}
}

// The error of Bytes is ahead of all others, and nothing is written.
func TestPutOfNoBlock(t *testing.T) {
	old := []string{"old", "", "old"}
	for i, x := range noBlocks() {
		if i > 12 && i%9 != 0 {
			continue
		}
		tryPut(t, []attempt{
			{name: "alone", plan: wide, had: old, from: 1, x: x, want: api.ErrArg, place: 1, has: old},
			{name: "power off", plan: wide, had: old, from: 1, power: fall, x: x, want: api.ErrArg, place: 1, has: old},
			{name: "no room", plan: tape.Plan{Room: 1}, x: x, want: api.ErrArg},
			{name: "no room behind", plan: tape.Plan{Room: 18}, had: old, from: 3, x: x, want: api.ErrArg, place: 3, has: old},
			{name: "no writing", plan: tape.Plan{Room: great, NoWrite: []int{3, 4}}, had: old, from: 3, x: x, want: api.ErrArg, place: 3, has: old},
			{name: "a fall", plan: wide, had: old, from: 1, power: at(0, 7), x: x, want: api.ErrArg, place: 1, has: old},
			{name: "power off, no room, no writing", plan: tape.Plan{Room: 1, NoWrite: []int{0}}, power: fall, x: x, want: api.ErrArg},
		})
	}
	x, p := newTape(t, wide)
	p.Plan(0, 7)
	for _, b := range noBlocks() {
		wantErr(t, segment.Put(x, b), api.ErrArg)
	}
	if !p.On() || p.Count() != 0 {
		t.Errorf("the power is on: %t, and counts %d writes", p.On(), p.Count())
	}
	wantAt(t, x, 0, 0)
}

// The errors of layer 6's Put, in its order.
func TestPutWhereTheTapeFails(t *testing.T) {
	old, b := []string{"old", ""}, string(bytesOf(t, small))
	none := tape.Plan{Room: great, NoWrite: []int{1}}
	tryPut(t, []attempt{
		{name: "power off", plan: wide, had: old, from: 1, power: fall, x: small, want: api.ErrDown, place: 1, has: old},
		{name: "power off, no room", plan: tape.Plan{Room: 13}, had: old, power: fall, x: small, want: api.ErrDown, has: old},
		{name: "power off, no writing", plan: none, had: old[:1], from: 1, power: fall, x: small, want: api.ErrDown, place: 1, has: old[:1]},
		{name: "no room at all", plan: tape.Plan{Room: 1}, x: small, want: api.ErrEnd},
		{name: "a byte too few", plan: tape.Plan{Room: 13}, had: old, x: small, want: api.ErrEnd, has: old},
		{name: "a byte too few behind", plan: tape.Plan{Room: 24}, had: old, from: 2, x: small, want: api.ErrEnd, place: 2, has: old},
		{name: "no room, no writing", plan: tape.Plan{Room: 20, NoWrite: []int{1}}, had: old[:1], from: 1, x: small, want: api.ErrEnd, place: 1, has: old[:1]},
		{name: "no room, a fall", plan: tape.Plan{Room: 13}, had: old, power: at(0, 9), x: small, want: api.ErrEnd, has: old},
		{name: "no writing", plan: none, had: old[:1], from: 1, x: small, want: api.ErrMedia, place: 1, writes: 1, has: old[:1]},
		{name: "no writing, a later fall", plan: none, had: old[:1], from: 1, power: at(1, 0),
			x: small, want: api.ErrMedia, place: 1, writes: 1, has: old[:1]},
		{name: "a fall", plan: wide, had: old, from: 1, power: at(0, 9), x: small, want: api.ErrDown, place: 1, writes: 1, has: []string{"old", b[:5]}},
		{name: "a fall, no writing", plan: none, had: old[:1], from: 1, power: at(0, 9),
			x: small, want: api.ErrDown, place: 1, writes: 1, has: []string{"old", b[:5]}},
	})
}

// What looks like an error of Put's, but is none.
func TestPutWhereNothingFails(t *testing.T) {
	for _, plan := range []tape.Plan{
		{Room: 14}, {Room: 14, Early: 14}, {Room: 15}, {Room: great, Early: great}, {Room: great, NoWrite: []int{1, -1}}, {Room: great, NoRead: []int{0, 1}},
	} {
		x, p := newTape(t, plan)
		p.Plan(1, 0)
		put(t, x, small)
		if !p.On() || p.Count() != 1 {
			t.Errorf("the power is on: %t, and counts %d writes", p.On(), p.Count())
		}
	}
}

func TestExactRoomOfBlocks(t *testing.T) {
	for _, c := range few() {
		size := 4 + len(its(c))
		for _, room := range []int{1, size - 5, size - 4, size - 1, size, size + 1} {
			x, _ := newTape(t, tape.Plan{Room: room})
			if room < size {
				wantErr(t, segment.Put(x, c.x), api.ErrEnd)
				wantAt(t, x, 0, 0)
				wantGetFails(t, x, api.ErrNone)
				continue
			}
			put(t, x, c.x)
			wantErr(t, segment.Put(x, c.x), api.ErrEnd)
			wantAt(t, x, 1, 1)
			wantErr(t, x.Seek(0), api.OK)
			wantGet(t, x, c.x)
		}
	}
}

// Power falls within a block, at each byte. What is left of it is no block of a
// segment, unless all of its bytes are there.
func TestFallsAtEachByte(t *testing.T) {
	for _, c := range few() {
		b := its(c)
		for torn := -1; torn <= len(b)+6; torn++ {
			x, p := newTape(t, wide)
			put(t, x, small)
			write(t, x, "old", "")
			wantErr(t, x.Seek(1), api.OK)
			p.Plan(0, torn)
			wantErr(t, segment.Put(x, c.x), api.ErrDown)
			left := b[:max(min(torn-4, len(b)), 0)]
			wantAt(t, x, 1, 1+min(len(left), 1))
			wantGetFails(t, x, api.ErrDown)
			wantErr(t, segment.Put(x, c.x), api.ErrDown)
			wantAt(t, x, 1, 1+min(len(left), 1))
			p.Up()
			switch len(left) {
			case 0:
				wantGetFails(t, x, api.ErrNone)
				wantAt(t, x, 1, 1)
			case len(b):
				wantGet(t, x, c.x)
			default:
				wantGetFails(t, x, api.ErrSum)
				wantAt(t, x, 2, 2)
			}
			wantErr(t, x.Seek(0), api.OK)
			wantGet(t, x, small)
			put(t, x, c.x)
			wantContent(t, x, string(bytesOf(t, small)), b)
		}
	}
}

func tryGet(t *testing.T, l []attempt) {
	for _, a := range l {
		a.has = a.had
		try(t, a, func(t *testing.T, x *tape.Tape) { wantGetFails(t, x, a.want) })
	}
}

// The error of layer 6's Get is ahead of Read's.
func TestGetWhereTheTapeFails(t *testing.T) {
	b := string(bytesOf(t, small))
	tryGet(t, []attempt{
		{name: "a new tape", plan: wide, want: api.ErrNone},
		{name: "the end of the tape", plan: wide, had: []string{b, ""}, from: 2, place: 2, want: api.ErrNone},
		{name: "the end of a full tape", plan: tape.Plan{Room: 14, Early: 14}, had: []string{b}, from: 1, place: 1, want: api.ErrNone},
		{name: "an end that can't be read", plan: tape.Plan{Room: great, NoRead: []int{0}}, want: api.ErrNone},
		{name: "a mark", plan: wide, had: []string{b, "", b}, from: 1, place: 2, want: api.ErrMark},
		{name: "a mark alone", plan: wide, had: []string{""}, place: 1, want: api.ErrMark},
		{name: "power off", plan: wide, had: []string{b}, power: fall, want: api.ErrDown},
		{name: "no block, power off", plan: wide, had: []string{"no block"}, power: fall, want: api.ErrDown},
		{name: "a mark, power off", plan: wide, had: []string{b, ""}, from: 1, place: 1, power: fall, want: api.ErrDown},
		{name: "the end, power off", plan: wide, had: []string{b}, from: 1, place: 1, power: fall, want: api.ErrDown},
	})
	for _, s := range []string{b, "", "no block", string(sealed([]byte("L"))), string(sealed(plain(endByte, 1, 2, 3, 4, 2)))} {
		for _, plan := range []tape.Plan{{Room: great, NoRead: []int{1}}, {Room: great, NoRead: []int{3, 1, 1}}} {
			x, p := newTape(t, plan)
			write(t, x, b, s, b)
			wantErr(t, x.Seek(0), api.OK)
			wantGet(t, x, small)
			wantGetFails(t, x, api.ErrMedia)
			wantGetFails(t, x, api.ErrMedia)
			wantAt(t, x, 1, 3)
			fall(p)
			wantGetFails(t, x, api.ErrDown)
			wantAt(t, x, 1, 3)
			p.Up()
			wantErr(t, x.Seek(2), api.OK)
			wantGet(t, x, small)
		}
	}
}

// Read's errors; the tape is behind the block then.
func TestGetOfNoBlocks(t *testing.T) {
	b := string(bytesOf(t, small))
	sealedOf := func(s []byte) []string { return []string{b, string(sealed(s)), b} }
	tryGet(t, []attempt{
		{name: "not sealed", plan: wide, had: []string{b, "no block", b}, from: 1, place: 2, want: api.ErrSum},
		{name: "a byte", plan: wide, had: []string{b, "H"}, from: 1, place: 2, want: api.ErrSum},
		{name: "a cut block", plan: wide, had: []string{b[:9], b}, place: 1, want: api.ErrSum},
		{name: "a changed block", plan: wide, had: []string{"T" + b[1:]}, place: 1, want: api.ErrSum},
		{name: "not sealed, no block either", plan: wide, had: []string{"H12345"}, place: 1, want: api.ErrSum},
		{name: "a long block", plan: wide, had: []string{string(make([]byte, 200))}, place: 1, want: api.ErrSum},
		{name: "sealed nothing", plan: wide, had: sealedOf(nil), from: 1, place: 2, want: api.ErrForm},
		{name: "a label", plan: wide, had: sealedOf([]byte{76, 1, 97, 1, 0}), from: 1, place: 2, want: api.ErrForm},
		{name: "a Head of no numbers", plan: wide, had: sealedOf([]byte{headByte}), from: 1, place: 2, want: api.ErrForm},
		{name: "a Head of six numbers", plan: wide, had: sealedOf(plain(headByte, 1, 2, 3, 4, 5, 6)), from: 1, place: 2, want: api.ErrForm},
		{name: "a Head out of bounds", plan: wide, had: sealedOf(plain(headByte, 1, 2, top+1, 4, 5)), from: 1, place: 2, want: api.ErrForm},
		{name: "an End with 2", plan: wide, had: sealedOf(plain(endByte, 1, 2, 3, 4, 2)), from: 1, place: 2, want: api.ErrForm},
		{name: "Data of no bytes", plan: wide, had: sealedOf([]byte{dataByte}), from: 1, place: 2, want: api.ErrForm},
		{name: "Data of 161 bytes", plan: wide, had: sealedOf(plainData(data(161))), from: 1, place: 2, want: api.ErrForm},
		{name: "Data of 195 bytes", plan: wide, had: sealedOf(plainData(data(195))), from: 1, place: 2, want: api.ErrForm},
	})
}

// After an error Get goes on with what is there.
func TestGetBehindErrors(t *testing.T) {
	x, _ := newTape(t, wide)
	b := string(bytesOf(t, small))
	write(t, x, "no block", string(sealed([]byte("X"))), "", b)
	wantErr(t, x.Seek(0), api.OK)
	wantGetFails(t, x, api.ErrSum)
	wantGetFails(t, x, api.ErrForm)
	wantGetFails(t, x, api.ErrMark)
	wantAt(t, x, 3, 4)
	wantGet(t, x, small)
	wantGetFails(t, x, api.ErrNone)
	wantGetFails(t, x, api.ErrNone)
	wantAt(t, x, 4, 4)
}

func TestNilTape(t *testing.T) {
	for range 2 {
		for _, c := range few() {
			wantErr(t, segment.Put(nil, c.x), api.ErrArg)
		}
		for _, b := range noBlocks() {
			wantErr(t, segment.Put(nil, b), api.ErrArg)
		}
		wantErr(t, segment.Put(nil, (*segment.Head)(nil)), api.ErrArg)
		wantGetFails(t, nil, api.ErrArg)
	}
}

// A nil pointer is no block on a tape either.
func TestPutOfNilPointers(t *testing.T) {
	x, p := newTape(t, wide)
	for _, b := range []segment.Block{(*segment.Head)(nil), (*segment.End)(nil), (*segment.Data)(nil)} {
		wantErr(t, segment.Put(x, b), api.ErrArg)
		fall(p)
		wantErr(t, segment.Put(x, b), api.ErrArg)
		p.Up()
	}
	wantAt(t, x, 0, 0)
}

// Memory, and P2.

// Put leaves Data, and what is behind it, as it was; what is on the tape is not
// changed with it.
func TestPutChangesAndKeepsNothing(t *testing.T) {
	for _, n := range []int{0, 1, 2, 100, 159, 160, 161, 200} {
		x, _ := newTape(t, wide)
		whole := data(n + 40)
		before := bytes.Clone(whole)
		e := segment.Put(x, whole[:n])
		if !bytes.Equal(whole, before) {
			t.Errorf("Data of %d bytes, or what is behind it, became another one", n)
		}
		clear(whole)
		wantErr(t, x.Seek(0), api.OK)
		if e == api.OK {
			wantGet(t, x, data(n))
		} else {
			wantGetFails(t, x, api.ErrNone)
		}
	}
}

// Data that was got is nobody else's: not the tape's, and not that got again.
func TestGetSharesNothing(t *testing.T) {
	x, _ := newTape(t, wide)
	put(t, x, data(160))
	get := func() segment.Data {
		wantErr(t, x.Seek(0), api.OK)
		b, _ := segment.Get(x)
		d, _ := b.(segment.Data)
		return d
	}
	a, b := get(), get()
	clear(a[:cap(a)])
	if !same(b, data(160)) || !same(get(), data(160)) {
		t.Error("a change of Data is one of Data got before, or afterwards")
	}
	wantContent(t, x, its(pairData(data(160))))
	wantErr(t, x.Seek(0), api.OK)
	write(t, x, "xxxxxxxxxxxxxxxxxxxxx")
	if !same(b, data(160)) {
		t.Error("writing the tape changed Data that was got")
	}
}

// A model: a tape that is written and read piece by piece, by the chapter's words.

type model struct{ x *tape.Tape }

func (m model) put(p pair) api.Errno {
	if p.plain == nil {
		return api.ErrArg
	}
	return m.x.Put(sealed(p.plain))
}

func (m model) get() (segment.Block, api.Errno) {
	b, e := m.x.Get()
	if e != api.OK {
		return nil, e
	}
	if len(b) < 4 || !bytes.Equal(sealed(b[:len(b)-4]), b) {
		return nil, api.ErrSum
	}
	x := parsed(b[:len(b)-4])
	if x == nil {
		return nil, api.ErrForm
	}
	return x, api.OK
}

// plans is those of the tapes of run.
func plans() []tape.Plan {
	return []tape.Plan{wide, {Room: 30}, {Room: 200, Early: 50}, {Room: 700},
		{Room: great, NoWrite: []int{0, 4, 9}}, {Room: great, NoRead: []int{1, 2, 6}}, {Room: 900, NoRead: []int{3}, NoWrite: []int{5, 3}}}
}

// choices is the pairs of run; those that may not be are sealed as nil.
func choices() []pair {
	l := few()
	for _, x := range noBlocks()[:12] {
		l = append(l, pair{x, nil})
	}
	return append(l, few()...)
}

// run makes a call of each two bytes, on a tape of the first byte's plan, and compares
// it with the model.
func run(t *testing.T, calls []byte, l []pair) {
	t.Helper()
	if len(calls) == 0 {
		return
	}
	plan := plans()[int(calls[0])%len(plans())]
	x, p := newTape(t, plan)
	y, q := newTape(t, plan)
	m := model{y}
	for calls = calls[1:]; len(calls) >= 2; calls = calls[2:] {
		n := int(calls[1])
		var e, want api.Errno
		var b, wantB segment.Block
		switch calls[0] % 12 {
		case 0, 1, 2, 3:
			e, want = segment.Put(x, l[n%len(l)].x), m.put(l[n%len(l)])
		case 4, 5, 6:
			b, e = segment.Get(x)
			wantB, want = m.get()
		case 7:
			p.Plan(n%4-1, n%40-1)
			q.Plan(n%4-1, n%40-1)
		case 8:
			p.Up()
			q.Up()
		case 9:
			e, want = x.Seek(n%12-1), y.Seek(n%12-1)
		case 10:
			s := [][]byte{{byte(n)}, sealed([]byte{headByte, 1, 1, 1, 1, byte(n)}), sealed([]byte{byte(n)}), sealed([]byte{endByte, 1, 1, 1, 1, byte(n)})}[n/64]
			e, want = x.Put(s), y.Put(s)
		default:
			e, want = x.Mark(), y.Mark()
		}
		if e != want || !same(b, wantB) {
			t.Fatalf("call %v: %#v, %d, want %#v, %d", calls[:2], b, e, wantB, want)
		}
		wantLike(t, x, y)
	}
}

// wantLike asks two tapes for all that can be asked without a change.
func wantLike(t *testing.T, x, y *tape.Tape) {
	t.Helper()
	wantAt(t, x, y.Place(), y.Len())
	if x.Warns() != y.Warns() || x.On() != y.On() || x.Count() != y.Count() {
		t.Errorf("the tape warns: %t, its power is on: %t, and counts %d writes, want %t, %t, %d",
			x.Warns(), x.On(), x.Count(), y.Warns(), y.On(), y.Count())
	}
}

// calls is n calls without a plain pattern, the same ones each time.
func calls(n int, seed dice) []byte {
	b := make([]byte, 2*n+1)
	for i := range b {
		b[i] = byte(seed.next(256))
	}
	return b
}

func TestManyCalls(t *testing.T) {
	l := choices()
	for seed := range dice(300) {
		run(t, calls(500, seed), l)
		run(t, calls(20, seed), l)
	}
}

// The results depend on the earlier calls for the same tape alone (P2).
func TestSameCallsAgain(t *testing.T) {
	other, p := newTape(t, wide)
	for range 3 {
		run(t, calls(300, 4), choices())
		segment.Put(other, small)
		other.Plan(0, 6)
		segment.Put(other, data(9))
		p.Up()
		segment.Get(other)
	}
}

func FuzzCalls(f *testing.F) {
	f.Add(calls(40, 1))
	f.Add(calls(300, 2))
	f.Add([]byte{})
	l := choices()
	f.Fuzz(func(t *testing.T, b []byte) { run(t, b, l) })
}

package label_test

import (
	"bytes"
	"math"
	"slices"
	"testing"

	"revenant/api"
	"revenant/label"
	"revenant/library"
	"revenant/power"
	"revenant/tape"
)

// great is more room than a test needs that isn't about room.
const great = 1 << 16

// wide is the plan of a tape without defects.
var wide = tape.Plan{Room: great}

// daily is a label whose block has 13 bytes, so that 17 are occupied by it, and 21 by
// it and the mark.
var daily = of("daily", 3, 0)

// its is the block of a label, as a text.
func its(l label.Label) string { return string(block(l)) }

// newLibrary is a library with tapes of these plans, and its power.
func newLibrary(t *testing.T, plans ...tape.Plan) (*library.Library, *power.Power) {
	t.Helper()
	p := power.New()
	x, e := library.New(p)
	wantErr(t, e, api.OK)
	for _, plan := range plans {
		_, e := x.Add(plan)
		wantErr(t, e, api.OK)
	}
	return x, p
}

// fall lets power fail at a write that is none of a tape's.
func fall(p *power.Power) {
	p.Plan(0, 0)
	p.Write(1)
}

func wantErr(t *testing.T, e, want api.Errno) {
	t.Helper()
	if e != want {
		t.Errorf("error %d, want %d", e, want)
	}
}

// write loads a tape, and writes pieces from its beginning on; "" is a mark.
func write(t *testing.T, x *library.Library, slot int, pieces ...string) {
	t.Helper()
	wantErr(t, x.Load(slot), api.OK)
	for _, s := range pieces {
		if s == "" {
			wantErr(t, x.Mark(), api.OK)
		} else {
			wantErr(t, x.Put([]byte(s)), api.OK)
		}
	}
}

// content is the pieces of a tape, which it loads; "" is a mark, and "?" a piece that
// can't be read.
func content(t *testing.T, x *library.Library, slot int) []string {
	t.Helper()
	wantErr(t, x.Load(slot), api.OK)
	var l []string
	for at := range x.Len() {
		wantErr(t, x.Seek(at), api.OK)
		b, e := x.Get()
		if e == api.ErrMedia {
			b = []byte("?")
		} else if e != api.OK {
			wantErr(t, e, api.ErrMark)
		}
		l = append(l, string(b))
	}
	return l
}

// wantContent looks what is on a tape, which it loads.
func wantContent(t *testing.T, x *library.Library, slot int, want ...string) {
	t.Helper()
	if l := content(t, x, slot); !slices.Equal(l, want) {
		t.Errorf("slot %d has %q, want %q", slot, l, want)
	}
}

// wantDrive looks which tape is in the drive, and where.
func wantDrive(t *testing.T, x *library.Library, slot, place, n int) {
	t.Helper()
	if at, ok := x.Slot(); at != slot || !ok {
		t.Errorf("Slot() = %d, %t, want %d, true", at, ok, slot)
	}
	if x.Place() != place || x.Len() != n {
		t.Errorf("Place() = %d, Len() = %d, want %d, %d", x.Place(), x.Len(), place, n)
	}
}

func wantEmptyDrive(t *testing.T, x *library.Library) {
	t.Helper()
	if slot, ok := x.Slot(); ok {
		t.Errorf("slot %d is in the drive", slot)
	}
}

// put puts a label, and looks whether it, and a mark, are all that is on that tape,
// which is in the drive, behind both.
func put(t *testing.T, x *library.Library, slot int, l label.Label) {
	t.Helper()
	if n, e := label.Put(x, slot, l); n != 2 || e != api.OK {
		t.Errorf("Put(%d, %v) = %d, %d, want 2", slot, l, n, e)
	}
	wantDrive(t, x, slot, 2, 2)
}

// wantLabel looks what the label of a tape of so many pieces is, which is in the drive
// afterwards, behind its first piece.
func wantLabel(t *testing.T, x *library.Library, slot int, want label.Label, n int) {
	t.Helper()
	if l, e := label.Get(x, slot); l != want || e != api.OK {
		t.Errorf("Get(%d) = %v, %d, want %v", slot, l, e, want)
	}
	wantDrive(t, x, slot, 1, n)
}

func wantPutFails(t *testing.T, x *library.Library, slot int, l label.Label, want api.Errno) {
	t.Helper()
	if n, e := label.Put(x, slot, l); n != 0 || e != want {
		t.Errorf("Put(%d, %v) = %d, %d, want 0, %d", slot, l, n, e, want)
	}
}

func wantGetFails(t *testing.T, x *library.Library, slot int, want api.Errno) {
	t.Helper()
	if l, e := label.Get(x, slot); l != (label.Label{}) || e != want {
		t.Errorf("Get(%d) = %v, %d, want nothing, %d", slot, l, e, want)
	}
}

// wrongSlots is what is no slot of n.
func wrongSlots(n int) []int {
	return []int{n, n + 1, n + 64, -1, -2, -n, 1 << 32, -1 << 32, math.MaxInt, math.MinInt}
}

// P14.2: what is put and got.

func TestPutAndGet(t *testing.T) {
	x, p := newLibrary(t, wide, wide)
	for i, l := range labels() {
		slot := i % 2
		put(t, x, slot, l)
		if p.Count() != 2*i+2 {
			t.Fatalf("%d writes, want %d", p.Count(), 2*i+2)
		}
		wantLabel(t, x, slot, l, 2)
		wantContent(t, x, slot, its(l), "")
	}
}

// The labels of all tapes that a library may have, of which each is got among others.
func TestManyTapes(t *testing.T) {
	x, _ := newLibrary(t, slices.Repeat([]tape.Plan{wide}, library.Most)...)
	for slot := range library.Most {
		put(t, x, slot, of(names[slot%len(names)], slot+1, 63-slot))
	}
	for i := range 3 * library.Most {
		slot := i * 37 % library.Most
		wantLabel(t, x, slot, of(names[slot%len(names)], slot+1, 63-slot), 2)
	}
}

func TestGetAfterOtherTapesWereWritten(t *testing.T) {
	x, _ := newLibrary(t, wide, wide, wide)
	put(t, x, 1, daily)
	write(t, x, 0, "a", "", "b")
	put(t, x, 2, of("other", 1, 1))
	x.Put([]byte("c"))
	wantLabel(t, x, 1, daily, 2)
	write(t, x, 2, "d")
	x.Unload()
	wantLabel(t, x, 1, daily, 2)
	put(t, x, 0, of("first", 1, 2))
	wantLabel(t, x, 1, daily, 2)
	wantContent(t, x, 0, its(of("first", 1, 2)), "")
	wantContent(t, x, 1, its(daily), "")
	wantContent(t, x, 2, "d")
}

// The tape is loaded, whatever was in the drive, and wherever it was.
func TestPutAndGetFromEachDrive(t *testing.T) {
	for from := -1; from < 3; from++ {
		for at := range 4 {
			x, _ := newLibrary(t, wide, wide, wide)
			for slot := range 3 {
				write(t, x, slot, "a", "", "b")
			}
			bring := func() {
				if x.Unload(); from >= 0 {
					wantErr(t, x.Load(from), api.OK)
					wantErr(t, x.Seek(min(at, x.Len())), api.OK)
				}
			}
			bring()
			put(t, x, 1, daily)
			bring()
			wantLabel(t, x, 1, daily, 2)
			wantContent(t, x, 0, "a", "", "b")
			wantContent(t, x, 2, "a", "", "b")
		}
	}
}

// What was on the tape is gone, whatever it was; a block with a label as well.
func TestPutFromTheBeginning(t *testing.T) {
	for _, had := range [][]string{
		{}, {""}, {"", "", ""}, {"a"}, {"a", "b", "", "c", ""}, {its(daily)}, {its(daily), "", "dump", "", its(daily), ""},
		slices.Repeat([]string{"a long block", ""}, 50),
	} {
		for _, l := range []label.Label{of("a", 1, 0), daily, of("abcdefgh", top, top)} {
			x, _ := newLibrary(t, wide)
			write(t, x, 0, had...)
			put(t, x, 0, l)
			wantErr(t, x.Skip(0), api.OK)
			if _, e := x.Get(); e != api.ErrNone {
				t.Errorf("behind the mark: error %d, want ErrNone", e)
			}
			wantContent(t, x, 0, its(l), "")
			wantLabel(t, x, 0, l, 2)
		}
	}
}

func TestLabelsReplaceEachOther(t *testing.T) {
	x, _ := newLibrary(t, tape.Plan{Room: 28}, tape.Plan{Room: 28})
	for gen := 1; gen <= 300; gen++ {
		l := of(names[gen%5], gen, gen%7)
		put(t, x, gen%2, l)
		wantLabel(t, x, gen%2, l, 2)
	}
	wantLabel(t, x, 1, of(names[299%5], 299, 299%7), 2)
	wantLabel(t, x, 0, of(names[0], 300, 300%7), 2)
}

// The position that Put returns is where further pieces come.
func TestWritingBehindALabel(t *testing.T) {
	x, _ := newLibrary(t, wide)
	n, e := label.Put(x, 0, daily)
	wantErr(t, e, api.OK)
	wantErr(t, x.Put([]byte("dump")), api.OK)
	wantErr(t, x.Mark(), api.OK)
	wantLabel(t, x, 0, daily, 4)
	wantErr(t, x.Skip(1), api.OK)
	wantDrive(t, x, 0, n, 4)
	b, e := x.Get()
	if string(b) != "dump" || e != api.OK {
		t.Errorf("at %d there is %q, %d", n, b, e)
	}
	wantContent(t, x, 0, its(daily), "", "dump", "")
}

func TestGetWritesNothing(t *testing.T) {
	x, p := newLibrary(t, wide)
	write(t, x, 0, its(daily), "other", "")
	before := p.Count()
	p.Plan(0, 0)
	for range 3 {
		wantLabel(t, x, 0, daily, 3)
	}
	if !p.On() || p.Count() != before {
		t.Errorf("the power is on: %t, and counts %d writes, want %d", p.On(), p.Count(), before)
	}
	wantContent(t, x, 0, its(daily), "other", "")
}

// Get reads the first block alone: no mark needs to be behind it.
func TestGetOfABlockWithoutAMark(t *testing.T) {
	x, _ := newLibrary(t, wide)
	write(t, x, 0, its(daily))
	wantLabel(t, x, 0, daily, 1)
	write(t, x, 0, its(daily), its(of("a", 1, 0)))
	wantLabel(t, x, 0, daily, 2)
}

// P14.2: which error is returned, and what is left behind.

// attempt is a call of Put, or of Get, for a library whose slot 1 has a tape of this
// plan, with these pieces, while slot 0's tape is in the drive, at position 2 of 3.
type attempt struct {
	name         string
	plan         tape.Plan
	had          []string
	power        func(p *power.Power)
	slot         int
	l            label.Label
	want         api.Errno
	drive, place int
	writes       int
	has          []string
}

// try makes the attempt's call, and looks at all that it leaves.
func try(t *testing.T, a attempt, call func(t *testing.T, x *library.Library)) {
	t.Run(a.name, func(t *testing.T) {
		x, p := newLibrary(t, wide, a.plan)
		write(t, x, 1, a.had...)
		write(t, x, 0, "a", "", "b")
		wantErr(t, x.Seek(2), api.OK)
		if a.power != nil {
			a.power(p)
		}
		before, on := p.Count(), p.On()
		call(t, x)
		if p.Count() != before+a.writes {
			t.Errorf("%d writes, want %d", p.Count()-before, a.writes)
		}
		if p.On() != (on && a.want != api.ErrDown) {
			t.Errorf("the power is on: %t", p.On())
		}
		n := 3
		if a.drive == 1 {
			n = len(a.has)
		}
		wantDrive(t, x, a.drive, a.place, n)
		p.Up()
		wantContent(t, x, 1, a.has...)
		wantContent(t, x, 0, "a", "", "b")
	})
}

// at plans a fall of power at the write behind so many.
func at(after, torn int) func(p *power.Power) {
	return func(p *power.Power) { p.Plan(after, torn) }
}

func tryPut(t *testing.T, l []attempt) {
	for _, a := range l {
		try(t, a, func(t *testing.T, x *library.Library) { wantPutFails(t, x, a.slot, a.l, a.want) })
	}
}

// The error of Bytes is ahead of all others, and nothing is loaded.
func TestPutOfNoLabel(t *testing.T) {
	old := []string{"old", "", "old"}
	wrong := of("daily", 0, 0)
	tryPut(t, []attempt{
		{name: "alone", plan: wide, had: old, slot: 1, l: wrong, want: api.ErrArg, place: 2, has: old},
		{name: "no slot", plan: wide, had: old, slot: 2, l: wrong, want: api.ErrArg, place: 2, has: old},
		{name: "power off", plan: wide, had: old, power: fall, slot: 1, l: wrong, want: api.ErrArg, place: 2, has: old},
		{name: "no slot, power off", plan: wide, had: old, power: fall, slot: 2, l: wrong, want: api.ErrArg, place: 2, has: old},
		{name: "no room", plan: tape.Plan{Room: 1}, slot: 1, l: wrong, want: api.ErrArg, place: 2},
		{name: "no writing", plan: tape.Plan{Room: great, NoWrite: []int{0, 1}}, slot: 1, l: wrong, want: api.ErrArg, place: 2},
		{name: "a fall", plan: wide, had: old, power: at(0, 5), slot: 1, l: wrong, want: api.ErrArg, place: 2, has: old},
	})
	for i, l := range noLabels() {
		if i%5 == 0 {
			tryPut(t, []attempt{{name: "another", plan: wide, had: old, power: fall, slot: 1, l: l, want: api.ErrArg, place: 2, has: old}})
		}
	}
}

// The error of Load is ahead of those of writing; the drive stays as it was.
func TestPutWhereLoadFails(t *testing.T) {
	old := []string{"old", "", "old"}
	none := tape.Plan{Room: 1, NoWrite: []int{0}}
	l := []attempt{
		{name: "power off", plan: wide, had: old, power: fall, slot: 1, l: daily, want: api.ErrDown, place: 2, has: old},
		{name: "the tape in the drive, power off", plan: wide, had: old, power: fall, slot: 0, l: daily, want: api.ErrDown, place: 2, has: old},
		{name: "no room, power off", plan: none, power: fall, slot: 1, l: daily, want: api.ErrDown, place: 2},
	}
	for _, slot := range wrongSlots(2) {
		l = append(l,
			attempt{name: "no slot", plan: wide, had: old, slot: slot, l: daily, want: api.ErrArg, place: 2, has: old},
			attempt{name: "no slot, power off", plan: wide, had: old, power: fall, slot: slot, l: daily, want: api.ErrArg, place: 2, has: old},
			attempt{name: "no slot, a fall", plan: none, power: at(0, 0), slot: slot, l: daily, want: api.ErrArg, place: 2},
		)
	}
	tryPut(t, l)
}

// The error of the block is ahead of that of the mark.
func TestPutWhereTheBlockFails(t *testing.T) {
	old, b := []string{"old", ""}, its(daily)
	tryPut(t, []attempt{
		{name: "no room at all", plan: tape.Plan{Room: 1}, slot: 1, l: daily, want: api.ErrEnd, drive: 1},
		{name: "a byte too few", plan: tape.Plan{Room: 16}, had: old, slot: 1, l: daily, want: api.ErrEnd, drive: 1, has: old},
		{name: "no room, no writing", plan: tape.Plan{Room: 16, NoWrite: []int{0}}, slot: 1, l: daily, want: api.ErrEnd, drive: 1},
		{name: "no room, no writing of the mark", plan: tape.Plan{Room: 16, NoWrite: []int{1}}, had: []string{"old"},
			slot: 1, l: daily, want: api.ErrEnd, drive: 1, has: []string{"old"}},
		{name: "no room, a fall", plan: tape.Plan{Room: 16}, had: old, power: at(0, 9), slot: 1, l: daily, want: api.ErrEnd, drive: 1, has: old},
		{name: "no writing", plan: tape.Plan{Room: great, NoWrite: []int{0}}, slot: 1, l: daily, want: api.ErrMedia, drive: 1, writes: 1},
		{name: "no writing of both", plan: tape.Plan{Room: great, NoWrite: []int{1, 0}}, slot: 1, l: daily, want: api.ErrMedia, drive: 1, writes: 1},
		{name: "no writing, no room for the mark", plan: tape.Plan{Room: 17, NoWrite: []int{0}}, slot: 1, l: daily, want: api.ErrMedia, drive: 1, writes: 1},
		{name: "no writing, a later fall", plan: tape.Plan{Room: great, NoWrite: []int{0}}, power: at(1, 0),
			slot: 1, l: daily, want: api.ErrMedia, drive: 1, writes: 1},
		{name: "a fall", plan: wide, had: old, power: at(0, 9), slot: 1, l: daily, want: api.ErrDown, drive: 1, writes: 1, has: []string{b[:5]}},
		{name: "a fall, no writing", plan: tape.Plan{Room: great, NoWrite: []int{0}}, power: at(0, 9),
			slot: 1, l: daily, want: api.ErrDown, drive: 1, writes: 1, has: []string{b[:5]}},
		{name: "a fall, no room for the mark", plan: tape.Plan{Room: 20}, had: old, power: at(0, 9),
			slot: 1, l: daily, want: api.ErrDown, drive: 1, writes: 1, has: []string{b[:5]}},
	})
}

func TestPutWhereTheMarkFails(t *testing.T) {
	old, b := []string{"old", ""}, []string{its(daily)}
	tryPut(t, []attempt{
		{name: "no room at all", plan: tape.Plan{Room: 17}, had: old, slot: 1, l: daily, want: api.ErrEnd, drive: 1, place: 1, writes: 1, has: b},
		{name: "a byte too few", plan: tape.Plan{Room: 20}, had: old, slot: 1, l: daily, want: api.ErrEnd, drive: 1, place: 1, writes: 1, has: b},
		{name: "no room, no writing", plan: tape.Plan{Room: 20, NoWrite: []int{1}}, had: old[:1],
			slot: 1, l: daily, want: api.ErrEnd, drive: 1, place: 1, writes: 1, has: b},
		{name: "no room, a fall", plan: tape.Plan{Room: 20}, had: old, power: at(1, 0),
			slot: 1, l: daily, want: api.ErrEnd, drive: 1, place: 1, writes: 1, has: b},
		{name: "no writing", plan: tape.Plan{Room: great, NoWrite: []int{1}}, had: old[:1],
			slot: 1, l: daily, want: api.ErrMedia, drive: 1, place: 1, writes: 2, has: b},
		{name: "a fall", plan: wide, had: old, power: at(1, 4), slot: 1, l: daily, want: api.ErrDown, drive: 1, place: 1, writes: 2, has: b},
		{name: "a fall, no writing", plan: tape.Plan{Room: great, NoWrite: []int{1}}, power: at(1, 0),
			slot: 1, l: daily, want: api.ErrDown, drive: 1, place: 1, writes: 2, has: b},
	})
}

// What looks like an error of Put's, but is none.
func TestPutWhereNothingFails(t *testing.T) {
	for _, plan := range []tape.Plan{
		{Room: 21}, {Room: 21, Early: 21}, {Room: 22}, {Room: great, Early: great}, {Room: great, NoWrite: []int{2, 3, -1}}, {Room: great, NoRead: []int{0, 1, 2}},
	} {
		x, p := newLibrary(t, wide, plan)
		p.Plan(2, 0)
		put(t, x, 1, daily)
		if !p.On() || p.Count() != 2 {
			t.Errorf("the power is on: %t, and counts %d writes", p.On(), p.Count())
		}
	}
}

func TestExactRoomOfLabels(t *testing.T) {
	for _, l := range []label.Label{of("a", 1, 0), daily, of("weekly", 128, 300), of("abcdefgh", top, top)} {
		size := 4 + len(block(l))
		for room := 1; room <= size+5; room++ {
			x, _ := newLibrary(t, tape.Plan{Room: room})
			switch {
			case room < size:
				wantPutFails(t, x, 0, l, api.ErrEnd)
				wantDrive(t, x, 0, 0, 0)
				wantGetFails(t, x, 0, api.ErrNone)
			case room < size+4:
				wantPutFails(t, x, 0, l, api.ErrEnd)
				wantDrive(t, x, 0, 1, 1)
				wantLabel(t, x, 0, l, 1)
			default:
				put(t, x, 0, l)
				wantLabel(t, x, 0, l, 2)
			}
		}
	}
}

// Power falls within the block, and within the mark, at each byte.
func TestFallsAtEachByte(t *testing.T) {
	for _, l := range []label.Label{of("a", 1, 0), daily, of("abcdefgh", top, top)} {
		b := its(l)
		for torn := -1; torn <= len(b)+6; torn++ {
			x, p := newLibrary(t, wide, wide)
			put(t, x, 0, of("old", 1, 1))
			put(t, x, 1, of("other", 1, 1))
			p.Plan(0, torn)
			wantPutFails(t, x, 0, l, api.ErrDown)
			left := b[:max(min(torn-4, len(b)), 0)]
			wantDrive(t, x, 0, 0, min(len(left), 1))
			wantGetFails(t, x, 0, api.ErrDown)
			wantGetFails(t, x, 1, api.ErrDown)
			wantPutFails(t, x, 1, l, api.ErrDown)
			p.Up()
			switch len(left) {
			case 0:
				wantGetFails(t, x, 0, api.ErrNone)
				wantContent(t, x, 0)
			case len(b):
				wantLabel(t, x, 0, l, 1)
				wantContent(t, x, 0, b)
			default:
				wantGetFails(t, x, 0, api.ErrSum)
				wantContent(t, x, 0, left)
			}
			wantLabel(t, x, 1, of("other", 1, 1), 2)
			put(t, x, 0, l)
		}
		for torn := -1; torn <= 6; torn++ {
			x, p := newLibrary(t, wide)
			put(t, x, 0, of("old", 1, 1))
			p.Plan(1, torn)
			wantPutFails(t, x, 0, l, api.ErrDown)
			wantDrive(t, x, 0, 1, 1)
			p.Up()
			wantLabel(t, x, 0, l, 1)
			wantContent(t, x, 0, b)
			put(t, x, 0, l)
		}
	}
}

func tryGet(t *testing.T, l []attempt) {
	for _, a := range l {
		a.has = a.had
		try(t, a, func(t *testing.T, x *library.Library) { wantGetFails(t, x, a.slot, a.want) })
	}
}

// The error of Load is ahead of that of reading the block; the drive stays as it was.
func TestGetWhereLoadFails(t *testing.T) {
	good := []string{its(daily), ""}
	l := []attempt{
		{name: "power off", plan: wide, had: good, power: fall, slot: 1, want: api.ErrDown, place: 2},
		{name: "the tape in the drive, power off", plan: wide, had: good, power: fall, slot: 0, want: api.ErrDown, place: 2},
		{name: "a new tape, power off", plan: wide, power: fall, slot: 1, want: api.ErrDown, place: 2},
		{name: "a mark, power off", plan: wide, had: []string{""}, power: fall, slot: 1, want: api.ErrDown, place: 2},
		{name: "no label, power off", plan: wide, had: []string{"no label"}, power: fall, slot: 1, want: api.ErrDown, place: 2},
	}
	for _, slot := range wrongSlots(2) {
		l = append(l,
			attempt{name: "no slot", plan: wide, had: good, slot: slot, want: api.ErrArg, place: 2},
			attempt{name: "no slot, power off", plan: wide, had: good, power: fall, slot: slot, want: api.ErrArg, place: 2},
		)
	}
	tryGet(t, l)
}

func TestGetWhereReadingFails(t *testing.T) {
	tryGet(t, []attempt{
		{name: "a new tape", plan: wide, slot: 1, want: api.ErrNone, drive: 1},
		{name: "a new tape that can't be read", plan: tape.Plan{Room: great, NoRead: []int{0}}, slot: 1, want: api.ErrNone, drive: 1},
		{name: "a mark", plan: wide, had: []string{""}, slot: 1, want: api.ErrMark, drive: 1, place: 1},
		{name: "a mark ahead of a label", plan: wide, had: []string{"", its(daily)}, slot: 1, want: api.ErrMark, drive: 1, place: 1},
		{name: "no sealed block", plan: wide, had: []string{"no label", its(daily)}, slot: 1, want: api.ErrSum, drive: 1, place: 1},
		{name: "a block of a byte", plan: wide, had: []string{"L"}, slot: 1, want: api.ErrSum, drive: 1, place: 1},
		{name: "a changed label", plan: wide, had: []string{"L" + its(daily)}, slot: 1, want: api.ErrSum, drive: 1, place: 1},
		{name: "a sealed block", plan: wide, had: []string{string(sealed([]byte("H12345"))), its(daily)}, slot: 1, want: api.ErrForm, drive: 1, place: 1},
		{name: "sealed nothing", plan: wide, had: []string{"\x00\x00\x00\x00"}, slot: 1, want: api.ErrForm, drive: 1, place: 1},
		{name: "a label of no pool", plan: wide, had: []string{string(sealed(plain("A", 1, 0)))}, slot: 1, want: api.ErrForm, drive: 1, place: 1},
		{name: "a label and a byte", plan: wide, had: []string{string(sealed(plain("a", 1, 0, 0)))}, slot: 1, want: api.ErrForm, drive: 1, place: 1},
		{name: "a long block", plan: wide, had: []string{string(sealed(make([]byte, 196)))}, slot: 1, want: api.ErrForm, drive: 1, place: 1},
	})
}

// A position that can't be read is ErrMedia, whatever is there; others don't matter.
func TestGetWhereMediaFails(t *testing.T) {
	for _, had := range [][]string{{its(daily), ""}, {""}, {"no label", ""}, {string(sealed([]byte("H")))}} {
		for _, plan := range []tape.Plan{{Room: great, NoRead: []int{0}}, {Room: great, NoRead: []int{2, 1, 0}}} {
			x, p := newLibrary(t, plan)
			write(t, x, 0, had...)
			wantGetFails(t, x, 0, api.ErrMedia)
			wantDrive(t, x, 0, 0, len(had))
			fall(p)
			wantGetFails(t, x, 0, api.ErrDown)
			wantDrive(t, x, 0, 0, len(had))
		}
	}
	x, _ := newLibrary(t, tape.Plan{Room: great, NoRead: []int{1, 2, -1}, NoWrite: []int{2}})
	put(t, x, 0, daily)
	wantLabel(t, x, 0, daily, 2)
}

// While the drive is empty, what fails ahead of loading leaves it so.
func TestEmptyDrive(t *testing.T) {
	x, p := newLibrary(t, wide, tape.Plan{Room: 3})
	wantPutFails(t, x, 0, of("A", 1, 0), api.ErrArg)
	wantEmptyDrive(t, x)
	for _, slot := range wrongSlots(2) {
		wantPutFails(t, x, slot, daily, api.ErrArg)
		wantGetFails(t, x, slot, api.ErrArg)
		wantEmptyDrive(t, x)
	}
	fall(p)
	wantPutFails(t, x, 0, daily, api.ErrDown)
	wantGetFails(t, x, 0, api.ErrDown)
	wantEmptyDrive(t, x)
	p.Up()
	wantPutFails(t, x, 1, daily, api.ErrEnd)
	wantDrive(t, x, 1, 0, 0)
	x.Unload()
	wantGetFails(t, x, 1, api.ErrNone)
	wantDrive(t, x, 1, 0, 0)
}

func TestNoTapes(t *testing.T) {
	made, p := newLibrary(t)
	for _, x := range []*library.Library{made, {}} {
		for _, slot := range append(wrongSlots(64), 0, 1, 63) {
			wantPutFails(t, x, slot, daily, api.ErrArg)
			wantPutFails(t, x, slot, label.Label{}, api.ErrArg)
			wantGetFails(t, x, slot, api.ErrArg)
			wantEmptyDrive(t, x)
		}
	}
	fall(p)
	wantPutFails(t, made, 0, daily, api.ErrArg)
	wantGetFails(t, made, 0, api.ErrArg)
}

func TestNilLibrary(t *testing.T) {
	for range 2 {
		for _, slot := range append(wrongSlots(64), 0, 1, 63) {
			for _, l := range []label.Label{daily, of("abcdefgh", top, top), {}, of("A", 1, 0), of("a", 0, 0), of("a", 1, -1)} {
				wantPutFails(t, nil, slot, l, api.ErrArg)
			}
			wantGetFails(t, nil, slot, api.ErrArg)
		}
	}
}

// Memory, and P2.

// What Get returned stays, whatever is done with the tape.
func TestGetKeepsNothing(t *testing.T) {
	x, _ := newLibrary(t, wide)
	put(t, x, 0, daily)
	l, _ := label.Get(x, 0)
	put(t, x, 0, of("other", 9, 9))
	x.Put(bytes.Repeat([]byte{9}, 100))
	write(t, x, 0, "xxxxxxxxxxxxxxxx")
	if l != daily {
		t.Errorf("the label became %v", l)
	}
}

// The pool of a label may be a piece of a greater text, of which nothing else counts.
func TestPoolOfAPiece(t *testing.T) {
	x, _ := newLibrary(t, wide)
	all := "XXdailyXX"
	put(t, x, 0, of(all[2:7], 3, 0))
	wantLabel(t, x, 0, daily, 2)
}

// A model: a library whose tapes are written and read piece by piece.

type model struct{ x *library.Library }

func (m model) put(slot int, l label.Label) (int, api.Errno) {
	if !fits(l) {
		return 0, api.ErrArg
	}
	e := m.x.Load(slot)
	if e == api.OK {
		e = m.x.Put(block(l))
	}
	if e == api.OK {
		e = m.x.Mark()
	}
	if e != api.OK {
		return 0, e
	}
	return 2, api.OK
}

func (m model) get(slot int) (label.Label, api.Errno) {
	if e := m.x.Load(slot); e != api.OK {
		return label.Label{}, e
	}
	b, e := m.x.Get()
	if e != api.OK {
		return label.Label{}, e
	}
	if len(b) < 4 || !bytes.Equal(sealed(b[:len(b)-4]), b) {
		return label.Label{}, api.ErrSum
	}
	l, ok := parsed(b[:len(b)-4])
	if !ok {
		return label.Label{}, api.ErrForm
	}
	return l, api.OK
}

// plans is those of the tapes of run.
func plans() []tape.Plan {
	return []tape.Plan{wide, {Room: 16}, {Room: 20}, {Room: 28}, {Room: great, NoWrite: []int{0}}, {Room: great, NoWrite: []int{1}},
		{Room: great, NoRead: []int{0}}, {Room: 60, NoRead: []int{1}, NoWrite: []int{3}}, wide}
}

// labelOf is a label that each pair of seeds has another one of; some may not be.
func labelOf(a, b int) label.Label {
	pool := append(slices.Clone(names), "", "A", "aaaaaaaaa")[a%15]
	return of(pool, append(slices.Clone(gens), 0, top+1)[b%15], append(slices.Clone(counts), -1)[(a+b)%15])
}

// run makes a call of each three bytes, and compares it with the model.
func run(t *testing.T, calls []byte) {
	t.Helper()
	x, p := newLibrary(t, plans()...)
	y, q := newLibrary(t, plans()...)
	m := model{y}
	for ; len(calls) >= 3; calls = calls[3:] {
		a, b := int(calls[1]), int(calls[2])
		slot := a%(len(plans())+2) - 1
		var e, want api.Errno
		var n, wantN int
		var l, wantL label.Label
		switch calls[0] % 12 {
		case 0, 1, 2:
			n, e = label.Put(x, slot, labelOf(a/11, b))
			wantN, want = m.put(slot, labelOf(a/11, b))
		case 3, 4, 5:
			l, e = label.Get(x, slot)
			wantL, want = m.get(slot)
		case 6:
			p.Plan(a%4-1, b%30-1)
			q.Plan(a%4-1, b%30-1)
		case 7:
			p.Up()
			q.Up()
		case 8:
			e, want = x.Load(slot), y.Load(slot)
		case 9:
			s := [][]byte{{byte(a)}, sealed([]byte{76, 1, byte(b), 1, 0}), sealed([]byte{byte(b)}), block(daily)}[a%4]
			e, want = x.Put(s), y.Put(s)
		case 10:
			e, want = x.Mark(), y.Mark()
		default:
			x.Unload()
			y.Unload()
		}
		if e != want || n != wantN || l != wantL {
			t.Fatalf("call %v: %d, %v, %d, want %d, %v, %d", calls[:3], n, l, e, wantN, wantL, want)
		}
		wantLike(t, x, y, p, q)
	}
	p.Up()
	q.Up()
	for slot := range plans() {
		wantContent(t, x, slot, content(t, y, slot)...)
	}
}

// wantLike asks two libraries for all that can be asked without a change.
func wantLike(t *testing.T, x, y *library.Library, p, q *power.Power) {
	t.Helper()
	if slot, ok := y.Slot(); ok {
		wantDrive(t, x, slot, y.Place(), y.Len())
	} else {
		wantEmptyDrive(t, x)
	}
	if p.On() != q.On() || p.Count() != q.Count() {
		t.Errorf("the power is on: %t, and counts %d writes, want %t, %d", p.On(), p.Count(), q.On(), q.Count())
	}
}

// calls is n calls without a plain pattern, the same ones each time.
func calls(n int, seed dice) []byte {
	b := make([]byte, 3*n)
	for i := range b {
		b[i] = byte(seed.next(256))
	}
	return b
}

func TestManyCalls(t *testing.T) {
	for seed := range dice(150) {
		run(t, calls(500, seed))
		run(t, calls(20, seed))
	}
}

// The results depend on the earlier calls for the same library alone (P2).
func TestSameCallsAgain(t *testing.T) {
	other, p := newLibrary(t, wide, wide)
	for range 3 {
		run(t, calls(300, 4))
		label.Put(other, 1, daily)
		other.Plan(0, 6)
		label.Put(other, 0, daily)
		p.Up()
		label.Get(other, 0)
	}
}

func FuzzCalls(f *testing.F) {
	f.Add(calls(40, 1))
	f.Add(calls(300, 2))
	f.Add([]byte{})
	f.Fuzz(func(t *testing.T, b []byte) { run(t, b) })
}

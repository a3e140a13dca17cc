package library_test

import (
	"bytes"
	"math"
	"slices"
	"testing"

	"revenant/api"
	"revenant/library"
	"revenant/power"
	"revenant/tape"
)

// great is more room than a test needs that isn't about room.
const great = 1 << 16

// plain is the plan of a tape without defects.
var plain = tape.Plan{Room: great}

// refused is plans that layer 6's New refuses.
var refused = []tape.Plan{
	{}, {Room: -1}, {Room: math.MinInt}, {Room: 1<<24 + 1}, {Room: math.MaxInt},
	{Room: 10, Early: -1}, {Room: 10, Early: 11}, {Room: 10, Early: math.MinInt}, {Room: 10, Early: math.MaxInt},
	{Room: 0, NoWrite: []int{1}, NoRead: []int{2}},
}

// newLibrary is a library with tapes of these plans, and its power.
func newLibrary(t *testing.T, plans ...tape.Plan) (*library.Library, *power.Power) {
	t.Helper()
	p := power.New()
	l, e := library.New(p)
	if e != api.OK || l == nil {
		t.Fatalf("New = %v, %d", l, e)
	}
	for i, plan := range plans {
		wantAdd(t, l, plan, i, api.OK)
	}
	return l, p
}

func wantErr(t *testing.T, e, want api.Errno) {
	t.Helper()
	if e != want {
		t.Errorf("error %d, want %d", e, want)
	}
}

func wantAdd(t *testing.T, l *library.Library, plan tape.Plan, slot int, want api.Errno) {
	t.Helper()
	if n, e := l.Add(plan); n != slot || e != want {
		t.Errorf("Add(%v) = %d, %d, want %d, %d", plan, n, e, slot, want)
	}
}

func wantCount(t *testing.T, l *library.Library, want int) {
	t.Helper()
	if n := l.Count(); n != want {
		t.Errorf("Count() = %d, want %d", n, want)
	}
}

func wantSlot(t *testing.T, l *library.Library, want int) {
	t.Helper()
	if n, ok := l.Slot(); n != want || !ok {
		t.Errorf("Slot() = %d, %t, want %d, true", n, ok, want)
	}
}

func wantNoSlot(t *testing.T, l *library.Library) {
	t.Helper()
	if n, ok := l.Slot(); n != 0 || ok {
		t.Errorf("Slot() = %d, %t, want 0, false", n, ok)
	}
}

// load puts a tape into the drive, and looks whether it is there, at its beginning.
func load(t *testing.T, l *library.Library, slot int) {
	t.Helper()
	wantErr(t, l.Load(slot), api.OK)
	wantSlot(t, l, slot)
	if l.Place() != 0 {
		t.Errorf("behind Load(%d): Place() = %d, want 0", slot, l.Place())
	}
}

// write writes pieces onto the tape in the drive; "" is a mark.
func write(t *testing.T, l *library.Library, pieces ...string) {
	t.Helper()
	for _, s := range pieces {
		if s == "" {
			wantErr(t, l.Mark(), api.OK)
		} else {
			wantErr(t, l.Put([]byte(s)), api.OK)
		}
	}
}

func wantAt(t *testing.T, l *library.Library, place, n int) {
	t.Helper()
	if l.Place() != place || l.Len() != n {
		t.Errorf("Place() = %d, Len() = %d, want %d, %d", l.Place(), l.Len(), place, n)
	}
}

func wantWarns(t *testing.T, l *library.Library, want bool) {
	t.Helper()
	if l.Warns() != want {
		t.Errorf("at %d: Warns() = %t, want %t", l.Place(), l.Warns(), want)
	}
}

func wantGet(t *testing.T, l *library.Library, want string, wantE api.Errno) {
	t.Helper()
	if b, e := l.Get(); string(b) != want || e != wantE {
		t.Errorf("Get() = %q, %d, want %q, %d", b, e, want, wantE)
	}
}

// wantTape loads a tape, and reads its pieces, up to the last one.
func wantTape(t *testing.T, l *library.Library, slot int, pieces ...string) {
	t.Helper()
	load(t, l, slot)
	for i, s := range pieces {
		wantAt(t, l, i, len(pieces))
		if s == "" {
			wantGet(t, l, "", api.ErrMark)
		} else {
			wantGet(t, l, s, api.OK)
		}
	}
	wantAt(t, l, len(pieces), len(pieces))
	wantGet(t, l, "", api.ErrNone)
}

// wantEmptyDrive makes each call of the tape in the drive: a nil tape's results.
func wantEmptyDrive(t *testing.T, l *library.Library) {
	t.Helper()
	wantNoSlot(t, l)
	if l.Tape != nil {
		t.Error("a tape is embedded, though the drive is empty")
	}
	wantAt(t, l, 0, 0)
	wantWarns(t, l, false)
	for _, b := range [][]byte{nil, {}, {1}, make([]byte, 200), make([]byte, 201)} {
		wantErr(t, l.Put(b), api.ErrArg)
	}
	wantErr(t, l.Mark(), api.ErrArg)
	wantGet(t, l, "", api.ErrArg)
	for _, n := range []int{0, 1, -1, math.MinInt, math.MaxInt} {
		wantErr(t, l.Seek(n), api.ErrArg)
		wantErr(t, l.Skip(n), api.ErrArg)
	}
}

// wantDown makes the calls of the tape in the drive that need power.
func wantDown(t *testing.T, l *library.Library) {
	t.Helper()
	wantErr(t, l.Put([]byte("down")), api.ErrDown)
	wantErr(t, l.Mark(), api.ErrDown)
	wantGet(t, l, "", api.ErrDown)
	wantErr(t, l.Seek(0), api.ErrDown)
	wantErr(t, l.Skip(0), api.ErrDown)
}

// fall lets power fail at a write that is none of a tape's.
func fall(p *power.Power) {
	p.Plan(0, 0)
	p.Write(1)
}

// wrongSlots is what is no slot of n.
func wrongSlots(n int) []int {
	return []int{n, n + 1, n + 64, -1, -2, -n - 1, 1 << 32, -1 << 32, math.MaxInt, math.MaxInt - 1, math.MinInt, math.MinInt + 1}
}

// New.

func TestNewHasNoTapes(t *testing.T) {
	l, p := newLibrary(t)
	wantCount(t, l, 0)
	wantEmptyDrive(t, l)
	for _, slot := range append(wrongSlots(0), 1, 63) {
		wantErr(t, l.Load(slot), api.ErrArg)
	}
	l.Unload()
	wantEmptyDrive(t, l)
	wantCount(t, l, 0)
	if !p.On() || p.Count() != 0 {
		t.Errorf("the power is on: %t, and counts %d writes", p.On(), p.Count())
	}
}

func TestNewOfNoPower(t *testing.T) {
	if l, e := library.New(nil); l != nil || e != api.ErrArg {
		t.Errorf("New(nil) = %v, %d, want nil, ErrArg", l, e)
	}
}

func TestNewWhilePowerIsOff(t *testing.T) {
	p := power.New()
	fall(p)
	l, e := library.New(p)
	if l == nil || e != api.OK {
		t.Fatalf("New = %v, %d", l, e)
	}
	wantAdd(t, l, plain, 0, api.OK)
	wantErr(t, l.Load(0), api.ErrDown)
	p.Up()
	load(t, l, 0)
	write(t, l, "a")
	wantTape(t, l, 0, "a")
}

func TestEachNewIsItsOwn(t *testing.T) {
	p := power.New()
	k, _ := library.New(p)
	l, _ := library.New(p)
	wantAdd(t, k, plain, 0, api.OK)
	wantCount(t, l, 0)
	wantAdd(t, l, plain, 0, api.OK)
	wantAdd(t, l, plain, 1, api.OK)
	wantCount(t, k, 1)
	load(t, k, 0)
	wantEmptyDrive(t, l)
	write(t, k, "a")
	load(t, l, 0)
	wantAt(t, l, 0, 0)
	write(t, l, "b", "")
	wantTape(t, k, 0, "a")
	wantTape(t, l, 0, "b", "")
	wantTape(t, l, 1)
}

// Add and Count.

func TestExample(t *testing.T) {
	l, _ := newLibrary(t)
	wantAdd(t, l, plain, 0, api.OK)
	wantErr(t, l.Load(0), api.OK)
	wantErr(t, l.Put([]byte("block")), api.OK)
	wantErr(t, l.Load(0), api.OK)
	wantGet(t, l, "block", api.OK)
}

func TestAddAndCount(t *testing.T) {
	l, p := newLibrary(t)
	for i, plan := range []tape.Plan{{Room: 1}, {Room: 1, Early: 1}, {Room: 100, Early: 50}, {Room: 1 << 24}, {Room: 1 << 24, Early: 1 << 24}, {Room: 9, NoWrite: []int{0}, NoRead: []int{0}}} {
		wantAdd(t, l, plan, i, api.OK)
		wantCount(t, l, i+1)
		wantEmptyDrive(t, l)
	}
	if p.Count() != 0 {
		t.Errorf("the power counts %d writes, want 0", p.Count())
	}
	for i := range 6 {
		load(t, l, i)
		wantAt(t, l, 0, 0)
		wantGet(t, l, "", api.ErrNone)
	}
	for _, slot := range wrongSlots(6) {
		wantErr(t, l.Load(slot), api.ErrArg)
	}
	wantSlot(t, l, 5)
}

// Each tape is as its own plan says.
func TestTapesHaveTheirPlans(t *testing.T) {
	l, _ := newLibrary(t,
		tape.Plan{Room: 20},
		tape.Plan{Room: 20, Early: 15},
		tape.Plan{Room: 30, NoWrite: []int{1}},
		tape.Plan{Room: 30, NoRead: []int{0}},
	)
	for slot := range 4 {
		load(t, l, slot)
		wantWarns(t, l, false)
		write(t, l, "abc")
		wantWarns(t, l, slot == 1)
		want := []api.Errno{api.ErrEnd, api.ErrEnd, api.ErrMedia, api.OK}[slot]
		wantErr(t, l.Put(make([]byte, 10)), want)
		load(t, l, slot)
		if slot == 3 {
			wantGet(t, l, "", api.ErrMedia)
		} else {
			wantGet(t, l, "abc", api.OK)
		}
	}
}

func TestAddOfRefusedPlans(t *testing.T) {
	l, _ := newLibrary(t)
	for _, plan := range refused {
		wantAdd(t, l, plan, 0, api.ErrArg)
		wantCount(t, l, 0)
	}
	wantErr(t, l.Load(0), api.ErrArg)
	wantAdd(t, l, plain, 0, api.OK)
	wantAdd(t, l, plain, 1, api.OK)
	for _, plan := range refused {
		wantAdd(t, l, plan, 0, api.ErrArg)
		wantCount(t, l, 2)
	}
	wantErr(t, l.Load(2), api.ErrArg)
	wantAdd(t, l, plain, 2, api.OK)
	wantCount(t, l, 3)
	load(t, l, 2)
}

func TestMost(t *testing.T) {
	if library.Most != 64 {
		t.Fatalf("Most = %d, want 64", library.Most)
	}
	l, _ := newLibrary(t)
	for i := range 64 {
		wantErr(t, l.Load(i), api.ErrArg)
		wantAdd(t, l, plain, i, api.OK)
		wantCount(t, l, i+1)
	}
	for range 3 {
		wantAdd(t, l, plain, 0, api.ErrArg)
		wantAdd(t, l, tape.Plan{}, 0, api.ErrArg)
		wantCount(t, l, 64)
	}
	for i := range 64 {
		load(t, l, i)
		write(t, l, string(rune('0'+i)), "")
	}
	for _, slot := range wrongSlots(64) {
		wantErr(t, l.Load(slot), api.ErrArg)
		wantSlot(t, l, 63)
	}
	for i := range 64 {
		wantTape(t, l, i, string(rune('0'+i)), "")
	}
	wantAdd(t, l, plain, 0, api.ErrArg)
	wantSlot(t, l, 63)
}

// An unloaded tape is one of the 64 as before.
func TestMostWithAnEmptyDrive(t *testing.T) {
	l, _ := newLibrary(t, slices.Repeat([]tape.Plan{plain}, 64)...)
	load(t, l, 5)
	l.Unload()
	wantCount(t, l, 64)
	wantAdd(t, l, plain, 0, api.ErrArg)
}

func TestAddLeavesTheDrive(t *testing.T) {
	l, _ := newLibrary(t, plain)
	load(t, l, 0)
	write(t, l, "a", "", "b")
	wantErr(t, l.Seek(2), api.OK)
	for slot := 1; slot < 64; slot++ {
		wantAdd(t, l, plain, slot, api.OK)
		wantSlot(t, l, 0)
		wantAt(t, l, 2, 3)
	}
	wantAdd(t, l, plain, 0, api.ErrArg)
	wantGet(t, l, "b", api.OK)
	write(t, l, "c")
	wantTape(t, l, 0, "a", "", "b", "c")
	wantTape(t, l, 1)
}

// Count is the library's own, not that of the power, which the tape promotes.
func TestCountIsOfTapes(t *testing.T) {
	l, p := newLibrary(t, plain, plain)
	load(t, l, 1)
	write(t, l, "a", "b", "c", "", "d")
	wantCount(t, l, 2)
	if n := l.Tape.Count(); n != 5 || p.Count() != 5 {
		t.Errorf("the power counts %d writes, want 5", n)
	}
}

// Load, Unload and Slot.

func TestPromotedMethodsOfTheTapeInTheDrive(t *testing.T) {
	l, _ := newLibrary(t, tape.Plan{Room: 100, Early: 80}, tape.Plan{Room: 100, NoRead: []int{1}})
	for slot := range 2 {
		load(t, l, slot)
		var drive interface {
			Place() int
			Len() int
			Warns() bool
			Put(b []byte) api.Errno
			Mark() api.Errno
			Get() ([]byte, api.Errno)
			Seek(at int) api.Errno
			Skip(marks int) api.Errno
		} = l
		wantErr(t, drive.Put([]byte("abc")), api.OK)
		wantErr(t, drive.Mark(), api.OK)
		wantErr(t, drive.Put([]byte("defgh")), api.OK)
		wantErr(t, drive.Put(nil), api.ErrArg)
		wantErr(t, drive.Put(make([]byte, 201)), api.ErrLong)
		wantErr(t, drive.Put(make([]byte, 200)), api.ErrEnd)
		if drive.Place() != 3 || drive.Len() != 3 || drive.Warns() != (slot == 0) {
			t.Errorf("Place() = %d, Len() = %d, Warns() = %t", drive.Place(), drive.Len(), drive.Warns())
		}
		wantErr(t, drive.Seek(4), api.ErrArg)
		wantErr(t, drive.Seek(1), api.OK)
		if b, e := drive.Get(); len(b) != 0 || e != []api.Errno{api.ErrMark, api.ErrMedia}[slot] {
			t.Errorf("slot %d: Get() = %q, %d", slot, b, e)
		}
		wantErr(t, drive.Seek(0), api.OK)
		wantErr(t, drive.Skip(2), api.ErrNone)
		wantErr(t, drive.Skip(1), api.OK)
		wantAt(t, l, 2, 3)
		wantGet(t, l, "defgh", api.OK)
		wantGet(t, l, "", api.ErrNone)
	}
	wantTape(t, l, 0, "abc", "", "defgh")
}

func TestTapesWrittenInTurn(t *testing.T) {
	l, _ := newLibrary(t, plain, plain, plain)
	load(t, l, 0)
	write(t, l, "a", "", "b")
	load(t, l, 2)
	wantAt(t, l, 0, 0)
	write(t, l, "c")
	load(t, l, 0)
	wantErr(t, l.Seek(3), api.OK)
	write(t, l, "d")
	load(t, l, 2)
	wantErr(t, l.Seek(1), api.OK)
	write(t, l, "", "e")
	wantTape(t, l, 0, "a", "", "b", "d")
	wantTape(t, l, 1)
	wantTape(t, l, 2, "c", "", "e")
}

// Behind a Load, what is written lies at the beginning, and the rest is gone.
func TestWrittenBehindALoad(t *testing.T) {
	l, _ := newLibrary(t, plain, plain)
	load(t, l, 1)
	write(t, l, "a", "b", "c")
	load(t, l, 0)
	write(t, l, "d", "e")
	load(t, l, 1)
	write(t, l, "f")
	wantTape(t, l, 1, "f")
	wantTape(t, l, 0, "d", "e")
}

func TestLoadOfTheTapeInTheDrive(t *testing.T) {
	l, p := newLibrary(t, plain, plain)
	load(t, l, 1)
	write(t, l, "a", "", "b")
	for at := range 4 {
		wantErr(t, l.Seek(at), api.OK)
		load(t, l, 1)
		wantAt(t, l, 0, 3)
	}
	wantTape(t, l, 1, "a", "", "b")
	if p.Count() != 3 {
		t.Errorf("the power counts %d writes, want 3", p.Count())
	}
}

func TestLoadOfEachSlotBehindEachOther(t *testing.T) {
	l, _ := newLibrary(t, slices.Repeat([]tape.Plan{plain}, 5)...)
	texts := []string{"a", "bc", "d", "ef", "g"}
	for i, s := range texts {
		load(t, l, i)
		write(t, l, s, "", s)
	}
	for i := range texts {
		for j := range texts {
			load(t, l, i)
			wantErr(t, l.Seek(2), api.OK)
			wantTape(t, l, j, texts[j], "", texts[j])
		}
	}
}

func TestLoadOfWrongSlotsLeavesTheDrive(t *testing.T) {
	l, _ := newLibrary(t, plain, plain)
	for _, slot := range wrongSlots(2) {
		wantErr(t, l.Load(slot), api.ErrArg)
		wantEmptyDrive(t, l)
	}
	for i := range 2 {
		load(t, l, i)
		write(t, l, "a", "b")
		wantErr(t, l.Seek(1), api.OK)
		for _, slot := range wrongSlots(2) {
			wantErr(t, l.Load(slot), api.ErrArg)
			wantSlot(t, l, i)
			wantAt(t, l, 1, 2)
		}
	}
	wantCount(t, l, 2)
}

func TestUnload(t *testing.T) {
	l, p := newLibrary(t, plain, plain)
	for slot := range 2 {
		load(t, l, slot)
		write(t, l, "a", "", "b")
		for range 3 {
			l.Unload()
			wantEmptyDrive(t, l)
			wantCount(t, l, 2)
		}
	}
	if p.Count() != 6 {
		t.Errorf("the power counts %d writes, want 6", p.Count())
	}
	wantTape(t, l, 0, "a", "", "b")
	l.Unload()
	wantTape(t, l, 1, "a", "", "b")
}

func TestAddBehindAnUnload(t *testing.T) {
	l, _ := newLibrary(t, plain)
	load(t, l, 0)
	write(t, l, "a")
	l.Unload()
	wantAdd(t, l, plain, 1, api.OK)
	wantEmptyDrive(t, l)
	wantTape(t, l, 1)
	wantTape(t, l, 0, "a")
}

// Power.

func TestPowerIsThatPassed(t *testing.T) {
	l, p := newLibrary(t, plain, plain)
	for slot := range 2 {
		load(t, l, slot)
		if l.Power != p {
			t.Fatalf("the tape in slot %d has another power than was passed", slot)
		}
	}
	l.Plan(1, 3)
	if n, e := l.Write(9); n != 9 || e != api.OK {
		t.Errorf("Write(9) = %d, %d, want 9, OK", n, e)
	}
	if n, e := p.Write(9); n != 3 || e != api.ErrDown {
		t.Errorf("Write(9) = %d, %d, want 3, ErrDown", n, e)
	}
	if l.On() || p.Count() != 2 {
		t.Error("the power of the tape in the drive is not that passed")
	}
	l.Up()
	if !p.On() {
		t.Error("the power that was passed is still off")
	}
}

func TestFallAtAPutOntoOneTape(t *testing.T) {
	l, p := newLibrary(t, plain, plain, plain)
	load(t, l, 0)
	write(t, l, "a", "", "b")
	p.Plan(2, 6)
	load(t, l, 1)
	write(t, l, "c", "")
	wantErr(t, l.Put([]byte("defg")), api.ErrDown)
	wantAt(t, l, 2, 3)
	wantDown(t, l)
	wantErr(t, l.Put(nil), api.ErrArg)
	wantErr(t, l.Seek(4), api.ErrArg)
	wantErr(t, l.Skip(-1), api.ErrArg)
	for slot := range 3 {
		wantErr(t, l.Load(slot), api.ErrDown)
		wantSlot(t, l, 1)
		wantAt(t, l, 2, 3)
	}
	p.Up()
	wantAt(t, l, 2, 3)
	wantGet(t, l, "de", api.OK)
	wantTape(t, l, 0, "a", "", "b")
	wantTape(t, l, 1, "c", "", "de")
	wantTape(t, l, 2)
}

func TestPlanIsUsedUpByAllTapes(t *testing.T) {
	l, p := newLibrary(t, plain, plain)
	p.Plan(3, 0)
	for i, want := range []api.Errno{api.OK, api.OK, api.OK, api.ErrDown} {
		load(t, l, i%2)
		wantErr(t, l.Mark(), want)
	}
	wantErr(t, l.Load(0), api.ErrDown)
	p.Up()
	wantTape(t, l, 0, "")
	wantTape(t, l, 1)
}

// No call of the library's own is a write at which power could fall.
func TestOwnCallsAreNoWrites(t *testing.T) {
	l, p := newLibrary(t, plain)
	p.Plan(0, 0)
	wantAdd(t, l, plain, 1, api.OK)
	wantCount(t, l, 2)
	load(t, l, 1)
	load(t, l, 0)
	l.Unload()
	wantNoSlot(t, l)
	load(t, l, 0)
	if !p.On() || p.Count() != 0 {
		t.Errorf("the power is on: %t, and counts %d writes", p.On(), p.Count())
	}
	wantErr(t, l.Mark(), api.ErrDown)
}

func TestWhilePowerIsOff(t *testing.T) {
	l, p := newLibrary(t, plain)
	load(t, l, 0)
	write(t, l, "a", "b")
	wantErr(t, l.Seek(1), api.OK)
	fall(p)
	wantDown(t, l)
	wantErr(t, l.Load(0), api.ErrDown)
	wantAt(t, l, 1, 2)

	wantAdd(t, l, plain, 1, api.OK)
	wantAdd(t, l, tape.Plan{}, 0, api.ErrArg)
	wantCount(t, l, 2)
	wantErr(t, l.Load(1), api.ErrDown)
	wantSlot(t, l, 0)
	l.Unload()
	wantEmptyDrive(t, l)
	wantErr(t, l.Load(0), api.ErrDown)
	wantErr(t, l.Load(1), api.ErrDown)
	wantEmptyDrive(t, l)
	if p.On() {
		t.Error("power is on again without Up")
	}

	p.Up()
	wantEmptyDrive(t, l)
	wantTape(t, l, 0, "a", "b")
	wantTape(t, l, 1)
}

func TestMostWhilePowerIsOff(t *testing.T) {
	l, p := newLibrary(t)
	fall(p)
	for i := range 64 {
		wantAdd(t, l, plain, i, api.OK)
	}
	wantAdd(t, l, plain, 0, api.ErrArg)
	wantCount(t, l, 64)
	p.Up()
	load(t, l, 63)
}

func TestArgumentsComeAheadOfDown(t *testing.T) {
	l, p := newLibrary(t, plain, plain)
	load(t, l, 1)
	write(t, l, "a")
	fall(p)
	for _, slot := range wrongSlots(2) {
		wantErr(t, l.Load(slot), api.ErrArg)
		wantSlot(t, l, 1)
		wantAt(t, l, 1, 1)
	}
	l.Unload()
	for _, slot := range wrongSlots(2) {
		wantErr(t, l.Load(slot), api.ErrArg)
	}
	wantEmptyDrive(t, l)
}

func TestFallsAtEachByte(t *testing.T) {
	for torn := -1; torn <= 10; torn++ {
		l, p := newLibrary(t, plain, plain)
		load(t, l, 0)
		write(t, l, "old", "old")
		load(t, l, 1)
		write(t, l, "other")
		load(t, l, 0)
		p.Plan(0, torn)
		wantErr(t, l.Put([]byte("fresh")), api.ErrDown)
		wantErr(t, l.Load(1), api.ErrDown)
		p.Up()
		var want []string
		if n := min(torn, 9) - 4; n > 0 {
			want = append(want, "fresh"[:n])
		}
		wantTape(t, l, 0, want...)
		wantTape(t, l, 1, "other")
	}
}

// A nil library, and one that New didn't make.

func TestNil(t *testing.T) {
	var l *library.Library
	for range 2 {
		for _, plan := range append(slices.Clone(refused), plain, tape.Plan{Room: 9, NoWrite: []int{3, 1}}) {
			wantAdd(t, l, plan, 0, api.ErrArg)
		}
		wantCount(t, l, 0)
		for _, slot := range append(wrongSlots(64), 0, 1, 63) {
			wantErr(t, l.Load(slot), api.ErrArg)
		}
		l.Unload()
		wantNoSlot(t, l)
	}
}

func TestZeroLibraryDoesNotPanic(t *testing.T) {
	l := new(library.Library)
	wantAdd(t, l, plain, 0, api.ErrArg)
	wantCount(t, l, 0)
	wantErr(t, l.Load(0), api.ErrArg)
	l.Unload()
	wantEmptyDrive(t, l)
}

// Arguments and results share no memory with the library.

func TestListsAreNeitherKeptNorChanged(t *testing.T) {
	noWrite, noRead := []int{5, 3, 5, 0, 1}, []int{2, 1, 2, 0, 4}
	plan := tape.Plan{Room: great, NoWrite: noWrite[:3], NoRead: noRead[:3]}
	l, _ := newLibrary(t, plan, plan)
	check := func() {
		t.Helper()
		for slot := range 2 {
			load(t, l, slot)
			write(t, l, "a", "b", "c")
			wantErr(t, l.Put([]byte("d")), api.ErrMedia)
			load(t, l, slot)
			wantGet(t, l, "a", api.OK)
			wantGet(t, l, "", api.ErrMedia)
			wantErr(t, l.Seek(2), api.OK)
			wantGet(t, l, "", api.ErrMedia)
		}
	}
	check()
	if !slices.Equal(noWrite, []int{5, 3, 5, 0, 1}) || !slices.Equal(noRead, []int{2, 1, 2, 0, 4}) {
		t.Errorf("the caller's lists are changed: %v, %v", noWrite, noRead)
	}
	for _, n := range []int{0, 90} {
		for i := range noWrite {
			noWrite[i], noRead[i] = n, n
		}
		check()
	}
}

func TestBytesAreNeitherKeptNorChanged(t *testing.T) {
	l, _ := newLibrary(t, plain, plain)
	whole := bytes.Repeat([]byte{7}, 30)
	part := whole[3:6]
	for slot := range 2 {
		copy(part, "abc")
		load(t, l, slot)
		wantErr(t, l.Put(part), api.OK)
		if string(part) != "abc" || !bytes.Equal(whole[6:], bytes.Repeat([]byte{7}, 24)) {
			t.Error("a put changed the caller's bytes")
		}
		clear(part)
	}
	wantTape(t, l, 0, "abc")
	wantTape(t, l, 1, "abc")
}

func TestResultsAreNew(t *testing.T) {
	l, _ := newLibrary(t, plain, plain)
	load(t, l, 0)
	write(t, l, "abc", "def")
	get := func() []byte {
		load(t, l, 0)
		b, _ := l.Get()
		return b
	}
	first, second := get(), get()
	clear(first[:cap(first)])
	_ = append(second, 1, 2, 3, 4, 5, 6, 7, 8, 9)
	wantTape(t, l, 0, "abc", "def")
	load(t, l, 0)
	write(t, l, "xyz")
	if string(second) != "abc" {
		t.Error("a result shares memory with the library")
	}
}

// A model, by the chapter's words: a list of tapes of layer 6, with a power of
// its own, and the number of the one in the drive, or -1.

type model struct {
	p     *power.Power
	tapes []*tape.Tape
	drive int
}

func (m *model) add(plan tape.Plan) (int, api.Errno) {
	if len(m.tapes) >= 64 {
		return 0, api.ErrArg
	}
	x, e := tape.New(plan, m.p)
	if e != api.OK {
		return 0, api.ErrArg
	}
	m.tapes = append(m.tapes, x)
	return len(m.tapes) - 1, api.OK
}

func (m *model) load(slot int) api.Errno {
	if slot < 0 || slot >= len(m.tapes) {
		return api.ErrArg
	}
	if !m.p.On() {
		return api.ErrDown
	}
	m.drive = slot
	m.tapes[slot].Seek(0)
	return api.OK
}

// inDrive is the tape there; nil if there is none.
func (m *model) inDrive() *tape.Tape {
	if m.drive < 0 {
		return nil
	}
	return m.tapes[m.drive]
}

// planOf is a plan that each seed has another one of; some are refused.
func planOf(seed int) tape.Plan {
	room := []int{1 << 16, 30, 100, 0, 400, 1000, 5000}[seed%7]
	early := []int{0, room / 4, room, room + 1, -1}[seed%5]
	return tape.Plan{Room: room, Early: early, NoWrite: []int{seed % 23, seed % 11}, NoRead: []int{seed % 13, 7}}
}

// run makes a call of each three bytes, and compares it with a model.
func run(t *testing.T, calls []byte) {
	t.Helper()
	l, p := newLibrary(t)
	m := &model{p: power.New(), drive: -1}
	for ; len(calls) >= 3; calls = calls[3:] {
		a, b := int(calls[1]), int(calls[2])
		var e, want api.Errno
		var n, wantN int
		var got, wantGot []byte
		x := m.inDrive()
		switch calls[0] % 16 {
		case 0, 1:
			n, e = l.Add(planOf(a))
			wantN, want = m.add(planOf(a))
		case 2, 3:
			e, want = l.Load(a%70-3), m.load(a%70-3)
		case 4, 5:
			e, want = l.Load(a%(len(m.tapes)+1)), m.load(a%(len(m.tapes)+1))
		case 6:
			l.Unload()
			m.drive = -1
		case 7:
			p.Plan(a%8-1, b%30-1)
			m.p.Plan(a%8-1, b%30-1)
		case 8:
			p.Up()
			m.p.Up()
		case 9, 10, 11:
			block := slices.Repeat([]byte{byte(b)}, a%30)
			e, want = l.Put(block), x.Put(block)
		case 12:
			e, want = l.Mark(), x.Mark()
		case 13:
			got, e = l.Get()
			wantGot, want = x.Get()
		case 14:
			e, want = l.Seek(a%20-1), x.Seek(a%20-1)
		default:
			e, want = l.Skip(a%4-1), x.Skip(a%4-1)
		}
		if e != want || n != wantN || !bytes.Equal(got, wantGot) {
			t.Fatalf("call %v: %d, %q, %d, want %d, %q, %d", calls[:3], n, got, e, wantN, wantGot, want)
		}
		wantLike(t, l, m)
	}
	p.Up()
	m.p.Up()
	wantSame(t, l, m)
}

// wantLike asks for all that can be asked without a change.
func wantLike(t *testing.T, l *library.Library, m *model) {
	t.Helper()
	x := m.inDrive()
	wantCount(t, l, len(m.tapes))
	if m.drive < 0 {
		wantNoSlot(t, l)
	} else {
		wantSlot(t, l, m.drive)
	}
	wantAt(t, l, x.Place(), x.Len())
	wantWarns(t, l, x.Warns())
}

// wantSame reads all that is on each tape of the library and of the model.
func wantSame(t *testing.T, l *library.Library, m *model) {
	t.Helper()
	for slot, x := range m.tapes {
		load(t, l, slot)
		for at := range x.Len() + 1 {
			wantErr(t, l.Seek(at), x.Seek(at))
			b, e := x.Get()
			wantGet(t, l, string(b), e)
		}
	}
}

// calls is n calls without a plain pattern, the same ones each time.
func calls(n int, seed uint32) []byte {
	b := make([]byte, 3*n)
	for i := range b {
		seed = seed*1664525 + 1013904223
		b[i] = byte(seed >> 24)
	}
	return b
}

func TestManyCalls(t *testing.T) {
	for seed := range 200 {
		run(t, calls(1200, uint32(seed)))
		run(t, calls(100, uint32(seed)))
	}
}

// The results depend on the earlier calls on the same library, and on its power, alone (P2).
func TestSameCallsAgain(t *testing.T) {
	other, p := newLibrary(t, plain, plain)
	for range 3 {
		run(t, calls(600, 4))
		load(t, other, 1)
		other.Plan(0, 6)
		other.Put([]byte("torn"))
		other.Unload()
		p.Up()
	}
}

func FuzzCalls(f *testing.F) {
	f.Add(calls(60, 1))
	f.Add(calls(400, 2))
	f.Add([]byte{})
	f.Fuzz(func(t *testing.T, b []byte) { run(t, b) })
}

package writer_test

import (
	"bytes"
	"math"
	"slices"
	"testing"

	"revenant/api"
	"revenant/library"
	"revenant/power"
	"revenant/segment"
	"revenant/tape"
	"revenant/writer"
)

// fall lets power fail at a write that is none of a tape's.
func fall(p *power.Power) {
	p.Plan(0, 0)
	p.Write(1)
}

// bad is the plan of a wide tape on which these positions can't be written.
func bad(l ...int) tape.Plan { return tape.Plan{Room: great, NoWrite: l} }

// P16.1: the first ErrArg.

// wantNoCall makes a call that is ErrArg ahead of all, and looks that it did nothing.
func wantNoCall(t *testing.T, l *library.Library, h segment.Head, b []byte) {
	t.Helper()
	x := tell(spot(0, 0), spot(0, 0))
	r, e := writer.Write(l, h, b, x.next)
	wantResult(t, r, e, x, writer.Result{}, api.ErrArg, 0)
	r, e = writer.Write(l, h, b, nil)
	wantResult(t, r, e, x, writer.Result{}, api.ErrArg, 0)
}

func TestNilLibrary(t *testing.T) {
	for range 2 {
		for _, b := range [][]byte{dump(1), dump(1000), nil, {}} {
			wantNoCall(t, nil, small, b)
			wantNoCall(t, nil, segment.Head{}, b)
			for _, h := range wrongHeads() {
				wantNoCall(t, nil, h, b)
			}
		}
	}
}

func TestNoBytes(t *testing.T) {
	l, p := newLibrary(t, wide)
	for _, b := range [][]byte{nil, {}, make([]byte, 0, 10), dump(9)[:0], dump(9)[9:]} {
		wantNoCall(t, l, small, b)
		wantNoCall(t, &library.Library{}, small, b)
		wantEmptyDrive(t, l)
		fall(p)
		wantNoCall(t, l, small, b)
		p.Up()
	}
	wantContent(t, l, 0)
}

func TestHeadsThatCannotBe(t *testing.T) {
	l, p := newLibrary(t, wide, tape.Plan{Room: 1})
	lay(t, l, 0, "label", "", "old")
	before := p.Count()
	p.Plan(0, 9)
	for _, h := range wrongHeads() {
		for _, b := range [][]byte{dump(1), dump(161), nil} {
			wantNoCall(t, l, h, b)
			wantNoCall(t, &library.Library{}, h, b)
		}
	}
	if !p.On() || p.Count() != before {
		t.Errorf("the power is on: %t, and counts %d writes, want %d", p.On(), p.Count(), before)
	}
	wantDrive(t, l, 0, 3, 3)
	fall(p)
	wantNoCall(t, l, head(-1, 0, 0, 0), dump(9))
	p.Up()
	wantContent(t, l, 0, "label", "", "old")
}

// ErrFull.

func TestNoSpotAtOnce(t *testing.T) {
	l, p := newLibrary(t, wide)
	lay(t, l, 0, "old", "")
	before := p.Count()
	for _, n := range []int{1, 160, 161, 5000} {
		x := tell()
		r, e := writer.Write(l, small, dump(n), x.next)
		wantResult(t, r, e, x, writer.Result{}, api.ErrFull, 1)
	}
	if p.Count() != before {
		t.Errorf("%d writes", p.Count()-before)
	}
	wantDrive(t, l, 0, 2, 2)
	wantContent(t, l, 0, "old", "")
	fall(p)
	x := tell()
	r, e := writer.Write(l, small, dump(9), x.next)
	wantResult(t, r, e, x, writer.Result{}, api.ErrFull, 1)
	x = tell()
	r, e = writer.Write(&library.Library{}, small, dump(9), x.next)
	wantResult(t, r, e, x, writer.Result{}, api.ErrFull, 1)
}

// A next that is nil, or that panics, tells no spot.
func TestNextThatTellsNone(t *testing.T) {
	l, _ := newLibrary(t, warnsAt(15), wide)
	if r, e := writer.Write(l, small, dump(9), nil); !same(r, writer.Result{}) || e != api.ErrFull {
		t.Errorf("Write = %v, %d, want nothing, ErrFull", r, e)
	}
	wantEmptyDrive(t, l)
	n := 0
	r, e := writer.Write(l, small, dump(200), func() (writer.Spot, bool) {
		if n++; n == 2 {
			panic("no spot")
		}
		return spot(0, 0), true
	})
	if !same(r, writer.Result{Parts: parts(part(0, 0, 1, 160, 4))}) || e != api.ErrFull || n != 2 {
		t.Errorf("Write = %v, %d, by %d calls", r, e, n)
	}
	wantContent(t, l, 0, partOf(small, 0, dump(160), false)...)
	wantContent(t, l, 1)
}

// Whatever spots failed, and however many parts there are: they are returned when there
// is none left.
func TestNoSpotLater(t *testing.T) {
	plans := []tape.Plan{warnsAt(15), bad(1), tape.Plan{Room: 20}, warnsAt(184), bad(0)}
	spots := []writer.Spot{spot(0, 0), spot(1, 0), spot(2, 0), spot(3, 0), spot(4, 0), spot(1, 0)}
	wants := []writer.Result{
		{},
		{Parts: parts(part(0, 0, 1, 160, 4))},
		{Parts: parts(part(0, 0, 1, 160, 4)), Bad: []int{1}},
		{Parts: parts(part(0, 0, 1, 160, 4)), Bad: []int{1}},
		{Parts: parts(part(0, 0, 1, 160, 4), part(3, 0, 2, 320, 5)), Bad: []int{1}},
		{Parts: parts(part(0, 0, 1, 160, 4), part(3, 0, 2, 320, 5)), Bad: []int{1, 4}},
		{Parts: parts(part(0, 0, 1, 160, 4), part(3, 0, 2, 320, 5)), Bad: []int{1, 4, 1}},
	}
	b := dump(481)
	for n, want := range wants {
		l, _ := newLibrary(t, plans...)
		x := tell(spots[:n]...)
		r, e := writer.Write(l, small, b, x.next)
		wantResult(t, r, e, x, want, api.ErrFull, n+1)
		if n > 0 {
			wantContent(t, l, 0, partOf(small, 0, b[:160], false)...)
		}
		if n > 1 {
			wantContent(t, l, 1, headBlock(small, n/6+1))
		}
		if n > 3 {
			wantContent(t, l, 3, partOf(small, 1, b[160:480], false)...)
		}
	}
	l, _ := newLibrary(t, plans...)
	r := write(t, l, small, b[:480], spots[:4]...)
	if !same(r, wants[4]) {
		t.Errorf("Write = %v, want %v", r, wants[4])
	}
}

// ErrMedia, and ErrEnd.

// A position that can't be written, at each place of a part: all that is ahead of it is
// there, and the part is whole at the next spot.
func TestMediaAtEachPlace(t *testing.T) {
	for _, had := range [][]string{nil, {"label", ""}, {"x", "y", "z"}} {
		for _, n := range []int{1, 160, 400, 800} {
			whole, blocks := partOf(small, 0, dump(n), true), (n+159)/160
			for k := range whole {
				at := len(had)
				l, p := newLibrary(t, bad(at+k), wide)
				lay(t, l, 0, had...)
				before := p.Count()
				x := tell(spot(0, at), spot(1, 0))
				r, e := writer.Write(l, small, dump(n), x.next)
				wantResult(t, r, e, x, writer.Result{Parts: parts(part(1, 0, blocks, n, blocks+3)), Bad: []int{0}}, api.OK, 2)
				wantContent(t, l, 0, append(slices.Clone(had), whole[:k]...)...)
				wantContent(t, l, 1, whole...)
				wantDrive(t, l, 1, len(whole), len(whole))
				if p.Count() != before+k+1+len(whole) {
					t.Errorf("%d writes, want %d", p.Count()-before, k+1+len(whole))
				}
				x = tell(spot(0, at))
				r, e = writer.Write(l, small, dump(n), x.next)
				wantResult(t, r, e, x, writer.Result{Bad: []int{0}}, api.ErrFull, 2)
				wantDrive(t, l, 0, at+k, at+k)
			}
		}
	}
}

// A tape that is too small, at each place of a part: nothing is noted.
func TestEndAtEachRoom(t *testing.T) {
	for _, had := range [][]string{nil, {"label", ""}} {
		for _, n := range []int{1, 160, 161, 400} {
			whole, blocks := partOf(small, 0, dump(n), true), (n+159)/160
			start := size(had...)
			for room := max(start, 1); room < start+size(whole...); room++ {
				k := 0
				for start+size(whole[:k+1]...) <= room {
					k++
				}
				at := len(had)
				l, p := newLibrary(t, tape.Plan{Room: room}, wide)
				lay(t, l, 0, had...)
				before := p.Count()
				x := tell(spot(0, at), spot(1, 0))
				r, e := writer.Write(l, small, dump(n), x.next)
				wantResult(t, r, e, x, writer.Result{Parts: parts(part(1, 0, blocks, n, blocks+3))}, api.OK, 2)
				wantContent(t, l, 0, append(slices.Clone(had), whole[:k]...)...)
				wantContent(t, l, 1, whole...)
				if p.Count() != before+k+len(whole) {
					t.Errorf("%d writes, want %d", p.Count()-before, k+len(whole))
				}
				x = tell(spot(0, at))
				r, e = writer.Write(l, small, dump(n), x.next)
				wantResult(t, r, e, x, writer.Result{}, api.ErrFull, 2)
				wantDrive(t, l, 0, at+k, at+k)
			}
			l, _ := newLibrary(t, tape.Plan{Room: start + size(whole...)})
			lay(t, l, 0, had...)
			at := len(had)
			wantParts(t, l, small, dump(n), []writer.Spot{spot(0, at)}, part(0, at, blocks, n, at+blocks+3))
		}
	}
}

// A tape that warns has a part only if its End and the mark have room too.
func TestEndBehindTheWarning(t *testing.T) {
	b := dump(400)
	whole := partOf(small, 0, b[:320], false)
	for room := 352; room <= 352+15+4+20; room++ {
		l, _ := newLibrary(t, tape.Plan{Room: room, Early: room - 352}, wide)
		k := 3
		if room >= 352+15 {
			k++
		}
		if room >= 352+15+4 {
			k++
		}
		r := write(t, l, small, b, spot(0, 0), spot(1, 0))
		want := writer.Result{Parts: parts(part(0, 0, 2, 320, 5), part(1, 0, 1, 80, 4))}
		if k < 5 {
			want = writer.Result{Parts: parts(part(1, 0, 3, 400, 6))}
		}
		if !same(r, want) {
			t.Errorf("room %d: Write = %v, want %v", room, r, want)
		}
		wantContent(t, l, 0, whole[:k]...)
		wantBytes(t, l, small, b, want.Parts...)
	}
}

// Where several things fail, the first one counts: a position behind the end of the
// room isn't tried, so that it isn't bad.
func TestEndAheadOfMedia(t *testing.T) {
	b := dump(200)
	whole := partOf(small, 0, b, true)
	for k := range whole {
		room := max(size(whole[:k]...), 1)
		l, _ := newLibrary(t, tape.Plan{Room: room, NoWrite: []int{k}})
		x := tell(spot(0, 0))
		r, e := writer.Write(l, small, b, x.next)
		wantResult(t, r, e, x, writer.Result{}, api.ErrFull, 2)
		wantContent(t, l, 0, whole[:k]...)
	}
	l, _ := newLibrary(t, tape.Plan{Room: great, Early: great, NoWrite: []int{1, 2, 3}})
	x := tell(spot(0, 0))
	r, e := writer.Write(l, small, b, x.next)
	wantResult(t, r, e, x, writer.Result{}, api.ErrFull, 2)
	l, _ = newLibrary(t, tape.Plan{Room: 14, Early: 14, NoWrite: []int{0}})
	x = tell(spot(0, 0))
	r, e = writer.Write(l, small, b, x.next)
	wantResult(t, r, e, x, writer.Result{Bad: []int{0}}, api.ErrFull, 2)
}

// Positions that can't be written, but aren't to be, and such that can't be read.
func TestDefectsThatDoNotMatter(t *testing.T) {
	for _, plan := range []tape.Plan{bad(5), bad(6, 100, -1), {Room: great, NoRead: []int{0, 1, 2, 3, 4, 5}}} {
		l, p := newLibrary(t, plan)
		lay(t, l, 0, "a")
		r := write(t, l, small, dump(9), spot(0, 1))
		if !same(r, writer.Result{Parts: parts(part(0, 1, 1, 9, 5))}) || p.Count() != 5 {
			t.Errorf("Write = %v, with %d writes", r, p.Count())
		}
		wantDrive(t, l, 0, 5, 5)
	}
}

// The same slot can be bad more than once; it can have a part, too.
func TestBadSlots(t *testing.T) {
	l, _ := newLibrary(t, bad(0), bad(4), wide)
	lay(t, l, 1, "a", "b", "c")
	b := dump(170)
	r := write(t, l, small, b, spot(0, 0), spot(1, 2), spot(0, 0), spot(1, 3), spot(1, 1), spot(0, 0), spot(2, 0))
	want := writer.Result{Parts: parts(part(2, 0, 2, 170, 5)), Bad: []int{0, 1, 0, 1, 1, 0}}
	if !same(r, want) {
		t.Errorf("Write = %v, want %v", r, want)
	}
	wantContent(t, l, 1, "a", headBlock(small, 0), dataBlock(b[:160]), dataBlock(b[160:]))
	wantContent(t, l, 2, partOf(small, 0, b, true)...)
	r = write(t, l, small, b[:160], spot(1, 2), spot(0, 0), spot(1, 0))
	want = writer.Result{Parts: parts(part(1, 0, 1, 160, 4)), Bad: []int{1, 0}}
	if !same(r, want) {
		t.Errorf("Write = %v, want %v", r, want)
	}
}

// Ten thousand spots that fail, each with an error of its own.
func TestManyBadSpots(t *testing.T) {
	l, _ := newLibrary(t, bad(0), tape.Plan{Room: 9})
	var spots []writer.Spot
	var want []int
	for i := range 10000 {
		spots = append(spots, spot(i%2, 0))
		if i%2 == 0 {
			want = append(want, 0)
		}
	}
	x := tell(spots...)
	r, e := writer.Write(l, small, dump(9), x.next)
	wantResult(t, r, e, x, writer.Result{Bad: want}, api.ErrFull, 10001)
}

// A part that failed counts neither for the Part of the next Head, nor for the blocks
// and the bytes of the next End.
func TestFailedPartsDoNotCount(t *testing.T) {
	b := dump(700)
	for _, plan := range []tape.Plan{bad(0), bad(1), bad(2), bad(3), bad(4), {Room: 14}, {Room: 183}, {Room: 200}, {Room: 270}, warnsAt(14)} {
		l, _ := newLibrary(t, warnsAt(15), plan, warnsAt(184), wide)
		r := write(t, l, small, b, spot(1, 0), spot(0, 0), spot(1, 0), spot(1, 0), spot(2, 0), spot(1, 0), spot(3, 0))
		if want := parts(part(0, 0, 1, 160, 4), part(2, 0, 2, 320, 5), part(3, 0, 2, 220, 5)); !slices.Equal(r.Parts, want) {
			t.Errorf("Write = %v, want the parts %v", r, want)
		}
		wantContent(t, l, 0, headBlock(small, 0), dataBlock(b[:160]), endBlock(3, 0, 1, 160, false), "")
		wantContent(t, l, 2, headBlock(small, 1), dataBlock(b[160:320]), dataBlock(b[320:480]), endBlock(3, 1, 2, 320, false), "")
		wantContent(t, l, 3, headBlock(small, 2), dataBlock(b[480:640]), dataBlock(b[640:]), endBlock(3, 2, 2, 220, true), "")
	}
}

// Other errors.

// wrongSlots is slots that aren't there where there are n.
func wrongSlots(n int) []int {
	return []int{-1, -2, n, n + 1, 64, 65, math.MinInt, math.MaxInt, math.MinInt32, math.MaxInt32}
}

func TestSlotsThatAreNotThere(t *testing.T) {
	b := dump(500)
	for _, slot := range wrongSlots(3) {
		for _, at := range []int{0, 1, -1} {
			l, p := newLibrary(t, warnsAt(15), bad(0), wide)
			x := tell(spot(slot, at), spot(2, 0))
			r, e := writer.Write(l, small, b, x.next)
			wantResult(t, r, e, x, writer.Result{}, api.ErrArg, 1)
			wantEmptyDrive(t, l)
			x = tell(spot(1, 0), spot(0, 0), spot(1, 0), spot(slot, at), spot(2, 0))
			r, e = writer.Write(l, small, b, x.next)
			wantResult(t, r, e, x, writer.Result{Parts: parts(part(0, 0, 1, 160, 4)), Bad: []int{1, 1}}, api.ErrArg, 4)
			wantDrive(t, l, 1, 0, 0)
			wantContent(t, l, 0, partOf(small, 0, b[:160], false)...)
			wantContent(t, l, 2)
			fall(p)
			x = tell(spot(slot, at))
			r, e = writer.Write(l, small, b, x.next)
			wantResult(t, r, e, x, writer.Result{}, api.ErrArg, 1)
		}
	}
	for _, l := range []*library.Library{{}, made(t)} {
		x := tell(spot(0, 0))
		r, e := writer.Write(l, small, b, x.next)
		wantResult(t, r, e, x, writer.Result{}, api.ErrArg, 1)
		wantEmptyDrive(t, l)
	}
}

// made is a library without tapes.
func made(t *testing.T) *library.Library {
	t.Helper()
	l, _ := newLibrary(t)
	return l
}

func TestPositionsThatAreNotThere(t *testing.T) {
	b := dump(500)
	for _, at := range []int{-1, -2, 3, 4, 100, math.MinInt, math.MaxInt, math.MinInt32, math.MaxInt32} {
		l, p := newLibrary(t, warnsAt(15), bad(0), wide)
		lay(t, l, 2, "a", "")
		before := p.Count()
		x := tell(spot(2, at), spot(2, 0))
		r, e := writer.Write(l, small, b, x.next)
		wantResult(t, r, e, x, writer.Result{}, api.ErrArg, 1)
		wantDrive(t, l, 2, 0, 2)
		if p.Count() != before {
			t.Errorf("%d writes", p.Count()-before)
		}
		x = tell(spot(1, 0), spot(0, 0), spot(2, at), spot(2, 0))
		r, e = writer.Write(l, small, b, x.next)
		wantResult(t, r, e, x, writer.Result{Parts: parts(part(0, 0, 1, 160, 4)), Bad: []int{1}}, api.ErrArg, 3)
		wantDrive(t, l, 2, 0, 2)
		wantContent(t, l, 0, partOf(small, 0, b[:160], false)...)
		wantContent(t, l, 2, "a", "")
		wantParts(t, l, small, b, []writer.Spot{spot(2, 2)}, part(2, 2, 4, 500, 9))
	}
}

// Without power no tape is loaded, wherever the spot is.
func TestPowerOff(t *testing.T) {
	l, p := newLibrary(t, wide, wide, tape.Plan{Room: 1}, bad(0))
	lay(t, l, 1, "a", "")
	lay(t, l, 0, "b", "c")
	fall(p)
	before := p.Count()
	for _, s := range []writer.Spot{spot(0, 0), spot(1, 0), spot(1, 2), spot(0, 2), spot(2, 0), spot(3, 0), spot(1, -1), spot(1, 3)} {
		x := tell(s, spot(0, 0))
		r, e := writer.Write(l, small, dump(200), x.next)
		wantResult(t, r, e, x, writer.Result{}, api.ErrDown, 1)
		wantDrive(t, l, 0, 2, 2)
	}
	if p.On() || p.Count() != before {
		t.Errorf("the power is on: %t, and counts %d writes, want %d", p.On(), p.Count(), before)
	}
	p.Up()
	wantContent(t, l, 0, "b", "c")
	wantContent(t, l, 1, "a", "")
}

// Power falls between two parts, which next may see to.
func TestPowerOffLater(t *testing.T) {
	l, p := newLibrary(t, warnsAt(15), bad(0), wide)
	x := tell(spot(0, 0), spot(1, 0), spot(2, 0), spot(2, 0))
	r, e := writer.Write(l, small, dump(400), func() (writer.Spot, bool) {
		if x.asked == 2 {
			fall(p)
		}
		return x.next()
	})
	wantResult(t, r, e, x, writer.Result{Parts: parts(part(0, 0, 1, 160, 4)), Bad: []int{1}}, api.ErrDown, 3)
	wantDrive(t, l, 1, 0, 0)
	p.Up()
	wantContent(t, l, 2)
}

// Power that is off may be put on by next, ahead of the first spot.
func TestPowerOnByNext(t *testing.T) {
	l, p := newLibrary(t, wide)
	fall(p)
	r, e := writer.Write(l, small, dump(9), func() (writer.Spot, bool) {
		p.Up()
		return spot(0, 0), true
	})
	if !same(r, writer.Result{Parts: parts(part(0, 0, 1, 9, 4))}) || e != api.OK {
		t.Errorf("Write = %v, %d", r, e)
	}
}

// event is a write of a call: onto which slot, of which piece, and whether it is one at
// a position that can't be written.
type event struct {
	slot  int
	piece string
	bad   bool
}

// fallsOf is a call with parts and failures of each kind, and its writes: on slot 0 a
// part of two blocks; on slot 1 the first Data can't be written; on slot 2 the mark has no
// room; on slot 3, behind what is there, is all that is left.
func fallsOf(t *testing.T) (*library.Library, *power.Power, []byte, []writer.Spot, []event) {
	t.Helper()
	b := dump(450)
	third := partOf(small, 1, b[320:], true)
	l, p := newLibrary(t, warnsAt(183+1), bad(1), tape.Plan{Room: size(third...) - 1}, wide)
	lay(t, l, 3, "label", "")
	var l1 []event
	add := func(slot int, pieces ...string) {
		for _, s := range pieces {
			l1 = append(l1, event{slot, s, false})
		}
	}
	add(0, partOf(small, 0, b[:320], false)...)
	add(1, third[0])
	l1 = append(l1, event{1, third[1], true})
	add(2, third[:3]...)
	add(3, third...)
	return l, p, b, []writer.Spot{spot(0, 0), spot(1, 0), spot(2, 0), spot(3, 2)}, l1
}

// after is what stands on the slots when so many of the writes are done, and of the next
// one so many bytes.
func after(l []event, done, torn int) [4][]string {
	has := [4][]string{3: {"label", ""}}
	for _, x := range l[:done] {
		if !x.bad {
			has[x.slot] = append(has[x.slot], x.piece)
		}
	}
	if done < len(l) {
		if x := l[done]; torn > 4 && x.piece != "" {
			has[x.slot] = append(has[x.slot], x.piece[:min(torn-4, len(x.piece))])
		}
	}
	return has
}

// Power falls at each write, and within it: the parts and the bad slots so far are
// returned, and what was on the tapes ahead of the spots stays.
func TestFallsAtEachWrite(t *testing.T) {
	_, _, _, _, writes := fallsOf(t)
	for k, at := range writes {
		for torn := -1; torn <= len(at.piece)+6; torn++ {
			l, p, b, spots, _ := fallsOf(t)
			x := tell(spots...)
			before := p.Count()
			p.Plan(k, torn)
			r, e := writer.Write(l, small, b, x.next)
			var want writer.Result
			if k >= 5 {
				want.Parts = parts(part(0, 0, 2, 320, 5))
			}
			if k >= 7 {
				want.Bad = []int{1}
			}
			wantResult(t, r, e, x, want, api.ErrDown, at.slot+1)
			if p.On() || p.Count() != before+k+1 {
				t.Errorf("the power is on: %t; %d writes, want %d", p.On(), p.Count()-before, k+1)
			}
			has := after(writes, k, torn)
			place := len(after(writes, k, 0)[at.slot])
			wantDrive(t, l, at.slot, place, len(has[at.slot]))
			p.Up()
			for slot, pieces := range has {
				wantContent(t, l, slot, pieces...)
			}
		}
	}
}

// After a fall the same dump can be written at the same spots.
func TestWriteAgainAfterFalls(t *testing.T) {
	_, _, _, _, writes := fallsOf(t)
	for k := range len(writes) + 1 {
		l, p, b, spots, _ := fallsOf(t)
		p.Plan(k, 50)
		x := tell(spots...)
		_, e := writer.Write(l, small, b, x.next)
		if k < len(writes) {
			wantErr(t, e, api.ErrDown)
		} else {
			wantErr(t, e, api.OK)
		}
		p.Up()
		r := write(t, l, small, b, spots...)
		want := writer.Result{Parts: parts(part(0, 0, 2, 320, 5), part(3, 2, 1, 130, 6)), Bad: []int{1}}
		if !same(r, want) {
			t.Errorf("Write = %v, want %v", r, want)
		}
		for slot, pieces := range after(writes, len(writes), 0) {
			wantContent(t, l, slot, pieces...)
		}
		wantDrive(t, l, 3, 6, 6)
	}
}

// A fall at a position that can't be written is a fall.
func TestFallAheadOfMedia(t *testing.T) {
	l, p := newLibrary(t, bad(1))
	p.Plan(1, 9)
	x := tell(spot(0, 0))
	r, e := writer.Write(l, small, dump(9), x.next)
	wantResult(t, r, e, x, writer.Result{}, api.ErrDown, 1)
	p.Up()
	wantContent(t, l, 0, headBlock(small, 0), dataBlock(dump(9))[:5])
}

// What next may do.

// Next may use the library: each part loads its tape, and moves it.
func TestNextThatUsesTheLibrary(t *testing.T) {
	l, _ := newLibrary(t, wide, warnsAt(20))
	lay(t, l, 0, "a", "b", "c")
	lay(t, l, 1, "d")
	b := dump(500)
	i := 0
	r, e := writer.Write(l, small, b, func() (writer.Spot, bool) {
		i++
		switch i {
		case 1:
			l.Load(0)
			l.Seek(2)
			return spot(1, 0), true
		case 2:
			l.Unload()
			slot, _ := l.Add(warnsAt(20))
			return spot(slot, 0), true
		}
		l.Load(2)
		writer.Write(l, head(9, 0, 0, 0), dump(3), tell(spot(0, 0)).next)
		l.Load(0)
		return spot(0, l.Len()), true
	})
	want := parts(part(1, 0, 1, 160, 4), part(2, 0, 1, 160, 4), part(0, 4, 2, 180, 9))
	if !same(r, writer.Result{Parts: want}) || e != api.OK {
		t.Errorf("Write = %v, %d, want the parts %v", r, e, want)
	}
	wantBytes(t, l, small, b, want...)
	wantContent(t, l, 0, append(partOf(head(9, 0, 0, 0), 0, dump(3), true), partOf(small, 2, b[320:], true)...)...)
}

// Next is asked ahead of each part, not before: the part ahead of it is on its tape.
func TestNextIsAskedInTurn(t *testing.T) {
	l, _ := newLibrary(t, warnsAt(15), wide)
	b := dump(200)
	i := 0
	_, e := writer.Write(l, small, b, func() (writer.Spot, bool) {
		i++
		if i == 2 {
			wantDrive(t, l, 0, 4, 4)
			wantContent(t, l, 0, partOf(small, 0, b[:160], false)...)
		}
		return spot(i-1, 0), true
	})
	wantErr(t, e, api.OK)
	if i != 2 {
		t.Errorf("%d spots were asked for, want 2", i)
	}
}

// Memory, and P2.

// Bytes that are passed, and what is behind them, stay; what is on the tapes doesn't
// change with them.
func TestWriteChangesAndKeepsNothing(t *testing.T) {
	for _, n := range []int{1, 159, 160, 161, 320, 500} {
		l, _ := newLibrary(t, bad(1), warnsAt(15), wide)
		all := dump(n + 200)
		before := bytes.Clone(all)
		x := tell(spot(0, 0), spot(1, 0), spot(2, 0))
		_, e := writer.Write(l, small, all[:n], x.next)
		wantErr(t, e, api.OK)
		if !bytes.Equal(all, before) {
			t.Errorf("of %d bytes, or what is behind them, some became other ones", n)
		}
		clear(all)
		first := min(n, 160)
		wantContent(t, l, 1, partOf(small, 0, before[:first], n == first)...)
		if n > first {
			wantContent(t, l, 2, partOf(small, 1, before[first:n], true)...)
		}
	}
}

// Parts, and bad slots, are nobody else's: neither those of another call, nor spots.
func TestResultsShareNothing(t *testing.T) {
	l, _ := newLibrary(t, bad(0), warnsAt(15), wide)
	spots := []writer.Spot{spot(0, 0), spot(1, 0), spot(0, 0), spot(2, 0)}
	want := writer.Result{Parts: parts(part(1, 0, 1, 160, 4), part(2, 0, 1, 140, 4)), Bad: []int{0, 0}}
	a := write(t, l, small, dump(300), spots...)
	b := write(t, l, small, dump(300), spots...)
	clear(a.Parts[:cap(a.Parts)])
	clear(a.Bad[:cap(a.Bad)])
	if !same(b, want) {
		t.Errorf("a change of a result made of another one %v", b)
	}
	clear(spots)
	if !same(b, want) {
		t.Errorf("a change of spots made of a result %v", b)
	}
	c := write(t, l, small, dump(300), spot(0, 0), spot(1, 0), spot(0, 0), spot(2, 0))
	if !same(b, want) || !same(c, want) {
		t.Errorf("further calls: %v and %v, want %v", b, c, want)
	}
}

// The Head that was passed is a copy; its Part stays what it was.
func TestHeadStays(t *testing.T) {
	l, _ := newLibrary(t, warnsAt(15), wide)
	h := small
	write(t, l, h, dump(300), spot(0, 0), spot(1, 0))
	if h != small {
		t.Errorf("the Head became %v", h)
	}
}

// A model: a library whose tapes are written piece by piece, by the chapter's words.

type model struct{ l *library.Library }

func (m model) write(h segment.Head, b []byte, next func() (writer.Spot, bool)) (writer.Result, api.Errno) {
	for _, n := range []int{h.Dump, h.Level, h.Base, h.Snap} {
		if n < 0 || n > top {
			return writer.Result{}, api.ErrArg
		}
	}
	if len(b) == 0 {
		return writer.Result{}, api.ErrArg
	}
	var r writer.Result
	for from := 0; from < len(b); {
		s, ok := next()
		if !ok {
			return r, api.ErrFull
		}
		n, e := m.part(h, len(r.Parts), s, b[from:])
		if e == api.ErrMedia {
			r.Bad = append(r.Bad, s.Slot)
			continue
		}
		if e == api.ErrEnd {
			continue
		}
		if e != api.OK {
			return r, e
		}
		r.Parts = append(r.Parts, writer.Part{Spot: s, Blocks: (n + 159) / 160, Bytes: n, Next: m.l.Place()})
		from += n
	}
	return r, api.OK
}

// part is how many bytes of a part were written.
func (m model) part(h segment.Head, i int, s writer.Spot, b []byte) (int, api.Errno) {
	if e := m.l.Load(s.Slot); e != api.OK {
		return 0, e
	}
	if e := m.l.Seek(s.At); e != api.OK {
		return 0, e
	}
	if e := m.l.Put([]byte(headBlock(h, i))); e != api.OK {
		return 0, e
	}
	n, blocks := 0, 0
	for _, c := range chunks(b) {
		if m.l.Warns() {
			break
		}
		if e := m.l.Put([]byte(dataBlock(c))); e != api.OK {
			return 0, e
		}
		n += len(c)
		blocks++
	}
	if n == 0 {
		return 0, api.ErrEnd
	}
	if e := m.l.Put([]byte(endBlock(h.Dump, i, blocks, n, n == len(b)))); e != api.OK {
		return 0, e
	}
	return n, m.l.Mark()
}

// plans is those of the tapes of run.
func plans() []tape.Plan {
	return []tape.Plan{wide, {Room: 14}, {Room: 500}, {Room: 1200, Early: 400}, warnsAt(300), bad(0), bad(1, 9), bad(5), bad(3, 4),
		{Room: 300, Early: 20}, {Room: great, NoRead: []int{0, 2, 4}}, {Room: 204}, {Room: 800, Early: 100, NoWrite: []int{7}}}
}

// dice yields numbers that look mixed, the same ones for each seed.
type dice uint64

// next is a number below n.
func (d *dice) next(n int) int {
	*d = *d*6364136223846793005 + 1442695040888963407
	return int(*d >> 33 % dice(n))
}

// spotsOf is as many spots as seeds say, of which some aren't there.
func spotsOf(a, b int) []writer.Spot {
	d := dice(a*256 + b)
	l := make([]writer.Spot, d.next(12))
	for i := range l {
		l[i] = spot(d.next(len(plans())), d.next(3)*d.next(3))
		if d.next(40) == 0 {
			l[i].Slot = d.next(80) - 8
		}
		if d.next(40) == 0 {
			l[i].At = d.next(30) - 8
		}
	}
	return l
}

// headOf is a Head of seeds; a few may not be.
func headOf(a, b int) segment.Head {
	h := segment.Head{Dump: b, Part: a - 9, Level: a % 10, Base: a * b, Snap: a * 5000000}
	if b%50 == 0 {
		h.Snap = top + a%2
	}
	return h
}

// run makes a call of each three bytes, and compares it with the model.
func run(t *testing.T, calls []byte) {
	t.Helper()
	x, p := newLibrary(t, plans()...)
	y, q := newLibrary(t, plans()...)
	for ; len(calls) >= 3; calls = calls[3:] {
		a, b := int(calls[1]), int(calls[2])
		switch calls[0] % 8 {
		case 0, 1, 2, 3:
			s, other := tell(spotsOf(a, b)...), tell(spotsOf(a, b)...)
			bytes := dump((a*37 + b*11) % 2000)
			r, e := writer.Write(x, headOf(a, b), bytes, s.next)
			want, wantE := model{y}.write(headOf(a, b), bytes, other.next)
			wantResult(t, r, e, s, want, wantE, other.asked)
		case 4:
			p.Plan(a%60-1, b%190-1)
			q.Plan(a%60-1, b%190-1)
		case 5, 6:
			p.Up()
			q.Up()
		default:
			slot, at := a%len(plans()), b%12
			wantErr(t, x.Load(slot), y.Load(slot))
			wantErr(t, x.Seek(at), y.Seek(at))
			wantErr(t, x.Put([]byte{byte(a)}), y.Put([]byte{byte(a)}))
		}
		wantLike(t, x, y, p, q)
		if t.Failed() {
			t.Fatalf("at the call %v", calls[:3])
		}
	}
	p.Up()
	q.Up()
	for slot := range plans() {
		wantLikeTapes(t, x, y, slot)
	}
}

// wantLike asks two libraries for all that can be asked without a change.
func wantLike(t *testing.T, x, y *library.Library, p, q *power.Power) {
	t.Helper()
	if slot, ok := y.Slot(); ok {
		wantDrive(t, x, slot, y.Place(), y.Len())
	} else {
		wantEmptyDrive(t, x)
	}
	if p.On() != q.On() || p.Count() != q.Count() {
		t.Errorf("the power is on: %t, and counts %d writes, want %t, %d", p.On(), p.Count(), q.On(), q.Count())
	}
}

// wantLikeTapes reads two tapes, also such as can't be read everywhere.
func wantLikeTapes(t *testing.T, x, y *library.Library, slot int) {
	t.Helper()
	wantErr(t, x.Load(slot), y.Load(slot))
	for i := range y.Len() {
		wantErr(t, x.Seek(i), y.Seek(i))
		b, e := x.Get()
		want, wantE := y.Get()
		if !bytes.Equal(b, want) || e != wantE {
			t.Errorf("piece %d of slot %d is %q, %d, want %q, %d", i, slot, b, e, want, wantE)
		}
	}
	wantDrive(t, x, slot, y.Place(), y.Len())
}

// calls is n calls without a plain pattern, the same ones each time.
func calls(n int, seed dice) []byte {
	b := make([]byte, 3*n)
	for i := range b {
		b[i] = byte(seed.next(256))
	}
	return b
}

func TestManyCalls(t *testing.T) {
	for seed := range dice(100) {
		run(t, calls(120, seed))
		run(t, calls(10, seed))
	}
}

// The results depend on the earlier calls for the same library alone (P2).
func TestSameCallsAgain(t *testing.T) {
	other, p := newLibrary(t, warnsAt(15), bad(1), wide)
	for range 3 {
		run(t, calls(60, 4))
		writer.Write(other, small, dump(500), tell(spot(0, 0), spot(1, 0)).next)
		other.Plan(3, 6)
		writer.Write(other, small, dump(500), tell(spot(2, 0)).next)
		p.Up()
	}
}

func FuzzCalls(f *testing.F) {
	f.Add(calls(20, 1))
	f.Add(calls(100, 2))
	f.Add([]byte{})
	f.Fuzz(func(t *testing.T, b []byte) { run(t, b) })
}

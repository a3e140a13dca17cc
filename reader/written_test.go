package reader_test

import (
	"bytes"
	"slices"
	"testing"

	"revenant/api"
	"revenant/library"
	"revenant/power"
	"revenant/reader"
	"revenant/segment"
	"revenant/tape"
	"revenant/writer"
)

// P17.3: what was written is read.

// warnsAt is the plan of a tape that warns as soon as so many bytes are occupied.
func warnsAt(n int) tape.Plan { return tape.Plan{Room: great, Early: great - n} }

// bad is the plan of a wide tape on which these positions can't be written.
func bad(l ...int) tape.Plan { return tape.Plan{Room: great, NoWrite: l} }

// teller tells spots one after the other, and then none.
func teller(spots ...writer.Spot) func() (writer.Spot, bool) {
	return func() (writer.Spot, bool) {
		if len(spots) == 0 {
			return writer.Spot{}, false
		}
		s := spots[0]
		spots = spots[1:]
		return s, true
	}
}

func write(t *testing.T, l *library.Library, h segment.Head, b []byte, spots ...writer.Spot) []writer.Part {
	t.Helper()
	r, e := writer.Write(l, h, b, teller(spots...))
	wantErr(t, e, api.OK)
	return r.Parts
}

func spotsOf(parts []writer.Part) []writer.Spot {
	var l []writer.Spot
	for _, p := range parts {
		l = append(l, p.Spot)
	}
	return l
}

// wantWritten reads what a call wrote: part by part, and found on its tape, and, if that
// is all of b, whole.
func wantWritten(t *testing.T, l *library.Library, h segment.Head, b []byte, parts []writer.Part) {
	t.Helper()
	left := b
	for i, p := range parts {
		c := left[:p.Bytes]
		left = left[p.Bytes:]
		want := reader.Part{Head: nth(h, i), End: end(h.Dump, i, p.Blocks, p.Bytes, len(left) == 0), B: c}
		wantOne(t, l, p.Spot, want)
		wantDrive(t, l, p.Slot, p.Next)
		f, e := reader.Scan(l, p.Slot, p.At)
		if e != api.OK || len(f) == 0 || f[0].Spot != p.Spot || !same(f[0].Part, want) {
			t.Errorf("Scan at %v found %v, %d, want %v first", p.Spot, f, e, want)
		}
	}
	if len(left) == 0 {
		wantAll(t, l, h.Dump, spotsOf(parts), b)
	} else if len(parts) > 0 {
		wantNoAll(t, l, h.Dump, spotsOf(parts), api.ErrForm)
	}
}

func TestWrittenIsRead(t *testing.T) {
	plans := []tape.Plan{warnsAt(15), bad(0), warnsAt(400), bad(3), {Room: 200}, {Room: 600, Early: 200}, bad(1), {Room: 360}, wide, wide}
	for _, n := range sizes[1:] {
		for first := range len(plans) {
			l, _ := newLibrary(t, plans...)
			lay(t, l, 8, "label", "")
			spots := []writer.Spot{spot(0, 0), spot(1, 0), spot(2, 0), spot(3, 0), spot(4, 0), spot(5, 0), spot(6, 0), spot(7, 0), spot(8, 2)}
			h := head(first+1, 9, first, n, 5)
			parts := write(t, l, h, dump(n), spots[min(first, 8):]...)
			wantWritten(t, l, h, dump(n), parts)
			again := write(t, l, nth(h, 3), dump(n+1), spot(9, 0))
			wantWritten(t, l, h, dump(n+1), again)
			wantWritten(t, l, h, dump(n), parts)
		}
	}
}

// Dumps one behind another, all of which are found, from each of them on.
func TestDumpsInARow(t *testing.T) {
	l, _ := newLibrary(t, wide)
	lay(t, l, 0, "label", "")
	at := 2
	var all []reader.Found
	for i, n := range sizes[1:] {
		h := head(i+1, 0, i%10, i, i+20)
		p := write(t, l, h, dump(n), spot(0, at))
		wantWritten(t, l, h, dump(n), p)
		all = append(all, found(0, at, part(h, dump(n), true)))
		at = p[0].Next
	}
	for i, f := range all {
		wantScan(t, l, 0, f.At, all[i:]...)
		wantDrive(t, l, 0, at)
		wantAll(t, l, i+1, []writer.Spot{f.Spot}, f.B)
	}
	wantScan(t, l, 0, at)
	wantScan(t, l, 0, 0)
}

// Parts that failed leave pieces, which aren't found.
func TestFailedPartsAreNotFound(t *testing.T) {
	b := dump(500)
	for k := range 7 {
		l, _ := newLibrary(t, bad(4+k), wide)
		first := write(t, l, small, dump(9), spot(0, 0))
		parts := write(t, l, head(4, 0, 0, 3, 6), b, spot(0, 4), spot(1, 0))
		wantWritten(t, l, small, dump(9), first)
		wantWritten(t, l, head(4, 0, 0, 3, 6), b, parts)
		wantScan(t, l, 0, 0, found(0, 0, part(small, dump(9), true)))
		wantDrive(t, l, 0, 4+k)
		wantScan(t, l, 0, 4)
		wantNoOne(t, l, spot(0, 4), api.ErrNone)
	}
}

// Power falls at each write of a dump: the parts so far are read, and so are the others
// when they are written again.
func TestReadBehindFalls(t *testing.T) {
	b := dump(700)
	spots := []writer.Spot{spot(0, 4), spot(1, 0), spot(2, 0)}
	h := head(4, 0, 1, 3, 6)
	for k := range 14 {
		for _, torn := range []int{0, 4, 5, 12, 100, 200} {
			l, p := newLibrary(t, warnsAt(100), warnsAt(200), wide)
			old := write(t, l, small, dump(9), spot(0, 0))
			p.Plan(k, torn)
			r, e := writer.Write(l, h, b, teller(spots...))
			wantErr(t, e, api.ErrDown)
			wantNoAll(t, l, 3, spotsOf(old), api.ErrDown)
			p.Up()
			wantWritten(t, l, small, dump(9), old)
			wantWritten(t, l, h, b, r.Parts)
			want := []reader.Found{found(0, 0, part(small, dump(9), true))}
			if len(r.Parts) > 0 {
				n := r.Parts[0].Bytes
				want = append(want, found(0, 4, part(h, b[:n], false)))
			}
			wantScan(t, l, 0, 0, want...)
			wantWritten(t, l, h, b, write(t, l, h, b, spots...))
		}
	}
}

// Memory, and P2.

// No call writes: a planned fall doesn't come about, and all tapes stay as they are.
func TestReadingChangesNoTape(t *testing.T) {
	l, b, spots := threeParts(t)
	l.Load(0)
	p := l.Power
	before := p.Count()
	p.Plan(0, 0)
	for range 3 {
		wantAll(t, l, 3, spots, b)
		wantNoAll(t, l, 3, spots[1:], api.ErrForm)
		for slot := range 3 {
			for at := -1; at < 12; at++ {
				reader.One(l, spot(slot, at))
				reader.Scan(l, slot, at)
			}
		}
	}
	if !p.On() || p.Count() != before {
		t.Errorf("the power is on: %t, and counts %d writes, want %d", p.On(), p.Count(), before)
	}
	p.Up()
	for slot, want := range [][]string{
		slices.Concat([]string{"label", ""}, partOf(nth(small, 1), b[300:301], false), partOf(head(4, 0, 0, 0, 0), dump(3), true)),
		slices.Concat([]string{"a"}, partOf(nth(small, 2), b[301:], true)),
		partOf(small, b[:300], false),
	} {
		wantContent(t, l, slot, want...)
	}
}

// What is returned is nobody else's: a change of it changes no tape, and nothing that
// another call, or another part, returned.
func TestResultsShareNothing(t *testing.T) {
	l, b, spots := threeParts(t)
	one, e := reader.One(l, spots[0])
	wantErr(t, e, api.OK)
	other, e := reader.One(l, spots[0])
	wantErr(t, e, api.OK)
	clear(one.B[:cap(one.B)])
	if !same(other, part(small, b[:300], false)) {
		t.Errorf("a change of a part made of another one %v", other)
	}
	whole, e := reader.All(l, 3, spots...)
	wantErr(t, e, api.OK)
	again, e := reader.All(l, 3, spots...)
	wantErr(t, e, api.OK)
	clear(whole[:cap(whole)])
	if !bytes.Equal(again, b) {
		t.Errorf("a change of a dump's bytes made of others %v", again)
	}
	wantOne(t, l, spots[0], part(small, b[:300], false))
	wantAll(t, l, 3, spots, b)
	last := tapes(t, partOf(small, b, true))
	whole, e = reader.All(last, 3, spot(0, 0))
	wantErr(t, e, api.OK)
	clear(whole[:cap(whole)])
	wantAll(t, last, 3, []writer.Spot{spot(0, 0)}, b)
}

func TestFoundPartsShareNothing(t *testing.T) {
	pieces, all, _ := fourParts()
	l := tapes(t, pieces)
	for i := range all {
		f, e := reader.Scan(l, 0, 2)
		wantErr(t, e, api.OK)
		clear(f[i].B[:cap(f[i].B)])
		f[i].B = all[i].B
		if !sameFound(f, all) {
			t.Errorf("a change of part %d made of all %v", i, f)
		}
		wantScan(t, l, 0, 2, all...)
		clear(f[:cap(f)])
		wantScan(t, l, 0, 2, all...)
	}
}

// Spots that are passed, and those behind them, stay, and aren't kept.
func TestSpotsStay(t *testing.T) {
	l, b, spots := threeParts(t)
	all := append(slices.Clone(spots), spot(9, 9), spot(8, 8))
	before := slices.Clone(all)
	wantAll(t, l, 3, all[:3], b)
	wantNoAll(t, l, 3, all[:4], api.ErrForm)
	wantNoAll(t, l, 3, all[:2], api.ErrForm)
	if !slices.Equal(all, before) {
		t.Errorf("the spots became %v, want %v", all, before)
	}
	clear(all)
	wantAll(t, l, 3, spots, b)
}

// A model: a library whose tapes are read piece by piece, by the chapter's words.

// block is a tape's block, taken apart.
type block struct {
	first   byte
	numbers []int
	data    []byte
}

// parse takes a block apart, without the layers below. (Numbers are those that number
// makes; no test of the model uses others.)
func parse(b []byte) (block, api.Errno) {
	if len(b) < 4 {
		return block{}, api.ErrSum
	}
	inner := b[:len(b)-4]
	n := sum(inner)
	if !bytes.Equal(b[len(b)-4:], []byte{byte(n), byte(n >> 8), byte(n >> 16), byte(n >> 24)}) {
		return block{}, api.ErrSum
	}
	if len(inner) == 0 {
		return block{}, api.ErrForm
	}
	x := block{first: inner[0], data: inner[1:]}
	if x.first == 'D' {
		if len(x.data) < 1 || len(x.data) > 160 {
			return block{}, api.ErrForm
		}
		return x, api.OK
	}
	if x.first != 'H' && x.first != 'T' {
		return block{}, api.ErrForm
	}
	unit, sum := 1, 0
	for _, c := range x.data {
		sum += int(c%128) * unit
		unit *= 128
		if c < 128 {
			x.numbers = append(x.numbers, sum)
			unit, sum = 1, 0
		}
	}
	if unit != 1 || len(x.numbers) != 5 || slices.Max(x.numbers) > top || x.first == 'T' && x.numbers[4] > 1 {
		return block{}, api.ErrForm
	}
	return x, api.OK
}

type model struct{ l *library.Library }

func (m model) get() (block, api.Errno) {
	b, e := m.l.Get()
	if e != api.OK {
		return block{}, e
	}
	return parse(b)
}

func (m model) one(s writer.Spot) (reader.Part, api.Errno) {
	var none reader.Part
	if e := m.l.Load(s.Slot); e != api.OK {
		return none, e
	}
	if e := m.l.Seek(s.At); e != api.OK {
		return none, e
	}
	x, e := m.get()
	if e != api.OK {
		return none, e
	}
	if x.first != 'H' {
		return none, api.ErrForm
	}
	h := x.numbers
	var all [][]byte
	for {
		if x, e = m.get(); e != api.OK {
			return none, e
		}
		if x.first != 'D' {
			break
		}
		all = append(all, x.data)
	}
	b := slices.Concat(all...)
	if x.first != 'T' || x.numbers[0] != h[0] || x.numbers[1] != h[1] || x.numbers[2] != len(all) || x.numbers[3] != len(b) {
		return none, api.ErrForm
	}
	if _, e := m.l.Get(); e == api.OK {
		return none, api.ErrForm
	} else if e != api.ErrMark {
		return none, e
	}
	return reader.Part{Head: head(h[0], h[1], h[2], h[3], h[4]), End: end(h[0], h[1], len(all), len(b), x.numbers[4] == 1), B: b}, api.OK
}

func (m model) all(dump int, spots []writer.Spot) ([]byte, api.Errno) {
	if len(spots) == 0 {
		return nil, api.ErrNone
	}
	var b []byte
	for i, s := range spots {
		p, e := m.one(s)
		if e != api.OK {
			return nil, e
		}
		if p.Dump != dump || p.Part != i {
			return nil, api.ErrForm
		}
		if i < len(spots)-1 && p.End.Last || i == len(spots)-1 && !p.End.Last {
			return nil, api.ErrForm
		}
		b = append(b, p.B...)
	}
	return b, api.OK
}

func (m model) scan(slot, at int) ([]reader.Found, api.Errno) {
	var l []reader.Found
	for {
		p, e := m.one(spot(slot, at))
		if e == api.ErrArg || e == api.ErrDown || e == api.ErrMedia {
			return nil, e
		}
		if e != api.OK {
			return l, api.OK
		}
		l = append(l, found(slot, at, p))
		at += 3 + p.End.Blocks
	}
}

// plans is those of the tapes of run.
func plans() []tape.Plan {
	return []tape.Plan{wide, {Room: 500}, {Room: 1200, Early: 400}, warnsAt(300), bad(1, 9), bad(5), warnsAt(900),
		{Room: great, NoRead: []int{7, 20}}, {Room: 800, Early: 100, NoWrite: []int{7}, NoRead: []int{12}}}
}

// dice yields numbers that look mixed, the same ones for each seed.
type dice uint64

// next is a number below n.
func (d *dice) next(n int) int {
	*d = *d*6364136223846793005 + 1442695040888963407
	return int(*d >> 33 % dice(n))
}

// pair is two libraries on which the same calls are made, and the dumps that are on them.
type pair struct {
	x, y *library.Library
	p, q *power.Power
	seen []writtenDump
}

type writtenDump struct {
	h     segment.Head
	b     []byte
	parts []writer.Part
}

// layPieces writes the same pieces on both, from a position on: parts, of which some
// have something wrong, behind one another.
func (c *pair) layPieces(t *testing.T, slot, at int, d *dice) {
	t.Helper()
	wantErr(t, c.x.Load(slot), c.y.Load(slot))
	at = min(at, c.y.Len())
	wantErr(t, c.x.Seek(at), c.y.Seek(at))
	for range d.next(5) {
		h := head(d.next(3), d.next(3), d.next(3), d.next(200), d.next(top+1))
		pieces := partOf(h, dump(d.next(500)), d.next(2) == 0)
		k := d.next(3 * len(pieces))
		if k < len(pieces) {
			other := []string{"", "x", sealed('X'), pieces[0], dataBlock(dump(7)), pieces[len(pieces)-2], flipped(pieces[0], 2),
				endBlock(end(h.Dump, h.Part, 1, 7, true)), sealed('H', number(d.next(200)))}
			pieces[k] = other[d.next(len(other))]
		}
		for _, s := range pieces {
			if s == "" {
				wantErr(t, c.x.Mark(), c.y.Mark())
			} else {
				wantErr(t, c.x.Put([]byte(s)), c.y.Put([]byte(s)))
			}
		}
	}
}

// writeDump writes the same dump on both, behind what is on some of their tapes.
func (c *pair) writeDump(t *testing.T, d *dice) {
	t.Helper()
	var spots []writer.Spot
	for range d.next(6) {
		slot := d.next(len(plans()))
		at := d.next(3) * d.next(8)
		if c.y.Load(slot) == api.OK {
			at = min(at, c.y.Len())
		}
		spots = append(spots, spot(slot, at))
	}
	h := head(d.next(5), 0, d.next(10), d.next(200), d.next(200))
	b := dump(1 + d.next(1500))
	r, e := writer.Write(c.x, h, b, teller(spots...))
	_, e2 := writer.Write(c.y, h, b, teller(spots...))
	wantErr(t, e, e2)
	c.seen = append(c.seen, writtenDump{h, b, r.Parts})
}

// someSpots is those of a dump that was written, which may have gone since, or others.
func (c *pair) someSpots(d *dice) (int, []writer.Spot) {
	if len(c.seen) > 0 && d.next(4) > 0 {
		w := c.seen[len(c.seen)-1-d.next(min(len(c.seen), 3))]
		l := spotsOf(w.parts)
		if len(l) > 0 && d.next(4) == 0 {
			l[d.next(len(l))].At += d.next(4) - 1
		}
		return w.h.Dump + d.next(9)/8, l
	}
	var l []writer.Spot
	for range d.next(4) {
		l = append(l, spot(d.next(len(plans())+2)-1, d.next(4)*d.next(6)-d.next(9)/8))
	}
	return d.next(3), l
}

// run makes a call of each three bytes, and compares it with the model.
func run(t *testing.T, calls []byte) {
	t.Helper()
	c := &pair{}
	c.x, c.p = newLibrary(t, plans()...)
	c.y, c.q = newLibrary(t, plans()...)
	for ; len(calls) >= 3; calls = calls[3:] {
		c.call(t, calls[0], int(calls[1]), int(calls[2]))
		c.wantLike(t)
		if t.Failed() {
			t.Fatalf("at the call %v", calls[:3])
		}
	}
}

func (c *pair) call(t *testing.T, kind byte, a, b int) {
	t.Helper()
	d := dice(a*256 + b)
	switch kind % 12 {
	case 0, 1:
		c.writeDump(t, &d)
	case 2, 3:
		c.layPieces(t, a%len(plans()), b%30, &d)
	case 4, 5, 6:
		c.readAll(t, &d)
	case 7, 8:
		slot, at := a%(len(plans())+1), b%30-1
		f, e := reader.Scan(c.x, slot, at)
		want, wantE := model{c.y}.scan(slot, at)
		if !sameFound(f, want) || e != wantE {
			t.Errorf("Scan(%d, %d) = %v, %d, want %v, %d", slot, at, f, e, want, wantE)
		}
	case 9:
		s := spot(a%(len(plans())+1), b%30-1)
		p, e := reader.One(c.x, s)
		want, wantE := model{c.y}.one(s)
		if !same(p, want) || e != wantE {
			t.Errorf("One(%v) = %v, %d, want %v, %d", s, p, e, want, wantE)
		}
	case 10:
		c.p.Plan(a%60-1, b%190-1)
		c.q.Plan(a%60-1, b%190-1)
	default:
		c.p.Up()
		c.q.Up()
	}
}

// readAll reads a dump on both, which may still be there, or not.
func (c *pair) readAll(t *testing.T, d *dice) {
	t.Helper()
	dump, spots := c.someSpots(d)
	b, e := reader.All(c.x, dump, spots...)
	want, wantE := model{c.y}.all(dump, spots)
	if !bytes.Equal(b, want) || e != wantE {
		t.Errorf("All(%d, %v) = %v, %d, want %v, %d", dump, spots, b, e, want, wantE)
	}
}

// wantLike asks two libraries for all that can be asked without a change.
func (c *pair) wantLike(t *testing.T) {
	t.Helper()
	if slot, ok := c.y.Slot(); ok {
		wantDrive(t, c.x, slot, c.y.Place())
	} else {
		wantEmptyDrive(t, c.x)
	}
	if c.p.On() != c.q.On() || c.p.Count() != c.q.Count() || c.x.Len() != c.y.Len() {
		t.Errorf("the power is on: %t, counts %d writes, and the tape has %d pieces, want %t, %d, %d",
			c.p.On(), c.p.Count(), c.x.Len(), c.q.On(), c.q.Count(), c.y.Len())
	}
}

// calls is n calls without a plain pattern, the same ones each time.
func calls(n int, seed dice) []byte {
	b := make([]byte, 3*n)
	for i := range b {
		b[i] = byte(seed.next(256))
	}
	return b
}

func TestManyCalls(t *testing.T) {
	for seed := range dice(100) {
		run(t, calls(150, seed))
		run(t, calls(10, seed))
	}
}

// The results depend on the earlier calls for the same library alone (P2).
func TestSameCallsAgain(t *testing.T) {
	other, b, spots := threeParts(t)
	for range 3 {
		run(t, calls(60, 4))
		wantAll(t, other, 3, spots, b)
		wantNoScan(t, other, 2, 9, api.ErrArg)
	}
}

func FuzzCalls(f *testing.F) {
	f.Add(calls(20, 1))
	f.Add(calls(100, 2))
	f.Add([]byte{})
	f.Fuzz(func(t *testing.T, b []byte) { run(t, b) })
}

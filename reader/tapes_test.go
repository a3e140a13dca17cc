package reader_test

import (
	"math"
	"slices"
	"testing"

	"revenant/api"
	"revenant/library"
	"revenant/reader"
	"revenant/segment"
	"revenant/tape"
	"revenant/writer"
)

// P17.1: errors of reading.

// fault is what is wrong at a piece of a part: another piece stands there, or none any
// more, or it can't be read; what that returns, and whether the tape goes on past it.
type fault struct {
	piece string
	ends  bool
	media bool
	want  api.Errno
	past  int
}

// wrongBlocks is blocks that no tape of dumps has; ErrSum, or ErrForm.
func wrongBlocks(want api.Errno, l ...string) []fault {
	var all []fault
	for _, s := range l {
		all = append(all, fault{piece: s, want: want, past: 1})
	}
	return all
}

// flipped is a block with a bit of one of its bytes changed.
func flipped(s string, i int) string {
	b := []byte(s)
	b[i] ^= 1 << (i % 8)
	return string(b)
}

// faultsAt is the faults that the piece k of a part, small with data, may have.
func faultsAt(pieces []string, k int) []fault {
	l := []fault{{ends: true, want: api.ErrNone}, {media: true, want: api.ErrMedia}}
	x := endOf(small, dump(160*(len(pieces)-3)), true)
	form := []string{sealed('X'), sealed('D'), sealed('D', dump(161)), sealed('H', number(1)), sealed('h', number(1)), sealed('T', number(3))}
	some := []string{"x", "HDT", string(make([]byte, 200)), flipped(headBlock(small), 0), flipped(endBlock(x), 3)}
	switch {
	case k == len(pieces)-1:
		l = append(l, wrongBlocks(api.ErrForm, some...)...)
		l = append(l, wrongBlocks(api.ErrForm, headBlock(small), dataBlock(dump(160)), endBlock(x))...)
	case k == 0:
		form = append(form, dataBlock(dump(9)), endBlock(x), endBlock(end(3, 0, 0, 0, false)))
	default:
		form = append(form, headBlock(small), headBlock(nth(small, 1)), headBlock(head(4, 0, 0, 0, 0)))
	}
	l = append(l, wrongBlocks(api.ErrForm, form...)...)
	if k < len(pieces)-1 {
		l = append(l, fault{piece: "", want: api.ErrMark, past: 1})
		l = append(l, wrongBlocks(api.ErrSum, append(some, pieces[k][1:], pieces[k]+"!")...)...)
	}
	return l
}

// layWith makes a library whose tape 1 has pieces with faults at these indexes, behind
// which all the right ones still stand.
func layWith(t *testing.T, pieces []string, faults map[int]fault) *library.Library {
	t.Helper()
	pieces = slices.Clone(pieces)
	plan := wide
	n := len(pieces)
	for k, f := range faults {
		switch {
		case f.ends:
			n = min(n, k)
		case f.media:
			plan.NoRead = append(plan.NoRead, k)
		default:
			pieces[k] = f.piece
		}
	}
	l, _ := newLibrary(t, wide, plan)
	lay(t, l, 1, pieces[:n]...)
	lay(t, l, 0, "other", "")
	return l
}

func TestFaultsAtEachPlace(t *testing.T) {
	for _, had := range [][]string{nil, {"label", ""}, partOf(small, dump(200), false)} {
		for _, n := range []int{0, 160, 480} {
			right := partOf(small, dump(n), true)
			for k := range right {
				for _, f := range faultsAt(right, k) {
					at := len(had)
					l := layWith(t, slices.Concat(had, right, right), map[int]fault{at + k: f})
					wantNoOne(t, l, spot(1, at), f.want)
					wantDrive(t, l, 1, at+k+f.past)
					wantNoAll(t, l, 3, []writer.Spot{spot(1, at)}, f.want)
					wantDrive(t, l, 1, at+k+f.past)
				}
			}
		}
	}
}

// Of two faults the first one counts, whatever the other one is.
func TestFirstFaultCounts(t *testing.T) {
	right := partOf(small, dump(320), true)
	for j := range right {
		for k := range j {
			for _, f := range faultsAt(right, k) {
				for _, g := range faultsAt(right, j) {
					l := layWith(t, right, map[int]fault{k: f, j: g})
					wantNoOne(t, l, spot(1, 0), f.want)
					wantDrive(t, l, 1, k+f.past)
				}
			}
		}
	}
}

// A block with one bit, or one byte, another one is no block any more.
func TestEachBitOfABlock(t *testing.T) {
	right := partOf(small, dump(20), true)
	for k, s := range right[:3] {
		for i := range s {
			for bit := range 8 {
				b := []byte(s)
				b[i] ^= 1 << bit
				l := layWith(t, right, map[int]fault{k: {piece: string(b)}})
				wantNoOne(t, l, spot(1, 0), api.ErrSum)
				wantDrive(t, l, 1, k+1)
			}
		}
	}
}

// A block that power tore stands where the part broke off.
func TestTornPieces(t *testing.T) {
	right := partOf(small, dump(200), true)
	for k, s := range right {
		for torn := 0; torn <= 4+len(s); torn++ {
			l, p := newLibrary(t, wide)
			lay(t, l, 0, right[:k]...)
			p.Plan(0, torn)
			wantErr(t, l.Put([]byte(s + "!!")[:max(len(s), 1)]), api.ErrDown)
			wantNoOne(t, l, spot(0, 0), api.ErrDown)
			wantDrive(t, l, 0, k)
			p.Up()
			want, place := api.ErrSum, k+1
			switch {
			case torn <= 4:
				want, place = api.ErrNone, k
			case k == len(right)-1:
				want = api.ErrForm
			case torn == 4+len(s):
				want = api.ErrNone
			}
			wantNoOne(t, l, spot(0, 0), want)
			wantDrive(t, l, 0, place)
		}
	}
}

// wrongEnds is Ends that aren't that of a part.
func wrongEnds(x segment.End) []segment.End {
	var l []segment.End
	for field := range 4 {
		for _, n := range []int{-2, -1, 1, 2, 128, 160, 256, top} {
			w := x
			p := []*int{&w.Dump, &w.Part, &w.Blocks, &w.Bytes}[field]
			*p = min(*p+n, top)
			if *p < 0 {
				continue
			}
			l = append(l, w)
			w.Last = !w.Last
			l = append(l, w)
		}
	}
	l = append(l, end(x.Part, x.Dump, x.Blocks, x.Bytes, x.Last), segment.End{}, end(top, top, top, top, true))
	if x.Blocks != x.Bytes {
		l = append(l, end(x.Dump, x.Part, x.Bytes, x.Blocks, x.Last))
	}
	return l
}

// An End for another Dump, another Part, or with another number of blocks or of bytes; it
// is wrong whether a mark is behind it or not.
func TestWrongEnds(t *testing.T) {
	for _, n := range []int{1, 160, 161, 400} {
		for _, last := range []bool{false, true} {
			h := head(7, 2, 1, 0, 9)
			right := partOf(h, dump(n), last)
			k := len(right) - 2
			for _, x := range wrongEnds(endOf(h, dump(n), last)) {
				for _, behind := range []fault{{}, {piece: "x"}, {ends: true}, {media: true}} {
					l := layWith(t, right, map[int]fault{k: {piece: endBlock(x)}, k + 1: behind})
					wantNoOne(t, l, spot(1, 0), api.ErrForm)
					wantDrive(t, l, 1, k+1)
					wantScan(t, l, 1, 0)
				}
			}
		}
	}
}

// The numbers of the Head that an End doesn't have are of no account for it: only Dump
// and Part are compared.
func TestEndIsForDumpAndPart(t *testing.T) {
	for _, h := range []segment.Head{head(7, 2, 0, 0, 0), head(7, 2, 9, 1, 2), head(7, 2, 7, 7, 7), head(7, 2, top, top, top)} {
		for _, last := range []bool{false, true} {
			pieces := []string{headBlock(h), dataBlock(dump(5)), endBlock(end(7, 2, 1, 5, last)), ""}
			wantOne(t, tapes(t, pieces), spot(0, 0), reader.Part{Head: h, End: end(7, 2, 1, 5, last), B: dump(5)})
		}
	}
}

// A part ends at its first End: one that is right there, and has Data in place of its
// mark, is no part, though another End is behind that.
func TestEndAheadOfData(t *testing.T) {
	b := dump(320)
	pieces := []string{headBlock(small), dataBlock(b[:160]), endBlock(end(3, 0, 1, 160, true)), dataBlock(b[160:]), endBlock(end(3, 0, 2, 320, true)), ""}
	l := tapes(t, pieces)
	wantNoOne(t, l, spot(0, 0), api.ErrForm)
	wantDrive(t, l, 0, 4)
	l = tapes(t, slices.Concat(pieces[:3], pieces[4:]))
	wantNoOne(t, l, spot(0, 0), api.ErrForm)
	wantDrive(t, l, 0, 4)
	l = tapes(t, slices.Concat(pieces[:2], pieces[3:4], pieces[5:]))
	wantNoOne(t, l, spot(0, 0), api.ErrMark)
	wantDrive(t, l, 0, 4)
	l = tapes(t, slices.Concat(pieces[:2], pieces[3:]))
	wantOne(t, l, spot(0, 0), part(small, b, true))
}

// In the middle of a part no part stands.
func TestMiddleOfAPart(t *testing.T) {
	first, second := partOf(small, dump(320), false), partOf(nth(small, 1), dump(9), true)
	l := tapes(t, slices.Concat(first, second))
	wants := []api.Errno{api.OK, api.ErrForm, api.ErrForm, api.ErrForm, api.ErrMark, api.OK, api.ErrForm, api.ErrForm, api.ErrMark, api.ErrNone}
	for at, want := range wants {
		p, e := reader.One(l, spot(0, at))
		wantErr(t, e, want)
		switch at {
		case 0:
			wantDrive(t, l, 0, 5)
		case 5:
			wantDrive(t, l, 0, 9)
		case 9:
			wantDrive(t, l, 0, 9)
		default:
			wantDrive(t, l, 0, at+1)
		}
		if want != api.OK && !same(p, reader.Part{}) {
			t.Errorf("at %d: %v", at, p)
		}
	}
}

// Positions that can't be read, but aren't to be, and such that can't be written.
func TestDefectsThatDoNotMatter(t *testing.T) {
	for _, plan := range []tape.Plan{{Room: great, NoRead: []int{0, 1, 6, 7, -1}}, {Room: great, NoWrite: []int{7, 8}}} {
		l, _ := newLibrary(t, plan)
		lay(t, l, 0, slices.Concat([]string{"label", ""}, partOf(small, dump(9), true))...)
		lay(t, l, 0)
		wantOne(t, l, spot(0, 2), part(small, dump(9), true))
		wantDrive(t, l, 0, 6)
	}
}

// P17.2: All.

// threeParts is a dump of three parts, on tapes that have something else, too: part 0 on
// slot 2, part 1 on slot 0, part 2 on slot 1.
func threeParts(t *testing.T) (*library.Library, []byte, []writer.Spot) {
	t.Helper()
	b := dump(700)
	l := tapes(t,
		slices.Concat([]string{"label", ""}, partOf(nth(small, 1), b[300:301], false), partOf(head(4, 0, 0, 0, 0), dump(3), true)),
		slices.Concat([]string{"a"}, partOf(nth(small, 2), b[301:], true)),
		partOf(small, b[:300], false))
	return l, b, []writer.Spot{spot(2, 0), spot(0, 2), spot(1, 1)}
}

func TestAll(t *testing.T) {
	l, b, spots := threeParts(t)
	wantAll(t, l, 3, spots, b)
	wantDrive(t, l, 1, 7)
	wantAll(t, l, 4, []writer.Spot{spot(0, 6)}, dump(3))
	wantDrive(t, l, 0, 10)
	wantAll(t, l, 3, spots, b)
}

func TestAllOfOnePart(t *testing.T) {
	for _, n := range sizes {
		for _, dump1 := range []int{0, 1, 3, 128, top} {
			h := head(dump1, 0, 0, 9, 9)
			l := tapes(t, partOf(h, dump(n), true))
			wantAll(t, l, dump1, []writer.Spot{spot(0, 0)}, dump(n))
			wantDrive(t, l, 0, (n+159)/160+3)
		}
	}
}

// All parts of a dump on one tape, in any order; a part may have no bytes.
func TestAllOnOneTape(t *testing.T) {
	b := dump(1000)
	cuts := []int{0, 0, 160, 170, 170, 900, 1000, 1000}
	last := len(cuts) - 2
	for turn := range last + 1 {
		var pieces []string
		spots := make([]writer.Spot, last+1)
		for i := range spots {
			k := (i + turn) * 3 % len(spots)
			spots[k] = spot(0, len(pieces))
			pieces = append(pieces, partOf(nth(small, k), b[cuts[k]:cuts[k+1]], k == last)...)
		}
		wantAll(t, tapes(t, pieces), 3, spots, b)
	}
	l := tapes(t, slices.Concat(partOf(small, nil, false), partOf(nth(small, 1), nil, true)))
	wantAll(t, l, 3, []writer.Spot{spot(0, 0), spot(0, 3)}, nil)
}

// Two hundred parts, whose number has then two bytes.
func TestManyParts(t *testing.T) {
	b := dump(200 * 10)
	var pieces []string
	var spots []writer.Spot
	for i := range 200 {
		spots = append(spots, spot(0, len(pieces)))
		pieces = append(pieces, partOf(nth(small, i), b[10*i:10*i+10], i == 199)...)
	}
	l := tapes(t, pieces)
	wantAll(t, l, 3, spots, b)
	wantNoAll(t, l, 3, spots[:199], api.ErrForm)
	f, e := reader.Scan(l, 0, 0)
	if len(f) != 200 || e != api.OK {
		t.Errorf("Scan found %d parts, %d", len(f), e)
	}
	for i, x := range f {
		if x.Spot != spots[i] || !same(x.Part, part(nth(small, i), b[10*i:10*i+10], i == 199)) {
			t.Errorf("part %d is %v", i, x)
		}
	}
}

// There are no spots: nothing is done, whatever the library and the dump are.
func TestAllWithoutSpots(t *testing.T) {
	l, _, _ := threeParts(t)
	l.Load(1)
	l.Seek(4)
	for _, dump := range []int{3, 4, 0, -1, top, math.MinInt, math.MaxInt} {
		if b, e := reader.All(l, dump); len(b) != 0 || e != api.ErrNone {
			t.Errorf("All = %v, %d, want nothing, ErrNone", b, e)
		}
		wantNoAll(t, l, dump, nil, api.ErrNone)
		wantNoAll(t, l, dump, []writer.Spot{}, api.ErrNone)
		wantNoAll(t, l, dump, []writer.Spot{spot(2, 0)}[:0], api.ErrNone)
		wantNoAll(t, nil, dump, nil, api.ErrNone)
		wantNoAll(t, &library.Library{}, dump, nil, api.ErrNone)
	}
	wantDrive(t, l, 1, 4)
}

// The Dump is another one: that is seen at the first spot already.
func TestAllOfAnotherDump(t *testing.T) {
	l, _, spots := threeParts(t)
	for _, dump := range []int{0, 1, 2, 4, 5, -3, 3 + 1<<32, top, math.MinInt, math.MaxInt} {
		wantNoAll(t, l, dump, spots, api.ErrForm)
		wantDrive(t, l, 2, 5)
	}
	wantNoAll(t, l, 3, []writer.Spot{spot(0, 6)}, api.ErrForm)
	wantDrive(t, l, 0, 10)
}

// One part of three is another dump's, another part, or the last one, or the one that is
// the last isn't: that is seen at its spot.
func TestAllWithAWrongPart(t *testing.T) {
	b := dump(300)
	for i := range 3 {
		h, c := nth(small, i), b[100*i:100*i+100]
		wrongs := []reader.Part{part(h, c, i != 2)}
		for _, n := range []int{0, 1, 2, 4, 128, top} {
			w := h
			w.Dump = n
			wrongs = append(wrongs, part(w, c, i == 2))
		}
		for _, n := range []int{0, 1, 2, 3, 128, top} {
			if n != i {
				wrongs = append(wrongs, part(nth(h, n), c, i == 2))
			}
		}
		for _, w := range wrongs {
			all := [][]string{partOf(small, b[:100], false), partOf(nth(small, 1), b[100:200], false), partOf(nth(small, 2), b[200:], true)}
			all[i] = partOf(w.Head, w.B, w.End.Last)
			l := tapes(t, all...)
			wantNoAll(t, l, 3, []writer.Spot{spot(0, 0), spot(1, 0), spot(2, 0)}, api.ErrForm)
			wantDrive(t, l, i, 4)
			wantOne(t, l, spot(i, 0), w)
		}
	}
}

// The right parts of a dump at the wrong indexes: left out, twice, or in another order.
func TestAllInTheWrongOrder(t *testing.T) {
	l, b, s := threeParts(t)
	for _, c := range []struct {
		spots []writer.Spot
		slot  int
	}{
		{[]writer.Spot{s[0]}, 2}, {[]writer.Spot{s[1]}, 0}, {[]writer.Spot{s[2]}, 1}, {s[:2], 0}, {s[1:], 0},
		{[]writer.Spot{s[0], s[2]}, 1}, {[]writer.Spot{s[0], s[0], s[1], s[2]}, 2}, {[]writer.Spot{s[0], s[2], s[1]}, 1},
		{[]writer.Spot{s[1], s[0], s[2]}, 0}, {[]writer.Spot{s[2], s[1], s[0]}, 1}, {[]writer.Spot{s[0], s[1], s[1], s[2]}, 0},
		{[]writer.Spot{s[0], s[1], s[2], s[2]}, 1}, {[]writer.Spot{s[0], s[1], s[2], s[0]}, 1}, {append(s[:3:3], spot(9, 9)), 1},
	} {
		wantNoAll(t, l, 3, c.spots, api.ErrForm)
		if slot, _ := l.Slot(); slot != c.slot {
			t.Errorf("All(%v) ended at slot %d, want %d", c.spots, slot, c.slot)
		}
	}
	wantAll(t, l, 3, s, b)
}

// spotFault is what may be wrong with a spot of All: a fault of its part's pieces, or an
// intact part that doesn't belong there.
type spotFault struct {
	at     writer.Spot
	pieces []string
	noRead []int
	want   api.Errno
	drive  writer.Spot
}

// spotFaults is some of each error, for the spot i of three, on the slot i; before is the
// drive as the spots ahead of it leave it.
func spotFaults(i int, before writer.Spot) []spotFault {
	h, b, last := nth(small, i), dump(200), i == 2
	right := partOf(h, b, last)
	other := h
	other.Dump = 4
	here, behind := spot(i, 0), spot(i, len(right))
	return []spotFault{
		{spot(-1, 0), right, nil, api.ErrArg, before},
		{spot(3, 0), right, nil, api.ErrArg, before},
		{spot(i, -1), right, nil, api.ErrArg, here},
		{spot(i, 6), right, nil, api.ErrArg, here},
		{behind, right, nil, api.ErrNone, behind},
		{here, nil, nil, api.ErrNone, here},
		{here, right, []int{0}, api.ErrMedia, here},
		{here, right, []int{4}, api.ErrMedia, spot(i, 4)},
		{spot(i, 4), right, nil, api.ErrMark, behind},
		{here, right[:4], nil, api.ErrNone, spot(i, 4)},
		{here, []string{"x"}, nil, api.ErrSum, spot(i, 1)},
		{spot(i, 1), right, nil, api.ErrForm, spot(i, 2)},
		{here, partOf(other, b, last), nil, api.ErrForm, behind},
		{here, partOf(nth(h, i+1), b, last), nil, api.ErrForm, behind},
		{here, partOf(h, b, !last), nil, api.ErrForm, behind},
		{here, partOf(other, b, last)[:4], nil, api.ErrNone, spot(i, 4)},
		{here, partOf(nth(h, i+1), b, !last), []int{4}, api.ErrMedia, spot(i, 4)},
	}
}

// The first spot that fails decides, whatever is wrong with those behind it.
func TestAllReturnsTheFirstError(t *testing.T) {
	for i := range 3 {
		before := spot(i-1, 5)
		for _, f := range spotFaults(i, before) {
			for k := i; k < 3; k++ {
				for _, g := range spotFaults(k, spot(k-1, 5)) {
					plans := []tape.Plan{wide, wide, wide}
					all := make([][]string, 3)
					spots := []writer.Spot{spot(0, 0), spot(1, 0), spot(2, 0)}
					for n := range all {
						all[n] = partOf(nth(small, n), dump(200), n == 2)
					}
					plans[k].NoRead, all[k], spots[k] = g.noRead, g.pieces, g.at
					plans[i].NoRead, all[i], spots[i] = f.noRead, f.pieces, f.at
					l, _ := newLibrary(t, plans...)
					for n, pieces := range all {
						lay(t, l, n, pieces...)
					}
					l.Unload()
					wantNoAll(t, l, 3, spots, f.want)
					if f.drive.Slot < 0 {
						wantEmptyDrive(t, l)
					} else {
						wantDrive(t, l, f.drive.Slot, f.drive.At)
					}
				}
			}
		}
	}
}

// P17.2: Scan.

// The document's example.
func TestScanOfAnEmptyTape(t *testing.T) {
	l, _ := newLibrary(t, wide, tape.Plan{Room: 1}, tape.Plan{Room: great, NoRead: []int{0, 1}})
	for slot := range 3 {
		wantScan(t, l, slot, 0)
		wantDrive(t, l, slot, 0)
		wantNoScan(t, l, slot, 1, api.ErrArg)
		wantNoScan(t, l, slot, -1, api.ErrArg)
	}
}

// fourParts is a tape of a label, four parts of several dumps, and something else; what is
// found on it, and how many of its pieces are those of parts.
func fourParts() ([]string, []reader.Found, int) {
	pieces := []string{"label", ""}
	var l []reader.Found
	for _, p := range []reader.Part{
		part(small, dump(200), true), part(head(9, 4, 0, 0, 0), nil, false),
		part(head(1, 0, 9, 8, 7), dump(320), false), part(small, dump(200), true),
	} {
		l = append(l, found(0, len(pieces), p))
		pieces = append(pieces, partOf(p.Head, p.B, p.End.Last)...)
	}
	return append(pieces, "else", "", ""), l, len(pieces)
}

// Scan from each position: it finds all parts from there on if one begins there, and none
// if it is at a label, a mark, at Data, at an End, or behind the last piece.
func TestScanFromEachPosition(t *testing.T) {
	pieces, all, n := fourParts()
	for _, left := range []int{n, n + 1, n + 2, n + 3} {
		l := tapes(t, pieces[:left])
		for at := range left + 1 {
			i := slices.IndexFunc(all, func(f reader.Found) bool { return f.At == at })
			if i >= 0 {
				wantScan(t, l, 0, at, all[i:]...)
				wantDrive(t, l, 0, min(n+1, left))
			} else {
				wantScan(t, l, 0, at)
				wantDrive(t, l, 0, min(at+1, left))
			}
		}
		for _, at := range wrongPlaces(left) {
			wantNoScan(t, l, 0, at, api.ErrArg)
		}
		wantContent(t, l, 0, pieces[:left]...)
	}
}

// A fault at each place of each part: with ErrMedia nothing is found, also where there
// were parts ahead of it; with any other error the parts ahead of it are.
func TestScanUpToAFault(t *testing.T) {
	var pieces []string
	var all []reader.Found
	for i := range 3 {
		p := part(nth(small, i), dump(320), true)
		all = append(all, found(1, len(pieces), p))
		pieces = append(pieces, partOf(p.Head, p.B, true)...)
	}
	one := partOf(small, dump(320), true)
	for i, x := range all {
		for k := range one {
			for _, f := range faultsAt(one, k) {
				l := layWith(t, pieces, map[int]fault{x.At + k: f})
				if f.media {
					wantNoScan(t, l, 1, 0, api.ErrMedia)
				} else {
					wantScan(t, l, 1, 0, all[:i]...)
				}
				wantDrive(t, l, 1, x.At+k+f.past)
				if i == 2 && !f.media {
					wantScan(t, l, 1, all[1].At, all[1])
				}
			}
		}
	}
}

// Behind the last part anything may stand.
func TestScanUpToOtherPieces(t *testing.T) {
	p := part(small, dump(200), true)
	right := partOf(p.Head, p.B, true)
	for _, behind := range [][]string{
		nil, {""}, {"x"}, {"", "x"}, {sealed('X')}, {sealed('L', number(1))}, {dataBlock(dump(3))}, {endBlock(p.End)},
		{headBlock(small)}, {headBlock(small), ""}, right[:2], right[:3], right[:4], slices.Concat(right[:4], []string{"y", ""}),
		{headBlock(small), endBlock(end(3, 0, 0, 1, true)), ""},
	} {
		l := tapes(t, slices.Concat(right, behind))
		wantScan(t, l, 0, 0, found(0, 0, p))
	}
	l, _ := newLibrary(t, tape.Plan{Room: great, NoRead: []int{5}})
	lay(t, l, 0, right...)
	wantScan(t, l, 0, 0, found(0, 0, p))
	lay(t, l, 0, append(right, "x")...)
	wantNoScan(t, l, 0, 0, api.ErrMedia)
	wantDrive(t, l, 0, 5)
}

// Each slot is scanned by itself.
func TestScanOfEachSlot(t *testing.T) {
	var all [][]string
	for i := range library.Most {
		all = append(all, slices.Concat(partOf(nth(small, i), dump(i), true), partOf(head(i, 1, 0, 0, 0), dump(i), false)))
	}
	l := tapes(t, all...)
	for i := range library.Most {
		slot := i * 13 % library.Most
		second := len(partOf(small, dump(slot), true))
		wantScan(t, l, slot, 0, found(slot, 0, part(nth(small, slot), dump(slot), true)), found(slot, second, part(head(slot, 1, 0, 0, 0), dump(slot), false)))
		wantDrive(t, l, slot, 2*second)
	}
}

package writer_test

import (
	"bytes"
	"math"
	"slices"
	"testing"

	"revenant/api"
	"revenant/library"
	"revenant/power"
	"revenant/segment"
	"revenant/tape"
	"revenant/writer"
)

// top is the greatest number of a Head.
const top = 1 << 30

// great is more room than a test needs that isn't about room.
const great = 1 << 20

// wide is the plan of a tape without defects.
var wide = tape.Plan{Room: great}

// warnsAt is the plan of a tape that warns as soon as so many bytes are occupied.
func warnsAt(n int) tape.Plan { return tape.Plan{Room: great, Early: great - n} }

// small is a Head whose block has 10 bytes, so that it occupies 14; so does the End of
// fewer than 128 bytes, and that of more of them 15. Data of 160 bytes occupies 169,
// and a mark 4.
var small = head(3, 1, 2, 5)

// head is a Head with a Part that is of no account.
func head(dump, level, base, snap int) segment.Head {
	return segment.Head{Dump: dump, Part: 77, Level: level, Base: base, Snap: snap}
}

// The bytes of blocks, made without the layers below.

func number(n int) []byte {
	var b []byte
	for ; n >= 128; n /= 128 {
		b = append(b, byte(n%128)+128)
	}
	return append(b, byte(n))
}

// sum is the checksum of bytes, step by step as the document words it.
func sum(b []byte) uint32 {
	n := uint32(math.MaxUint32)
	for _, c := range b {
		for i := range 8 {
			if n&1 != uint32(c)>>i&1 {
				n = n>>1 ^ 3945912366
			} else {
				n >>= 1
			}
		}
	}
	return ^n
}

// sealed is a block of a tape, as a text.
func sealed(first byte, l ...[]byte) string {
	b := append([]byte{first}, slices.Concat(l...)...)
	n := sum(b)
	return string(append(b, byte(n), byte(n>>8), byte(n>>16), byte(n>>24)))
}

func headBlock(h segment.Head, part int) string {
	return sealed(72, number(h.Dump), number(part), number(h.Level), number(h.Base), number(h.Snap))
}

func dataBlock(b []byte) string { return sealed(68, b) }

func endBlock(dump, part, blocks, size int, last bool) string {
	n := 0
	if last {
		n = 1
	}
	return sealed(84, number(dump), number(part), number(blocks), number(size), number(n))
}

// chunks is bytes in pieces of 160, the last one of which may have fewer.
func chunks(b []byte) [][]byte { return slices.Collect(slices.Chunk(b, 160)) }

// partOf is the pieces of a part that has all these bytes; "" is a mark.
func partOf(h segment.Head, part int, b []byte, last bool) []string {
	l := []string{headBlock(h, part)}
	for _, c := range chunks(b) {
		l = append(l, dataBlock(c))
	}
	return append(l, endBlock(h.Dump, part, len(l)-1, len(b), last), "")
}

// size is how many bytes pieces occupy.
func size(pieces ...string) int {
	n := 0
	for _, s := range pieces {
		n += 4 + len(s)
	}
	return n
}

// dump is n bytes that differ from block to block.
func dump(n int) []byte {
	b := make([]byte, n)
	for i := range b {
		b[i] = byte(i*7 + i/160 + i/256 + 1)
	}
	return b
}

// Libraries, and what stands on their tapes.

func newLibrary(t *testing.T, plans ...tape.Plan) (*library.Library, *power.Power) {
	t.Helper()
	p := power.New()
	l, e := library.New(p)
	wantErr(t, e, api.OK)
	for _, plan := range plans {
		_, e := l.Add(plan)
		wantErr(t, e, api.OK)
	}
	return l, p
}

func wantErr(t *testing.T, e, want api.Errno) {
	t.Helper()
	if e != want {
		t.Errorf("error %d, want %d", e, want)
	}
}

// lay writes pieces onto the tape of a slot, which has none yet.
func lay(t *testing.T, l *library.Library, slot int, pieces ...string) {
	t.Helper()
	wantErr(t, l.Load(slot), api.OK)
	for _, s := range pieces {
		if s == "" {
			wantErr(t, l.Mark(), api.OK)
		} else {
			wantErr(t, l.Put([]byte(s)), api.OK)
		}
	}
}

// content is the pieces on the tape of a slot; the drive is left as it was.
func content(t *testing.T, l *library.Library, slot int) []string {
	t.Helper()
	drive, place := l.Tape, l.Place()
	wantErr(t, l.Load(slot), api.OK)
	var pieces []string
	for range l.Len() {
		b, e := l.Get()
		if e != api.OK && e != api.ErrMark {
			t.Errorf("piece %d of slot %d can't be read: %d", len(pieces), slot, e)
		}
		pieces = append(pieces, string(b))
	}
	l.Seek(0)
	l.Tape = drive
	l.Seek(place)
	return pieces
}

func wantContent(t *testing.T, l *library.Library, slot int, want ...string) {
	t.Helper()
	if got := content(t, l, slot); !slices.Equal(got, want) {
		t.Errorf("slot %d has %q, want %q", slot, got, want)
	}
}

// wantDrive looks which tape is in the drive, and where it stands.
func wantDrive(t *testing.T, l *library.Library, slot, place, n int) {
	t.Helper()
	if s, ok := l.Slot(); s != slot || !ok || l.Place() != place || l.Len() != n {
		t.Errorf("the drive has slot %d, %t, at %d of %d, want slot %d at %d of %d", s, ok, l.Place(), l.Len(), slot, place, n)
	}
}

func wantEmptyDrive(t *testing.T, l *library.Library) {
	t.Helper()
	if s, ok := l.Slot(); ok {
		t.Errorf("the drive has slot %d", s)
	}
}

// Spots, and calls.

// told tells spots one after the other, and counts how often it is asked.
type told struct {
	spots []writer.Spot
	asked int
}

func tell(spots ...writer.Spot) *told { return &told{spots: spots} }

// next tells a spot that could be written when it tells that there is none.
func (x *told) next() (writer.Spot, bool) {
	x.asked++
	if x.asked > len(x.spots) {
		return writer.Spot{}, false
	}
	return x.spots[x.asked-1], true
}

func spot(slot, at int) writer.Spot { return writer.Spot{Slot: slot, At: at} }

func part(slot, at, blocks, size, next int) writer.Part {
	return writer.Part{Spot: spot(slot, at), Blocks: blocks, Bytes: size, Next: next}
}

func parts(l ...writer.Part) []writer.Part { return l }

func same(a, b writer.Result) bool {
	return slices.Equal(a.Parts, b.Parts) && slices.Equal(a.Bad, b.Bad)
}

// wantResult looks what a call returned, and how often a spot was asked for.
func wantResult(t *testing.T, r writer.Result, e api.Errno, x *told, want writer.Result, wantE api.Errno, asked int) {
	t.Helper()
	if !same(r, want) || e != wantE {
		t.Errorf("Write = %v, %d, want %v, %d", r, e, want, wantE)
	}
	if x.asked != asked {
		t.Errorf("%d spots were asked for, want %d", x.asked, asked)
	}
}

// write writes a dump that is to be written, at all of these spots.
func write(t *testing.T, l *library.Library, h segment.Head, b []byte, spots ...writer.Spot) writer.Result {
	t.Helper()
	x := tell(spots...)
	r, e := writer.Write(l, h, b, x.next)
	if e != api.OK {
		t.Fatalf("Write: error %d", e)
	}
	if x.asked != len(spots) {
		t.Errorf("%d spots were asked for, want %d", x.asked, len(spots))
	}
	return r
}

// wantParts writes a dump, and looks for these parts.
func wantParts(t *testing.T, l *library.Library, h segment.Head, b []byte, spots []writer.Spot, want ...writer.Part) {
	t.Helper()
	if r := write(t, l, h, b, spots...); !same(r, writer.Result{Parts: want}) {
		t.Errorf("Write = %v, want the parts %v", r, want)
	}
	wantBytes(t, l, h, b, want...)
}

// wantBytes looks whether the bytes of parts are these, one after the other (P16.2),
// with a Head ahead of each, and an End and a mark behind it.
func wantBytes(t *testing.T, l *library.Library, h segment.Head, b []byte, list ...writer.Part) {
	t.Helper()
	left := b
	for i, p := range list {
		if p.Bytes > len(left) {
			t.Fatalf("part %d has %d bytes, and %d are left", i, p.Bytes, len(left))
		}
		want := partOf(h, i, left[:p.Bytes], p.Bytes == len(left))
		left = left[p.Bytes:]
		pieces := content(t, l, p.Slot)
		if p.At < 0 || p.Next > len(pieces) || p.Next != p.At+p.Blocks+3 || !slices.Equal(pieces[p.At:p.Next], want) {
			t.Errorf("part %d, %v, isn't on slot %d: %q, want %q", i, p, p.Slot, pieces, want)
		}
	}
	if len(left) > 0 {
		t.Errorf("%d bytes are in no part", len(left))
	}
}

// P16.1 and P16.2: dumps of one part.

// sizes is numbers of bytes at the edges of blocks, and the blocks that they need.
var sizes = []struct{ n, blocks int }{
	{1, 1}, {2, 1}, {127, 1}, {128, 1}, {159, 1}, {160, 1}, {161, 2}, {162, 2}, {300, 2}, {319, 2}, {320, 2}, {321, 3},
	{479, 3}, {480, 3}, {481, 4}, {1000, 7}, {16000, 100}, {16383, 103}, {16384, 103}, {20000, 125}, {20001, 126},
}

func TestOnePart(t *testing.T) {
	for _, c := range sizes {
		l, p := newLibrary(t, wide)
		wantParts(t, l, small, dump(c.n), []writer.Spot{spot(0, 0)}, part(0, 0, c.blocks, c.n, c.blocks+3))
		wantDrive(t, l, 0, c.blocks+3, c.blocks+3)
		if p.Count() != c.blocks+3 {
			t.Errorf("%d bytes: %d writes, want %d", c.n, p.Count(), c.blocks+3)
		}
		wantContent(t, l, 0, partOf(small, 0, dump(c.n), true)...)
	}
}

// The document's example.
func TestExample(t *testing.T) {
	l, _ := newLibrary(t, wide)
	b := dump(300)
	wantParts(t, l, small, b, []writer.Spot{spot(0, 0)}, part(0, 0, 2, 300, 5))
	wantContent(t, l, 0, headBlock(small, 0), dataBlock(b[:160]), dataBlock(b[160:]), endBlock(3, 0, 2, 300, true), "")
}

// The blocks as bytes, which are written here one by one.
func TestBlocksByteByByte(t *testing.T) {
	l, _ := newLibrary(t, wide)
	write(t, l, segment.Head{Dump: 300, Part: -1, Level: 9, Base: 299, Snap: 128}, []byte{7, 0, 255}, spot(0, 0))
	want := []string{
		sealed('H', []byte{172, 2, 0, 9, 171, 2, 128, 1}), sealed('D', []byte{7, 0, 255}), sealed('T', []byte{172, 2, 0, 1, 3, 1}), "",
	}
	wantContent(t, l, 0, want...)
}

// Any bytes are a dump's, also such as look like blocks.
func TestAnyBytes(t *testing.T) {
	for _, b := range [][]byte{
		make([]byte, 500), bytes.Repeat([]byte{255}, 161), []byte("H"), []byte("T"), []byte("D"),
		[]byte(headBlock(small, 0)), []byte(endBlock(3, 0, 1, 9, true)), []byte(dataBlock(dump(160))),
	} {
		l, _ := newLibrary(t, wide)
		n := len(chunks(b))
		wantParts(t, l, small, b, []writer.Spot{spot(0, 0)}, part(0, 0, n, len(b), n+3))
	}
}

// What is behind the spot is gone, what is ahead of it stays.
func TestEachSpotOfATape(t *testing.T) {
	had := []string{"label", "", "a", "b", "", "c"}
	for at := range len(had) + 1 {
		for _, n := range []int{1, 160, 161} {
			l, _ := newLibrary(t, wide, wide)
			lay(t, l, 1, had...)
			lay(t, l, 0, had...)
			blocks := (n + 159) / 160
			wantParts(t, l, small, dump(n), []writer.Spot{spot(0, at)}, part(0, at, blocks, n, at+blocks+3))
			wantDrive(t, l, 0, at+blocks+3, at+blocks+3)
			wantContent(t, l, 0, append(slices.Clone(had[:at]), partOf(small, 0, dump(n), true)...)...)
			wantContent(t, l, 1, had...)
		}
	}
}

// The spot counts, not what is in the drive, nor where that stands.
func TestDriveBefore(t *testing.T) {
	for _, load := range []func(l *library.Library){
		func(l *library.Library) { l.Unload() },
		func(l *library.Library) { l.Load(0) },
		func(l *library.Library) { l.Load(1) },
		func(l *library.Library) { l.Load(1); l.Seek(3) },
		func(l *library.Library) { l.Load(1); l.Seek(1) },
	} {
		l, _ := newLibrary(t, wide, wide)
		lay(t, l, 0, "x", "y", "z")
		lay(t, l, 1, "a", "b", "c")
		load(l)
		wantParts(t, l, small, dump(10), []writer.Spot{spot(1, 2)}, part(1, 2, 1, 10, 6))
		wantDrive(t, l, 1, 6, 6)
		wantContent(t, l, 0, "x", "y", "z")
	}
}

// Dumps one behind another: each is at the position behind the one before it.
func TestDumpsInARow(t *testing.T) {
	l, _ := newLibrary(t, wide)
	lay(t, l, 0, "label", "")
	at := 2
	want := []string{"label", ""}
	for i, c := range sizes[:12] {
		h := head(i+1, i%10, i, i+20)
		r := write(t, l, h, dump(c.n), spot(0, at))
		if !same(r, writer.Result{Parts: parts(part(0, at, c.blocks, c.n, at+c.blocks+3))}) {
			t.Fatalf("Write = %v", r)
		}
		at = r.Parts[0].Next
		want = append(want, partOf(h, 0, dump(c.n), true)...)
	}
	wantContent(t, l, 0, want...)
	wantDrive(t, l, 0, len(want), len(want))
}

// Dumps of several parts.

func TestPartsOnTapes(t *testing.T) {
	l, _ := newLibrary(t, warnsAt(360), wide, warnsAt(1), warnsAt(100))
	lay(t, l, 3, "label", "")
	b := dump(1000)
	wantParts(t, l, small, b, []writer.Spot{spot(0, 0), spot(3, 2), spot(1, 0)},
		part(0, 0, 3, 480, 6), part(3, 2, 1, 160, 6), part(1, 0, 3, 360, 6))
	wantDrive(t, l, 1, 6, 6)
	wantContent(t, l, 0, headBlock(small, 0), dataBlock(b[:160]), dataBlock(b[160:320]), dataBlock(b[320:480]), endBlock(3, 0, 3, 480, false), "")
	wantContent(t, l, 1, headBlock(small, 2), dataBlock(b[640:800]), dataBlock(b[800:960]), dataBlock(b[960:]), endBlock(3, 2, 3, 360, true), "")
	wantContent(t, l, 2)
	wantContent(t, l, 3, "label", "", headBlock(small, 1), dataBlock(b[480:640]), endBlock(3, 1, 1, 160, false), "")
}

// Several parts on one tape: what is behind a part's spot is gone, whoever wrote it. The
// second spot is behind the first part's Head, where the tape warns behind another one.
func TestPartsOnOneTape(t *testing.T) {
	l, _ := newLibrary(t, warnsAt(28), wide)
	lay(t, l, 0, "abcdefghijklmnopqrstuvwxy", "", "")
	b := dump(500)
	r := write(t, l, small, b, spot(0, 0), spot(0, 1), spot(0, 0), spot(1, 0))
	want := parts(part(0, 0, 1, 160, 4), part(0, 0, 1, 160, 4), part(1, 0, 2, 180, 5))
	if !same(r, writer.Result{Parts: want}) {
		t.Errorf("Write = %v, want the parts %v", r, want)
	}
	wantContent(t, l, 0, headBlock(small, 1), dataBlock(b[160:320]), endBlock(3, 1, 1, 160, false), "")
	wantContent(t, l, 1, headBlock(small, 2), dataBlock(b[320:480]), dataBlock(b[480:]), endBlock(3, 2, 2, 180, true), "")
}

// Sixty-four parts of a single block each: the number of each is that of the parts
// before it.
func TestManyParts(t *testing.T) {
	plans := make([]tape.Plan, library.Most)
	for i := range plans {
		plans[i] = warnsAt(20)
	}
	l, _ := newLibrary(t, plans...)
	b := dump(63*160 + 1)
	var spots []writer.Spot
	var want []writer.Part
	for i := range plans {
		spots = append(spots, spot(63-i, 0))
		want = append(want, part(63-i, 0, 1, 160, 4))
	}
	want[63].Bytes = 1
	wantParts(t, l, small, b, spots, want...)
	wantContent(t, l, 0, partOf(small, 63, b[63*160:], true)...)
	wantContent(t, l, 63, partOf(small, 0, b[:160], false)...)
}

// Two hundred parts at the same spot; the number of the Head, and the End, has then two
// bytes.
func TestManyPartsAtOneSpot(t *testing.T) {
	l, _ := newLibrary(t, warnsAt(16))
	b := dump(199*160 + 9)
	spots := slices.Repeat([]writer.Spot{spot(0, 0)}, 200)
	r := write(t, l, small, b, spots...)
	if len(r.Parts) != 200 || r.Parts[198] != part(0, 0, 1, 160, 4) || r.Parts[199] != part(0, 0, 1, 9, 4) || len(r.Bad) != 0 {
		t.Errorf("Write = %v", r)
	}
	wantContent(t, l, 0, partOf(small, 199, b[199*160:], true)...)
}

// The edges of the warning.

// The tape warns as soon as so many bytes are occupied, and that is looked at ahead of
// each Data.
func TestWarning(t *testing.T) {
	for _, c := range []struct{ warn, n, blocks, size int }{
		{15, 1, 1, 1}, {15, 160, 1, 160}, {15, 161, 1, 160}, {15, 1000, 1, 160}, {16, 320, 1, 160}, {182, 321, 1, 160},
		{183, 160, 1, 160}, {183, 161, 1, 160}, {183, 320, 1, 160}, {184, 161, 2, 161}, {184, 320, 2, 320}, {184, 321, 2, 320},
		{351, 321, 2, 320}, {352, 320, 2, 320}, {352, 321, 2, 320}, {352, 480, 2, 320}, {353, 321, 3, 321}, {353, 480, 3, 480}, {353, 481, 3, 480},
	} {
		l, _ := newLibrary(t, warnsAt(c.warn), wide)
		b := dump(c.n)
		want := parts(part(0, 0, c.blocks, c.size, c.blocks+3))
		spots := []writer.Spot{spot(0, 0)}
		if c.size < c.n {
			spots = append(spots, spot(1, 0))
			left := (c.n - c.size + 159) / 160
			want = append(want, part(1, 0, left, c.n-c.size, left+3))
		}
		wantParts(t, l, small, b, spots, want...)
	}
}

// What is ahead of the spot counts for the warning; what is behind it doesn't.
func TestWarningBehindOtherPieces(t *testing.T) {
	for _, at := range []int{0, 1, 2, 3} {
		had := []string{"label", "", "something", "else"}
		before := size(had[:at]...)
		l, _ := newLibrary(t, warnsAt(before+184), wide)
		lay(t, l, 0, had...)
		wantParts(t, l, small, dump(321), []writer.Spot{spot(0, at), spot(1, 0)}, part(0, at, 2, 320, at+5), part(1, 0, 1, 1, 4))
	}
}

// A tape that warns before the first Data gets a Head, and has no part.
func TestWarningBeforeData(t *testing.T) {
	had := []string{"label", ""}
	for _, c := range []struct {
		plan tape.Plan
		at   int
	}{
		{warnsAt(0), 0}, {warnsAt(1), 0}, {warnsAt(13), 0}, {warnsAt(14), 0}, {warnsAt(0), 2}, {warnsAt(13), 2}, {warnsAt(27), 2},
		{tape.Plan{Room: 27}, 2}, {tape.Plan{Room: 14}, 0}, {tape.Plan{Room: 28, Early: 1}, 2}, {tape.Plan{Room: 27, Early: 27}, 2},
	} {
		l, p := newLibrary(t, c.plan, wide)
		if c.at > 0 {
			lay(t, l, 0, had...)
		}
		x := tell(spot(0, c.at))
		before := p.Count()
		r, e := writer.Write(l, small, dump(200), x.next)
		wantResult(t, r, e, x, writer.Result{}, api.ErrFull, 2)
		wantContent(t, l, 0, append(slices.Clone(had[:c.at]), headBlock(small, 0))...)
		wantDrive(t, l, 0, c.at+1, c.at+1)
		if p.Count() != before+1 {
			t.Errorf("%d writes, want 1", p.Count()-before)
		}
		wantParts(t, l, small, dump(200), []writer.Spot{spot(0, c.at), spot(1, 0)}, part(1, 0, 2, 200, 5))
	}
}

// With the warning at each byte, a part has the blocks that begin ahead of it.
func TestWarningAtEachByte(t *testing.T) {
	for _, n := range []int{1, 159, 160, 161, 320, 321, 480} {
		for warn := 15; warn < 560; warn++ {
			l, _ := newLibrary(t, warnsAt(warn), wide)
			blocks := min((warn-14+168)/169, (n+159)/160)
			first := min(160*blocks, n)
			want := parts(part(0, 0, blocks, first, blocks+3))
			spots := []writer.Spot{spot(0, 0), spot(1, 0)}
			if first < n {
				left := (n - first + 159) / 160
				want = append(want, part(1, 0, left, n-first, left+3))
			}
			wantParts(t, l, small, dump(n), spots[:len(want)], want...)
		}
	}
}

// The last byte: a part that takes it has an End that is Last, and one that leaves it
// alone has not.
func TestLastByte(t *testing.T) {
	for _, n := range []int{160, 320, 480, 1600} {
		blocks := n / 160
		for more := range 2 {
			l, _ := newLibrary(t, warnsAt(14+169*blocks), wide)
			b := dump(n + more)
			r := write(t, l, small, b, []writer.Spot{spot(0, 0), spot(1, 0)}[:more+1]...)
			if len(r.Parts) != more+1 || r.Parts[0] != part(0, 0, blocks, n, blocks+3) {
				t.Errorf("Write of %d bytes = %v", len(b), r)
			}
			wantContent(t, l, 0, partOf(small, 0, b[:n], more == 0)...)
			if more == 1 {
				wantContent(t, l, 1, headBlock(small, 1), dataBlock(b[n:]), endBlock(3, 1, 1, 1, true), "")
			}
		}
	}
}

// The Head.

// withNumber is small with this number in place of one of its own four.
func withNumber(field, n int) segment.Head {
	h := small
	*[]*int{&h.Dump, &h.Level, &h.Base, &h.Snap}[field] = n
	return h
}

func TestNumbersOfTheHead(t *testing.T) {
	for field := range 4 {
		for _, n := range []int{0, 1, 127, 128, 16383, 16384, top - 1, top} {
			l, _ := newLibrary(t, warnsAt(25), wide)
			h := withNumber(field, n)
			b := dump(300)
			wantParts(t, l, h, b, []writer.Spot{spot(0, 0), spot(1, 0)}, part(0, 0, 1, 160, 4), part(1, 0, 1, 140, 4))
			wantContent(t, l, 1, headBlock(h, 1), dataBlock(b[160:]), endBlock(h.Dump, 1, 1, 140, true), "")
		}
	}
	for _, h := range []segment.Head{{}, head(top, top, top, top)} {
		l, _ := newLibrary(t, warnsAt(200), wide)
		wantParts(t, l, h, dump(900), []writer.Spot{spot(0, 0), spot(1, 0)}, part(0, 0, 2, 320, 5), part(1, 0, 4, 580, 7))
	}
}

// wrongNumbers is numbers that no Head may have.
var wrongNumbers = []int{-1, -2, -top, math.MinInt32, math.MinInt, top + 1, top + 2, 2 * top, 4 * top, 4*top + 5, 1 << 62, math.MaxInt}

// wrongHeads is Heads that may not be, whatever their Part.
func wrongHeads() []segment.Head {
	var l []segment.Head
	for field := range 4 {
		for _, n := range wrongNumbers {
			h := withNumber(field, n)
			l = append(l, h)
			h.Part = n
			l = append(l, h)
			h.Part = 0
			l = append(l, h)
		}
	}
	return l
}

// Head's own Part is of no account, also one that may not be.
func TestPartOfTheHead(t *testing.T) {
	for _, n := range append([]int{0, 1, 2, 128, top - 1, top}, wrongNumbers...) {
		l, _ := newLibrary(t, warnsAt(15), warnsAt(15), wide)
		h := small
		h.Part = n
		wantParts(t, l, h, dump(400), []writer.Spot{spot(0, 0), spot(1, 0), spot(2, 0)},
			part(0, 0, 1, 160, 4), part(1, 0, 1, 160, 4), part(2, 0, 1, 80, 4))
	}
}

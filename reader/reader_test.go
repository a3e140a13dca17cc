package reader_test

import (
	"bytes"
	"math"
	"slices"
	"testing"

	"revenant/api"
	"revenant/library"
	"revenant/power"
	"revenant/reader"
	"revenant/segment"
	"revenant/tape"
	"revenant/writer"
)

// top is the greatest number of a Head, and of an End.
const top = 1 << 30

// great is more room than a test needs that isn't about room.
const great = 1 << 20

// wide is the plan of a tape without defects.
var wide = tape.Plan{Room: great}

// small is the Head of a first part.
var small = head(3, 0, 1, 2, 5)

func head(dump, part, level, base, snap int) segment.Head {
	return segment.Head{Dump: dump, Part: part, Level: level, Base: base, Snap: snap}
}

// nth is a Head with this Part.
func nth(h segment.Head, part int) segment.Head {
	h.Part = part
	return h
}

func end(dump, part, blocks, size int, last bool) segment.End {
	return segment.End{Dump: dump, Part: part, Blocks: blocks, Bytes: size, Last: last}
}

// endOf is the End of a part whose Data have 160 bytes each, but for the last one.
func endOf(h segment.Head, b []byte, last bool) segment.End {
	return end(h.Dump, h.Part, len(chunks(b)), len(b), last)
}

// The bytes of blocks, made without the layers below.

func number(n int) []byte {
	var b []byte
	for ; n >= 128; n /= 128 {
		b = append(b, byte(n%128)+128)
	}
	return append(b, byte(n))
}

// sum is the checksum of bytes, step by step as the document words it.
func sum(b []byte) uint32 {
	n := uint32(math.MaxUint32)
	for _, c := range b {
		for i := range 8 {
			if n&1 != uint32(c)>>i&1 {
				n = n>>1 ^ 3945912366
			} else {
				n >>= 1
			}
		}
	}
	return ^n
}

// sealed is a block of a tape, as a text.
func sealed(first byte, l ...[]byte) string {
	b := append([]byte{first}, slices.Concat(l...)...)
	n := sum(b)
	return string(append(b, byte(n), byte(n>>8), byte(n>>16), byte(n>>24)))
}

func headBlock(h segment.Head) string {
	return sealed(72, number(h.Dump), number(h.Part), number(h.Level), number(h.Base), number(h.Snap))
}

func dataBlock(b []byte) string { return sealed(68, b) }

func endBlock(x segment.End) string {
	n := 0
	if x.Last {
		n = 1
	}
	return sealed(84, number(x.Dump), number(x.Part), number(x.Blocks), number(x.Bytes), number(n))
}

// chunks is bytes in pieces of 160, the last one of which may have fewer.
func chunks(b []byte) [][]byte { return slices.Collect(slices.Chunk(b, 160)) }

// partOf is the pieces of a part that has these bytes; "" is a mark.
func partOf(h segment.Head, b []byte, last bool) []string {
	l := []string{headBlock(h)}
	for _, c := range chunks(b) {
		l = append(l, dataBlock(c))
	}
	return append(l, endBlock(endOf(h, b, last)), "")
}

// dump is n bytes that differ from block to block.
func dump(n int) []byte {
	b := make([]byte, n)
	for i := range b {
		b[i] = byte(i*7 + i/160 + i/256 + 1)
	}
	return b
}

// Libraries, and what stands on their tapes.

func newLibrary(t *testing.T, plans ...tape.Plan) (*library.Library, *power.Power) {
	t.Helper()
	p := power.New()
	l, e := library.New(p)
	wantErr(t, e, api.OK)
	for _, plan := range plans {
		_, e := l.Add(plan)
		wantErr(t, e, api.OK)
	}
	return l, p
}

// tapes is a library of wide tapes with these pieces, and an empty drive.
func tapes(t *testing.T, all ...[]string) *library.Library {
	t.Helper()
	l, _ := newLibrary(t, slices.Repeat([]tape.Plan{wide}, len(all))...)
	for slot, pieces := range all {
		lay(t, l, slot, pieces...)
	}
	l.Unload()
	return l
}

func wantErr(t *testing.T, e, want api.Errno) {
	t.Helper()
	if e != want {
		t.Errorf("error %d, want %d", e, want)
	}
}

// lay writes pieces onto the tape of a slot, which has none yet.
func lay(t *testing.T, l *library.Library, slot int, pieces ...string) {
	t.Helper()
	wantErr(t, l.Load(slot), api.OK)
	for _, s := range pieces {
		if s == "" {
			wantErr(t, l.Mark(), api.OK)
		} else {
			wantErr(t, l.Put([]byte(s)), api.OK)
		}
	}
}

// fall lets power fail at a write that is none of a tape's.
func fall(p *power.Power) {
	p.Plan(0, 0)
	p.Write(1)
}

// wantContent looks for these pieces on the tape of a slot; the drive is left as it was.
func wantContent(t *testing.T, l *library.Library, slot int, want ...string) {
	t.Helper()
	drive, place := l.Tape, l.Place()
	wantErr(t, l.Load(slot), api.OK)
	var pieces []string
	for range l.Len() {
		b, e := l.Get()
		if e != api.OK && e != api.ErrMark {
			t.Errorf("piece %d of slot %d can't be read: %d", len(pieces), slot, e)
		}
		pieces = append(pieces, string(b))
	}
	l.Seek(0)
	l.Tape = drive
	l.Seek(place)
	if !slices.Equal(pieces, want) {
		t.Errorf("slot %d has %q, want %q", slot, pieces, want)
	}
}

// wantDrive looks which tape is in the drive, and where it stands.
func wantDrive(t *testing.T, l *library.Library, slot, place int) {
	t.Helper()
	if s, ok := l.Slot(); s != slot || !ok || l.Place() != place {
		t.Errorf("the drive has slot %d, %t, at %d, want slot %d at %d", s, ok, l.Place(), slot, place)
	}
}

func wantEmptyDrive(t *testing.T, l *library.Library) {
	t.Helper()
	if s, ok := l.Slot(); ok {
		t.Errorf("the drive has slot %d", s)
	}
}

// Spots, and calls.

func spot(slot, at int) writer.Spot { return writer.Spot{Slot: slot, At: at} }

// part is a part whose Data have 160 bytes each, but for the last one.
func part(h segment.Head, b []byte, last bool) reader.Part {
	return reader.Part{Head: h, End: endOf(h, b, last), B: b}
}

func found(slot, at int, p reader.Part) reader.Found {
	return reader.Found{Part: p, Spot: spot(slot, at)}
}

func same(a, b reader.Part) bool {
	return a.Head == b.Head && a.End == b.End && bytes.Equal(a.B, b.B)
}

func sameFound(a, b []reader.Found) bool {
	return slices.EqualFunc(a, b, func(x, y reader.Found) bool { return same(x.Part, y.Part) && x.Spot == y.Spot })
}

func wantOne(t *testing.T, l *library.Library, s writer.Spot, want reader.Part) {
	t.Helper()
	if p, e := reader.One(l, s); !same(p, want) || e != api.OK {
		t.Errorf("One(%v) = %v, %d, want %v", s, p, e, want)
	}
}

func wantNoOne(t *testing.T, l *library.Library, s writer.Spot, want api.Errno) {
	t.Helper()
	if p, e := reader.One(l, s); !same(p, reader.Part{}) || e != want {
		t.Errorf("One(%v) = %v, %d, want nothing, %d", s, p, e, want)
	}
}

func wantAll(t *testing.T, l *library.Library, dump int, spots []writer.Spot, want []byte) {
	t.Helper()
	if b, e := reader.All(l, dump, spots...); !bytes.Equal(b, want) || e != api.OK {
		t.Errorf("All(%d, %v) = %v, %d, want %v", dump, spots, b, e, want)
	}
}

func wantNoAll(t *testing.T, l *library.Library, dump int, spots []writer.Spot, want api.Errno) {
	t.Helper()
	if b, e := reader.All(l, dump, spots...); len(b) != 0 || e != want {
		t.Errorf("All(%d, %v) = %v, %d, want nothing, %d", dump, spots, b, e, want)
	}
}

func wantScan(t *testing.T, l *library.Library, slot, at int, want ...reader.Found) {
	t.Helper()
	if f, e := reader.Scan(l, slot, at); !sameFound(f, want) || e != api.OK {
		t.Errorf("Scan(%d, %d) = %v, %d, want %v", slot, at, f, e, want)
	}
}

func wantNoScan(t *testing.T, l *library.Library, slot, at int, want api.Errno) {
	t.Helper()
	if f, e := reader.Scan(l, slot, at); len(f) != 0 || e != want {
		t.Errorf("Scan(%d, %d) = %v, %d, want nothing, %d", slot, at, f, e, want)
	}
}

// P17.1: parts that are read.

// sizes is numbers of bytes at the edges of blocks; none at all is that of a part whose
// Head is followed by its End at once.
var sizes = []int{0, 1, 2, 127, 128, 159, 160, 161, 162, 300, 319, 320, 321, 479, 480, 481, 1000, 16000, 16383, 16384, 20001}

func TestOne(t *testing.T) {
	for _, n := range sizes {
		for _, last := range []bool{false, true} {
			pieces := partOf(small, dump(n), last)
			l := tapes(t, pieces)
			wantOne(t, l, spot(0, 0), part(small, dump(n), last))
			wantDrive(t, l, 0, len(pieces))
			wantContent(t, l, 0, pieces...)
		}
	}
}

// The blocks as bytes, which are written here one by one.
func TestBlocksByteByByte(t *testing.T) {
	l := tapes(t, []string{
		sealed('H', []byte{172, 2, 6, 9, 171, 2, 128, 1}), sealed('D', []byte{7, 0, 255}), sealed('D', []byte{0}),
		sealed('T', []byte{172, 2, 6, 2, 4, 1}), "",
	})
	want := reader.Part{Head: head(300, 6, 9, 299, 128), End: end(300, 6, 2, 4, true), B: []byte{7, 0, 255, 0}}
	wantOne(t, l, spot(0, 0), want)
	wantDrive(t, l, 0, 5)
}

// Data of any sizes: the blocks and the bytes of the End are counted, not worked out from
// each other.
func TestDataOfAnySize(t *testing.T) {
	for _, l := range [][]int{{1, 1}, {1, 160}, {160, 1, 160}, {3, 5, 7}, slices.Repeat([]int{1}, 300), {159, 159}, {160, 160, 160}} {
		var b []byte
		pieces := []string{headBlock(small)}
		for i, n := range l {
			c := dump(n + i)[i:]
			pieces = append(pieces, dataBlock(c))
			b = append(b, c...)
		}
		x := end(3, 0, len(l), len(b), true)
		pieces = append(pieces, endBlock(x), "")
		wantOne(t, tapes(t, pieces), spot(0, 0), reader.Part{Head: small, End: x, B: b})
	}
}

// Any bytes are a dump's, also such as look like blocks.
func TestAnyBytes(t *testing.T) {
	for _, b := range [][]byte{
		make([]byte, 500), bytes.Repeat([]byte{255}, 161), []byte("H"), []byte("T"), []byte("D"),
		[]byte(headBlock(small)), []byte(endBlock(end(3, 0, 1, 9, true))), []byte(dataBlock(dump(150))),
	} {
		wantOne(t, tapes(t, partOf(small, b, true)), spot(0, 0), part(small, b, true))
	}
}

// withNumber is small with this number in place of one of its own.
func withNumber(field, n int) segment.Head {
	h := small
	*[]*int{&h.Dump, &h.Part, &h.Level, &h.Base, &h.Snap}[field] = n
	return h
}

func TestNumbersOfTheHead(t *testing.T) {
	for field := range 5 {
		for _, n := range []int{0, 1, 9, 10, 127, 128, 16383, 16384, top - 1, top} {
			h := withNumber(field, n)
			wantOne(t, tapes(t, partOf(h, dump(300), true)), spot(0, 0), part(h, dump(300), true))
		}
	}
	for _, h := range []segment.Head{{}, head(top, top, top, top, top), head(1, 2, 3, 4, 5)} {
		wantOne(t, tapes(t, partOf(h, dump(9), false)), spot(0, 0), part(h, dump(9), false))
	}
}

// What is ahead of a part, and behind it, is of no account.
func TestEachSpotOfATape(t *testing.T) {
	for _, before := range [][]string{nil, {""}, {"label", ""}, {"a", "b", "", "c"}, partOf(small, dump(400), false)} {
		for _, behind := range [][]string{nil, {""}, {"x"}, {"", "", "y"}, partOf(small, dump(170), true)} {
			for _, n := range []int{0, 1, 160, 161} {
				pieces := slices.Concat(before, partOf(small, dump(n), true), behind)
				l := tapes(t, []string{"other", ""}, pieces)
				at := len(before)
				wantOne(t, l, spot(1, at), part(small, dump(n), true))
				wantDrive(t, l, 1, len(pieces)-len(behind))
				wantContent(t, l, 0, "other", "")
				wantContent(t, l, 1, pieces...)
			}
		}
	}
}

// The spot counts, not what is in the drive, nor where that stands.
func TestDriveBefore(t *testing.T) {
	one, two := partOf(small, dump(9), true), partOf(nth(small, 1), dump(200), true)
	for _, load := range []func(l *library.Library){
		func(l *library.Library) { l.Unload() },
		func(l *library.Library) { l.Load(0) },
		func(l *library.Library) { l.Load(0); l.Seek(3) },
		func(l *library.Library) { l.Load(1) },
		func(l *library.Library) { l.Load(1); l.Seek(2) },
		func(l *library.Library) { l.Load(1); l.Seek(7) },
	} {
		l := tapes(t, one, slices.Concat(one[3:], two, one))
		load(l)
		wantOne(t, l, spot(1, 1), part(nth(small, 1), dump(200), true))
		wantDrive(t, l, 1, 6)
		load(l)
		wantAll(t, l, 3, []writer.Spot{spot(1, 6)}, dump(9))
		wantDrive(t, l, 1, 10)
		load(l)
		wantScan(t, l, 0, 0, found(0, 0, part(small, dump(9), true)))
		wantDrive(t, l, 0, 4)
	}
}

// Each slot of a full library, and its spot alone.
func TestEachSlot(t *testing.T) {
	var all [][]string
	for i := range library.Most {
		all = append(all, partOf(nth(small, i), dump(i), i%2 == 0))
	}
	l := tapes(t, all...)
	for i := range library.Most {
		slot := i * 13 % library.Most
		wantOne(t, l, spot(slot, 0), part(nth(small, slot), dump(slot), slot%2 == 0))
		wantDrive(t, l, slot, len(all[slot]))
	}
}

// P17.1: errors of loading and of moving.

func TestNilLibrary(t *testing.T) {
	for _, s := range []writer.Spot{{}, spot(1, 0), spot(-1, -1), spot(0, math.MaxInt), spot(math.MinInt, 0)} {
		wantNoOne(t, nil, s, api.ErrArg)
		wantNoScan(t, nil, s.Slot, s.At, api.ErrArg)
		for _, dump := range []int{0, 3, -1, math.MinInt, math.MaxInt} {
			wantNoAll(t, nil, dump, []writer.Spot{s}, api.ErrArg)
			wantNoAll(t, nil, dump, []writer.Spot{s, s, s}, api.ErrArg)
			wantNoAll(t, nil, dump, nil, api.ErrNone)
			wantNoAll(t, nil, dump, []writer.Spot{}, api.ErrNone)
		}
	}
}

// wrongSlots is slots that aren't there where there are n.
func wrongSlots(n int) []int {
	return []int{-1, -2, n, n + 1, 64, 65, math.MinInt, math.MaxInt, math.MinInt32, math.MaxInt32}
}

// wrongPlaces is positions that aren't there where there are n pieces.
func wrongPlaces(n int) []int {
	return []int{-1, -2, n + 1, n + 2, 1000, math.MinInt, math.MaxInt, math.MinInt32, math.MaxInt32}
}

func TestSlotsThatAreNotThere(t *testing.T) {
	l := tapes(t, partOf(small, dump(9), true), nil)
	for _, slot := range wrongSlots(2) {
		for _, at := range []int{0, 1, -1, 100} {
			l.Unload()
			wantNoOne(t, l, spot(slot, at), api.ErrArg)
			wantNoAll(t, l, 3, []writer.Spot{spot(slot, at)}, api.ErrArg)
			wantNoScan(t, l, slot, at, api.ErrArg)
			wantEmptyDrive(t, l)
			l.Load(0)
			l.Seek(2)
			wantNoOne(t, l, spot(slot, at), api.ErrArg)
			wantNoAll(t, l, 3, []writer.Spot{spot(slot, at), spot(0, 0)}, api.ErrArg)
			wantNoScan(t, l, slot, at, api.ErrArg)
			wantDrive(t, l, 0, 2)
		}
	}
	none, _ := newLibrary(t)
	for _, l := range []*library.Library{{}, none} {
		for _, slot := range wrongSlots(0) {
			wantNoOne(t, l, spot(slot, 0), api.ErrArg)
			wantNoAll(t, l, 3, []writer.Spot{spot(slot, 0)}, api.ErrArg)
			wantNoAll(t, l, 3, nil, api.ErrNone)
			wantNoScan(t, l, slot, 0, api.ErrArg)
			wantEmptyDrive(t, l)
		}
	}
}

// A tape whose position isn't there is in the drive all the same, at its beginning.
func TestPositionsThatAreNotThere(t *testing.T) {
	pieces := partOf(small, dump(200), true)
	l := tapes(t, pieces, nil)
	for _, at := range wrongPlaces(len(pieces)) {
		l.Unload()
		wantNoOne(t, l, spot(0, at), api.ErrArg)
		wantDrive(t, l, 0, 0)
		l.Load(1)
		wantNoAll(t, l, 3, []writer.Spot{spot(0, at), spot(0, 0)}, api.ErrArg)
		wantDrive(t, l, 0, 0)
		l.Seek(3)
		wantNoScan(t, l, 0, at, api.ErrArg)
		wantDrive(t, l, 0, 0)
	}
	for _, at := range wrongPlaces(0) {
		wantNoOne(t, l, spot(1, at), api.ErrArg)
		wantNoScan(t, l, 1, at, api.ErrArg)
		wantDrive(t, l, 1, 0)
	}
	wantContent(t, l, 0, pieces...)
}

// Without power no tape is loaded, wherever the spot is; only that a slot isn't there
// comes ahead of it.
func TestPowerOff(t *testing.T) {
	l, p := newLibrary(t, wide, tape.Plan{Room: great, NoRead: []int{0}}, wide)
	pieces := partOf(small, dump(200), true)
	lay(t, l, 0, pieces...)
	lay(t, l, 1, pieces...)
	wantErr(t, l.Seek(2), api.OK)
	fall(p)
	before := p.Count()
	for _, s := range []writer.Spot{spot(0, 0), spot(0, 1), spot(0, 5), spot(0, 6), spot(0, -1), spot(1, 0), spot(2, 0), spot(2, 1)} {
		wantNoOne(t, l, s, api.ErrDown)
		wantNoAll(t, l, 3, []writer.Spot{s}, api.ErrDown)
		wantNoAll(t, l, 4, []writer.Spot{s, s}, api.ErrDown)
		wantNoScan(t, l, s.Slot, s.At, api.ErrDown)
		wantDrive(t, l, 1, 2)
	}
	for _, slot := range wrongSlots(3) {
		wantNoOne(t, l, spot(slot, 0), api.ErrArg)
		wantNoAll(t, l, 3, []writer.Spot{spot(slot, 0)}, api.ErrArg)
		wantNoScan(t, l, slot, -1, api.ErrArg)
	}
	wantNoAll(t, l, 3, nil, api.ErrNone)
	if p.On() || p.Count() != before {
		t.Errorf("the power is on: %t, and counts %d writes, want %d", p.On(), p.Count(), before)
	}
	p.Up()
	wantDrive(t, l, 1, 2)
	wantOne(t, l, spot(0, 0), part(small, dump(200), true))
}

package tape_test

import (
	"bytes"
	"math"
	"slices"
	"testing"

	"revenant/api"
	"revenant/power"
	"revenant/tape"
)

// great is more room than a test needs that isn't about room.
const great = 1 << 16

func newTape(t *testing.T, plan tape.Plan) *tape.Tape {
	t.Helper()
	x, e := tape.New(plan, power.New())
	if e != api.OK || x == nil {
		t.Fatalf("New(%v) = %v, %d", plan, x, e)
	}
	return x
}

// pattern is n bytes, none of them 0, other ones for each seed.
func pattern(n, seed int) []byte {
	b := make([]byte, n)
	for i := range b {
		b[i] = byte(1 + (seed*31+i)%251)
	}
	return b
}

// written is a tape on which those pieces were written; "" is a mark.
func written(t *testing.T, plan tape.Plan, pieces ...string) *tape.Tape {
	t.Helper()
	x := newTape(t, plan)
	write(t, x, pieces...)
	return x
}

func write(t *testing.T, x *tape.Tape, pieces ...string) {
	t.Helper()
	for _, s := range pieces {
		wantErr(t, writeOne(x, s), api.OK)
	}
}

func writeOne(x *tape.Tape, s string) api.Errno {
	if s == "" {
		return x.Mark()
	}
	return x.Put([]byte(s))
}

func wantErr(t *testing.T, e, want api.Errno) {
	t.Helper()
	if e != want {
		t.Errorf("error %d, want %d", e, want)
	}
}

func wantAt(t *testing.T, x *tape.Tape, place, n int) {
	t.Helper()
	if x.Place() != place || x.Len() != n {
		t.Errorf("Place() = %d, Len() = %d, want %d, %d", x.Place(), x.Len(), place, n)
	}
}

func wantPower(t *testing.T, x *tape.Tape, on bool, count int) {
	t.Helper()
	if x.On() != on || x.Count() != count {
		t.Errorf("On() = %t, Count() = %d, want %t, %d", x.On(), x.Count(), on, count)
	}
}

func wantWarns(t *testing.T, x *tape.Tape, want bool) {
	t.Helper()
	if x.Warns() != want {
		t.Errorf("at %d: Warns() = %t, want %t", x.Place(), x.Warns(), want)
	}
}

func wantGet(t *testing.T, x *tape.Tape, want string, wantE api.Errno) {
	t.Helper()
	if b, e := x.Get(); string(b) != want || e != wantE {
		t.Errorf("Get() = %q, %d, want %q, %d", b, e, want, wantE)
	}
}

// wantPieces reads those pieces from the position on, "" being a mark, up to the last one.
func wantPieces(t *testing.T, x *tape.Tape, pieces ...string) {
	t.Helper()
	from := x.Place()
	for i, s := range pieces {
		if s == "" {
			wantGet(t, x, "", api.ErrMark)
		} else {
			wantGet(t, x, s, api.OK)
		}
		wantAt(t, x, from+i+1, from+len(pieces))
	}
	wantGet(t, x, "", api.ErrNone)
	wantAt(t, x, from+len(pieces), from+len(pieces))
}

// wantTape reads all pieces of the tape from its start on.
func wantTape(t *testing.T, x *tape.Tape, pieces ...string) {
	t.Helper()
	wantErr(t, x.Seek(0), api.OK)
	wantPieces(t, x, pieces...)
}

// fall lets power fail at a write that is none of the tape's.
func fall(x *tape.Tape) {
	x.Plan(0, 0)
	x.Write(1)
}

// New.

func TestNewIsEmptyAtZero(t *testing.T) {
	for _, plan := range []tape.Plan{
		{Room: 1}, {Room: 1, Early: 1}, {Room: 100, Early: 0}, {Room: 100, Early: 50}, {Room: 100, Early: 100},
		{Room: 1<<24 - 1}, {Room: 1 << 24}, {Room: 1 << 24, Early: 1 << 24},
	} {
		x := newTape(t, plan)
		wantAt(t, x, 0, 0)
		wantGet(t, x, "", api.ErrNone)
		wantWarns(t, x, plan.Early == plan.Room)
		wantPower(t, x, true, 0)
	}
}

func TestNewOfWrongRoom(t *testing.T) {
	for _, room := range []int{0, -1, -100, math.MinInt, math.MinInt + 1, 1<<24 + 1, 1 << 25, 1 << 32, 1<<32 + 1, math.MaxInt - 1, math.MaxInt} {
		for _, early := range []int{0, room, 1, -1, math.MinInt, math.MaxInt} {
			if x, e := tape.New(tape.Plan{Room: room, Early: early}, power.New()); x != nil || e != api.ErrArg {
				t.Errorf("New of Room %d, Early %d = %v, %d, want nil, ErrArg", room, early, x, e)
			}
		}
	}
}

func TestNewOfWrongEarly(t *testing.T) {
	for _, room := range []int{1, 60, 1 << 24} {
		for _, early := range []int{-1, -room, math.MinInt, room + 1, 2*room + 1, math.MaxInt} {
			if x, e := tape.New(tape.Plan{Room: room, Early: early}, power.New()); x != nil || e != api.ErrArg {
				t.Errorf("New of Room %d, Early %d = %v, %d, want nil, ErrArg", room, early, x, e)
			}
		}
	}
}

func TestNewWithoutPower(t *testing.T) {
	for _, plan := range []tape.Plan{{Room: 1}, {Room: 100, Early: 100}, {Room: 1 << 24}, {}, {Room: 5, Early: 6}} {
		if x, e := tape.New(plan, nil); x != nil || e != api.ErrArg {
			t.Errorf("New(%v, nil) = %v, %d, want nil, ErrArg", plan, x, e)
		}
	}
}

func TestNewWhilePowerIsOff(t *testing.T) {
	p := power.New()
	p.Plan(0, 0)
	p.Write(1)
	x, e := tape.New(tape.Plan{Room: 20}, p)
	if e != api.OK {
		t.Fatal(e)
	}
	wantAt(t, x, 0, 0)
	wantGet(t, x, "", api.ErrDown)
	x.Up()
	write(t, x, "a")
	wantTape(t, x, "a")
}

func TestEachNewIsItsOwn(t *testing.T) {
	p := power.New()
	x, _ := tape.New(tape.Plan{Room: 100}, p)
	y, _ := tape.New(tape.Plan{Room: 100}, p)
	write(t, x, "a", "", "b")
	wantAt(t, y, 0, 0)
	write(t, y, "c")
	wantTape(t, x, "a", "", "b")
	wantTape(t, y, "c")
}

// Put and Mark; Place, Len and Warns.

func TestExample(t *testing.T) {
	x := written(t, tape.Plan{Room: 100}, "block", "")
	wantErr(t, x.Seek(0), api.OK)
	wantGet(t, x, "block", api.OK)
	wantGet(t, x, "", api.ErrMark)
}

func TestPiecesOneBehindTheOther(t *testing.T) {
	x := newTape(t, tape.Plan{Room: great})
	pieces := []string{"", "a", "bc", "", "", "def", "g", "", string(pattern(200, 1)), "h"}
	for i, s := range pieces {
		wantErr(t, writeOne(x, s), api.OK)
		wantAt(t, x, i+1, i+1)
		wantPower(t, x, true, i+1)
		wantGet(t, x, "", api.ErrNone)
	}
	wantTape(t, x, pieces...)
	wantTape(t, x, pieces...)
	wantPower(t, x, true, len(pieces))
}

func TestBlocksOfEachLength(t *testing.T) {
	x := newTape(t, tape.Plan{Room: great})
	var pieces []string
	for n := 1; n <= 200; n++ {
		pieces = append(pieces, string(pattern(n, n)))
	}
	write(t, x, pieces...)
	wantTape(t, x, pieces...)
}

func TestBlocksOfBytesZero(t *testing.T) {
	x := written(t, tape.Plan{Room: great}, "\x00", "\x00\x00", "", string(make([]byte, 200)))
	wantTape(t, x, "\x00", "\x00\x00", "", string(make([]byte, 200)))
}

func TestPutOfNoBytes(t *testing.T) {
	x := written(t, tape.Plan{Room: great}, "a", "b")
	wantErr(t, x.Seek(1), api.OK)
	wantErr(t, x.Put(nil), api.ErrArg)
	wantErr(t, x.Put([]byte{}), api.ErrArg)
	wantErr(t, x.Put([]byte{1, 2}[:0]), api.ErrArg)
	wantAt(t, x, 1, 2)
	wantPower(t, x, true, 2)
	wantTape(t, x, "a", "b")
}

func TestPutOfTooManyBytes(t *testing.T) {
	x := written(t, tape.Plan{Room: great}, "a", "b")
	wantErr(t, x.Seek(1), api.OK)
	for _, n := range []int{201, 202, 255, 256, 257, 456, 512, 65537} {
		wantErr(t, x.Put(make([]byte, n)), api.ErrLong)
	}
	wantAt(t, x, 1, 2)
	wantPower(t, x, true, 2)
	wantTape(t, x, "a", "b")
}

func TestWrittenInTheMidst(t *testing.T) {
	for at := range 6 {
		for _, s := range []string{"", "x", "longer than all others"} {
			pieces := []string{"ab", "", "c", "", "def"}
			x := written(t, tape.Plan{Room: great}, pieces...)
			wantErr(t, x.Seek(at), api.OK)
			wantErr(t, writeOne(x, s), api.OK)
			wantAt(t, x, at+1, at+1)
			wantTape(t, x, append(slices.Clone(pieces[:at]), s)...)
		}
	}
}

func TestWrittenBehindWhatWasRead(t *testing.T) {
	x := written(t, tape.Plan{Room: great}, "a", "", "b", "c")
	wantErr(t, x.Seek(0), api.OK)
	wantGet(t, x, "a", api.OK)
	wantGet(t, x, "", api.ErrMark)
	write(t, x, "d", "")
	wantTape(t, x, "a", "", "d", "")
}

// What is gone leaves its room to what is written then.
func TestRoomOfWhatIsGone(t *testing.T) {
	x := written(t, tape.Plan{Room: 20}, "abcdef", "123456")
	wantErr(t, x.Mark(), api.ErrEnd)
	wantErr(t, x.Seek(1), api.OK)
	wantErr(t, x.Put([]byte("1234567")), api.ErrEnd)
	wantAt(t, x, 1, 2)
	write(t, x, "1", "u")
	wantErr(t, x.Mark(), api.ErrEnd)
	wantErr(t, x.Seek(0), api.OK)
	write(t, x, string(pattern(16, 0)))
	wantErr(t, x.Mark(), api.ErrEnd)
	wantTape(t, x, string(pattern(16, 0)))
}

func TestWarns(t *testing.T) {
	// A block of 6 bytes occupies 10, a mark 4: they end at 10, 14, 24, 28.
	pieces := []string{"abcdef", "", "123456", ""}
	ends := []int{0, 10, 14, 24, 28}
	for early := range 29 {
		x := newTape(t, tape.Plan{Room: 28, Early: early})
		wantWarns(t, x, early == 28)
		for i, s := range pieces {
			write(t, x, s)
			wantWarns(t, x, ends[i+1] >= 28-early)
		}
		for at, end := range ends {
			wantErr(t, x.Seek(at), api.OK)
			wantWarns(t, x, end >= 28-early)
		}
	}
}

func TestWarnsAroundItsPlace(t *testing.T) {
	for n, want := range map[int]bool{35: false, 36: true, 37: true, 1: false, 56: true} {
		x := newTape(t, tape.Plan{Room: 60, Early: 20})
		wantErr(t, x.Put(make([]byte, n)), api.OK)
		wantWarns(t, x, want)
		wantErr(t, x.Seek(0), api.OK)
		wantWarns(t, x, false)
		wantGet(t, x, string(make([]byte, n)), api.OK)
		wantWarns(t, x, want)
	}
}

func TestWarnsWithoutEarly(t *testing.T) {
	x := written(t, tape.Plan{Room: 60}, string(pattern(51, 0)))
	wantWarns(t, x, false)
	write(t, x, "1")
	wantWarns(t, x, true)
	x = written(t, tape.Plan{Room: 61}, string(pattern(51, 0)), "1")
	wantWarns(t, x, false)
}

func TestWarnsWithAllEarly(t *testing.T) {
	x := newTape(t, tape.Plan{Room: 60, Early: 60})
	wantWarns(t, x, true)
	write(t, x, "a")
	wantWarns(t, x, true)
}

func TestWarnsWhileOff(t *testing.T) {
	x := written(t, tape.Plan{Room: 20, Early: 10}, "abcdef", "a")
	fall(x)
	wantWarns(t, x, true)
	wantAt(t, x, 2, 2)
	x = written(t, tape.Plan{Room: 20, Early: 10}, "abcd", "")
	wantErr(t, x.Seek(1), api.OK)
	fall(x)
	wantWarns(t, x, false)
	wantAt(t, x, 1, 2)
}

// Room.

func TestRoomOfOne(t *testing.T) {
	for early := range 2 {
		x := newTape(t, tape.Plan{Room: 1, Early: early})
		wantErr(t, x.Mark(), api.ErrEnd)
		wantErr(t, x.Put([]byte{1}), api.ErrEnd)
		wantAt(t, x, 0, 0)
		wantWarns(t, x, early == 1)
		wantPower(t, x, true, 0)
	}
}

func TestSmallRooms(t *testing.T) {
	for room := 1; room < 12; room++ {
		for n := 1; n < 10; n++ {
			x := newTape(t, tape.Plan{Room: room})
			e := x.Put(pattern(n, 0))
			if fits := n+4 <= room; fits != (e == api.OK) || !fits && e != api.ErrEnd {
				t.Errorf("a room of %d, a block of %d: error %d", room, n, e)
			}
		}
		x := newTape(t, tape.Plan{Room: room})
		for range room / 4 {
			wantErr(t, x.Mark(), api.OK)
		}
		wantErr(t, x.Mark(), api.ErrEnd)
		wantAt(t, x, room/4, room/4)
	}
}

func TestWhatJustFitsAndOneByteMore(t *testing.T) {
	for _, before := range [][]string{{}, {"abc"}, {"", "ab", ""}, {string(pattern(200, 2)), ""}} {
		for _, n := range []int{0, 1, 7, 199, 200} {
			used := 4 + n
			for _, s := range before {
				used += 4 + len(s)
			}
			last := string(pattern(n, 1))

			x := written(t, tape.Plan{Room: used}, before...)
			wantErr(t, writeOne(x, last), api.OK)
			wantTape(t, x, append(slices.Clone(before), last)...)

			if used == 4 { // there is no room that is one byte too small
				continue
			}
			x = written(t, tape.Plan{Room: used - 1}, before...)
			count := x.Count()
			wantErr(t, writeOne(x, last), api.ErrEnd)
			wantPower(t, x, true, count)
			wantAt(t, x, len(before), len(before))
			wantTape(t, x, before...)
		}
	}
}

// At the end nothing is written, so what is at the position stays.
func TestEndKeepsWhatIsThere(t *testing.T) {
	x := written(t, tape.Plan{Room: 26}, "abcdef", "ghij", "")
	wantErr(t, x.Seek(1), api.OK)
	wantErr(t, x.Put(pattern(13, 0)), api.ErrEnd)
	wantAt(t, x, 1, 3)
	wantPower(t, x, true, 3)
	wantTape(t, x, "abcdef", "ghij", "")
}

func TestGreatestRoomOfMarks(t *testing.T) {
	const n = 1 << 22
	x := newTape(t, tape.Plan{Room: 1 << 24, Early: 4})
	for i := range n {
		if x.Warns() != (i == n-1) {
			t.Fatalf("behind %d marks: Warns() = %t", i, x.Warns())
		}
		if e := x.Mark(); e != api.OK {
			t.Fatalf("mark %d: error %d", i, e)
		}
	}
	wantErr(t, x.Mark(), api.ErrEnd)
	wantErr(t, x.Put([]byte{1}), api.ErrEnd)
	wantAt(t, x, n, n)
	wantErr(t, x.Seek(0), api.OK)
	wantErr(t, x.Skip(n+1), api.ErrNone)
	wantErr(t, x.Skip(n), api.OK)
	wantAt(t, x, n, n)
}

func TestGreatestRoomOfBlocks(t *testing.T) {
	x := newTape(t, tape.Plan{Room: 1 << 24})
	b := pattern(200, 3)
	n := (1 << 24) / 204
	for range n {
		if e := x.Put(b); e != api.OK {
			t.Fatal(e)
		}
	}
	left := 1<<24 - n*204
	wantErr(t, x.Put(make([]byte, left-3)), api.ErrEnd)
	wantWarns(t, x, false)
	wantErr(t, x.Put(make([]byte, left-4)), api.OK)
	wantWarns(t, x, true)
	wantAt(t, x, n+1, n+1)
	wantErr(t, x.Seek(n-1), api.OK)
	wantGet(t, x, string(b), api.OK)
}

// Falls of power.

func TestPowerFallsAtPut(t *testing.T) {
	pieces := []string{"ab", "", "cdefghijkl", "", "m"}
	block := string(pattern(10, 5))
	for _, k := range []int{math.MinInt, -1, 0, 1, 3, 4, 5, 6, 9, 13, 14, 15, 100, math.MaxInt} {
		for at := range len(pieces) + 1 {
			x := written(t, tape.Plan{Room: great}, pieces...)
			wantErr(t, x.Seek(at), api.OK)
			x.Plan(0, k)
			wantErr(t, x.Put([]byte(block)), api.ErrDown)
			wantPower(t, x, false, len(pieces)+1)

			want := slices.Clone(pieces[:at])
			if n := min(k, 14); n > 4 {
				want = append(want, block[:n-4])
			}
			wantAt(t, x, at, len(want))
			x.Up()
			wantAt(t, x, at, len(want))
			wantPieces(t, x, want[at:]...)
			wantTape(t, x, want...)
		}
	}
}

func TestPowerFallsAtMark(t *testing.T) {
	pieces := []string{"ab", "", "cde", ""}
	for _, k := range []int{math.MinInt, -1, 0, 1, 3, 4, 5, 100, math.MaxInt} {
		for at := range len(pieces) + 1 {
			x := written(t, tape.Plan{Room: great}, pieces...)
			wantErr(t, x.Seek(at), api.OK)
			x.Plan(0, k)
			wantErr(t, x.Mark(), api.ErrDown)
			wantPower(t, x, false, len(pieces)+1)
			wantAt(t, x, at, at)
			x.Up()
			wantGet(t, x, "", api.ErrNone)
			wantTape(t, x, pieces[:at]...)
		}
	}
}

func TestPowerFallsAtGreatestAndLeastBlock(t *testing.T) {
	for _, n := range []int{1, 2, 199, 200} {
		b := pattern(n, 4)
		for k := range n + 6 {
			x := written(t, tape.Plan{Room: great}, "a")
			x.Plan(0, k)
			wantErr(t, x.Put(b), api.ErrDown)
			x.Up()
			wantAt(t, x, 1, 1+min(max(k-4, 0), 1))
			if k > 4 {
				wantPieces(t, x, string(b[:min(k-4, n)]))
			}
		}
	}
}

func TestPowerFallsBehindSoManyPieces(t *testing.T) {
	pieces := []string{"ab", "", "cde", "", "fg"}
	for after, s := range pieces {
		x := newTape(t, tape.Plan{Room: great})
		x.Plan(after, 5)
		for _, s := range pieces[:after] {
			wantErr(t, writeOne(x, s), api.OK)
		}
		wantErr(t, writeOne(x, s), api.ErrDown)
		for _, s := range pieces[after:] {
			wantErr(t, writeOne(x, s), api.ErrDown)
		}
		wantPower(t, x, false, after+1)
		x.Up()
		want := slices.Clone(pieces[:after])
		if s != "" {
			want = append(want, s[:1])
		}
		wantTape(t, x, want...)
	}
}

// A piece that is written behind a fall stands where the torn one was.
func TestWrittenAgainBehindAFall(t *testing.T) {
	x := written(t, tape.Plan{Room: 18}, "abcd")
	x.Plan(0, 9)
	wantErr(t, x.Put([]byte("123456")), api.ErrDown)
	x.Up()
	wantAt(t, x, 1, 2)
	wantErr(t, x.Put([]byte("1234567")), api.ErrEnd)
	wantErr(t, x.Put([]byte("123456")), api.OK)
	wantAt(t, x, 2, 2)
	wantTape(t, x, "abcd", "123456")
}

// A torn piece occupies as many bytes as of it are there.
func TestRoomBehindATornPiece(t *testing.T) {
	x := written(t, tape.Plan{Room: 30, Early: 10}, "abcd")
	x.Plan(0, 7)
	wantErr(t, x.Put(pattern(18, 0)), api.ErrDown)
	x.Up()
	wantGet(t, x, string(pattern(3, 0)), api.OK)
	wantWarns(t, x, false)
	wantErr(t, x.Put(pattern(12, 1)), api.ErrEnd)
	wantErr(t, x.Put(pattern(11, 1)), api.OK)
	wantWarns(t, x, true)
	wantTape(t, x, "abcd", string(pattern(3, 0)), string(pattern(11, 1)))
}

func TestWarnsStaysWherePowerFalls(t *testing.T) {
	x := written(t, tape.Plan{Room: 30, Early: 10}, "abcd")
	x.Plan(0, 100)
	wantErr(t, x.Put(pattern(18, 0)), api.ErrDown)
	wantWarns(t, x, false)
	x.Up()
	wantWarns(t, x, false)
	wantGet(t, x, string(pattern(18, 0)), api.OK)
	wantWarns(t, x, true)
}

func TestCallsWhileOff(t *testing.T) {
	pieces := []string{"ab", "", "cde", "", "f"}
	for at := range len(pieces) + 1 {
		x := written(t, tape.Plan{Room: great}, pieces...)
		wantErr(t, x.Seek(at), api.OK)
		fall(x)
		wantErr(t, x.Put([]byte("x")), api.ErrDown)
		wantErr(t, x.Put(pattern(200, 0)), api.ErrDown)
		wantErr(t, x.Mark(), api.ErrDown)
		wantGet(t, x, "", api.ErrDown)
		for i := range len(pieces) + 1 {
			wantErr(t, x.Seek(i), api.ErrDown)
			wantErr(t, x.Skip(i), api.ErrDown)
		}
		wantAt(t, x, at, len(pieces))
		wantPower(t, x, false, len(pieces)+1)
		x.Up()
		wantPieces(t, x, pieces[at:]...)
		wantTape(t, x, pieces...)
	}
}

// Positions that can't be written.

func TestNoWrite(t *testing.T) {
	for _, s := range []string{"", "x", string(pattern(200, 1))} {
		x := written(t, tape.Plan{Room: great, NoWrite: []int{2}}, "a", "")
		wantPower(t, x, true, 2)
		for i := range 3 {
			wantErr(t, writeOne(x, s), api.ErrMedia)
			wantAt(t, x, 2, 2)
			wantPower(t, x, true, 3+i)
		}
		wantGet(t, x, "", api.ErrNone)
		wantTape(t, x, "a", "")
		wantErr(t, x.Seek(1), api.OK)
		write(t, x, s)
		wantErr(t, writeOne(x, s), api.ErrMedia)
		wantTape(t, x, "a", s)
	}
}

func TestNoWriteAtZero(t *testing.T) {
	x := newTape(t, tape.Plan{Room: great, NoWrite: []int{0}})
	wantErr(t, x.Put([]byte("a")), api.ErrMedia)
	wantErr(t, x.Mark(), api.ErrMedia)
	wantAt(t, x, 0, 0)
	wantPower(t, x, true, 2)
	wantGet(t, x, "", api.ErrNone)
}

// torn is a tape of which the last piece stands, torn, at a position that can't
// be written, since power fell there.
func torn(t *testing.T, plan tape.Plan, pieces ...string) *tape.Tape {
	t.Helper()
	last := len(pieces) - 1
	x := written(t, plan, pieces[:last]...)
	x.Plan(0, 4+len(pieces[last]))
	wantErr(t, x.Put([]byte(pieces[last]+"more")), api.ErrDown)
	x.Up()
	return x
}

// What is at such a position, and was written by a write at which power fell, is
// gone with the next write.
func TestNoWriteLetsWhatIsThereBeGone(t *testing.T) {
	for _, s := range []string{"", "xyz"} {
		x := torn(t, tape.Plan{Room: great, NoWrite: []int{1}}, "a", "b")
		wantAt(t, x, 1, 2)
		wantErr(t, writeOne(x, s), api.ErrMedia)
		wantAt(t, x, 1, 1)
		wantTape(t, x, "a")
	}
}

// The fall comes ahead of the media: what is written until then is there.
func TestPowerFallsAtNoWrite(t *testing.T) {
	for _, k := range []int{0, 4, 5, 6, 7, 8} {
		x := written(t, tape.Plan{Room: great, NoWrite: []int{1}}, "a")
		x.Plan(0, k)
		wantErr(t, x.Put([]byte("bcd")), api.ErrDown)
		wantPower(t, x, false, 2)
		x.Up()
		if k > 4 {
			wantTape(t, x, "a", "bcd"[:min(k-4, 3)])
		} else {
			wantTape(t, x, "a")
		}
	}
	x := written(t, tape.Plan{Room: great, NoWrite: []int{1}}, "a")
	x.Plan(0, 4)
	wantErr(t, x.Mark(), api.ErrDown)
	x.Up()
	wantTape(t, x, "a")
}

// Positions that can't be read.

func TestNoRead(t *testing.T) {
	x := written(t, tape.Plan{Room: great, NoRead: []int{1, 2}}, "a", "b", "", "c", "")
	wantErr(t, x.Seek(0), api.OK)
	wantGet(t, x, "a", api.OK)
	for range 3 {
		wantGet(t, x, "", api.ErrMedia)
		wantAt(t, x, 1, 5)
	}
	wantErr(t, x.Seek(2), api.OK)
	wantGet(t, x, "", api.ErrMedia)
	wantAt(t, x, 2, 5)
	wantErr(t, x.Seek(3), api.OK)
	wantPieces(t, x, "c", "")
}

func TestNoReadIsWrittenAndPassed(t *testing.T) {
	x := written(t, tape.Plan{Room: 24, NoRead: []int{0, 1, 2, 3}}, "a", "", "b", "")
	wantAt(t, x, 4, 4)
	wantErr(t, x.Seek(0), api.OK)
	wantErr(t, x.Skip(1), api.OK)
	wantAt(t, x, 2, 4)
	wantErr(t, x.Skip(1), api.OK)
	wantAt(t, x, 4, 4)
	wantErr(t, x.Seek(1), api.OK)
	write(t, x, "x")
	wantAt(t, x, 2, 2)
	wantGet(t, x, "", api.ErrNone)
}

func TestNoReadIsNoNoWrite(t *testing.T) {
	x := written(t, tape.Plan{Room: great, NoRead: []int{0}, NoWrite: []int{1}}, "a")
	wantErr(t, x.Mark(), api.ErrMedia)
	wantErr(t, x.Seek(0), api.OK)
	wantGet(t, x, "", api.ErrMedia)
	wantAt(t, x, 0, 1)
}

func TestInBothLists(t *testing.T) {
	plan := tape.Plan{Room: great, NoWrite: []int{1}, NoRead: []int{1}}
	x := written(t, plan, "a")
	wantErr(t, x.Put([]byte("b")), api.ErrMedia)
	wantGet(t, x, "", api.ErrNone)
	wantAt(t, x, 1, 1)

	x = torn(t, plan, "a", "b")
	wantGet(t, x, "", api.ErrMedia)
	wantAt(t, x, 1, 2)
	wantErr(t, x.Mark(), api.ErrMedia)
	wantGet(t, x, "", api.ErrNone)
	wantTape(t, x, "a")
}

func TestNamedTwiceBelowAndBeyond(t *testing.T) {
	odd := []int{1, -1, 1, math.MinInt, 1 << 30, 3, math.MaxInt, 3, 3, 100, -3}
	x := written(t, tape.Plan{Room: great, NoRead: odd}, "a", "b", "", "c", "d")
	for at, want := range []api.Errno{api.OK, api.ErrMedia, api.ErrMark, api.ErrMedia, api.OK, api.ErrNone} {
		wantErr(t, x.Seek(at), api.OK)
		_, e := x.Get()
		wantErr(t, e, want)
	}
	x = written(t, tape.Plan{Room: great, NoWrite: odd}, "a")
	wantErr(t, x.Mark(), api.ErrMedia)
	wantErr(t, x.Put([]byte("b")), api.ErrMedia)
	wantAt(t, x, 1, 1)
	wantTape(t, x, "a")

	odd = []int{-1, math.MinInt, 50, math.MaxInt}
	x = written(t, tape.Plan{Room: 20, NoWrite: odd, NoRead: odd}, "a", "", "bc")
	wantTape(t, x, "a", "", "bc")
}

func TestUnsortedLists(t *testing.T) {
	x := written(t, tape.Plan{Room: great, NoRead: []int{4, 0, 2}}, "a", "b", "c", "d", "e", "f")
	for at, want := range []api.Errno{api.ErrMedia, api.OK, api.ErrMedia, api.OK, api.ErrMedia, api.OK} {
		wantErr(t, x.Seek(at), api.OK)
		_, e := x.Get()
		wantErr(t, e, want)
	}
}

// Get, Seek and Skip.

func TestGetBehindTheLast(t *testing.T) {
	x := written(t, tape.Plan{Room: great, NoRead: []int{2}}, "a", "")
	for range 3 {
		wantGet(t, x, "", api.ErrNone)
		wantAt(t, x, 2, 2)
	}
}

func TestSeek(t *testing.T) {
	pieces := []string{"a", "", "b", "cd", ""}
	x := written(t, tape.Plan{Room: great}, pieces...)
	for _, at := range []int{5, 0, 3, 3, 1, 4, 2, 5} {
		wantErr(t, x.Seek(at), api.OK)
		wantAt(t, x, at, 5)
		wantPieces(t, x, pieces[at:]...)
	}
}

func TestSeekToNoPosition(t *testing.T) {
	for n := range 4 {
		x := newTape(t, tape.Plan{Room: great})
		for range n {
			write(t, x, "a")
		}
		wantErr(t, x.Seek(n/2), api.OK)
		for _, at := range []int{-1, -2, math.MinInt, n + 1, n + 2, 1 << 32, math.MaxInt} {
			wantErr(t, x.Seek(at), api.ErrArg)
			wantAt(t, x, n/2, n)
		}
		wantErr(t, x.Seek(n), api.OK)
		wantAt(t, x, n, n)
		wantErr(t, x.Seek(0), api.OK)
		wantAt(t, x, 0, n)
	}
}

func TestSeekBehindWhatIsGone(t *testing.T) {
	x := written(t, tape.Plan{Room: great}, "a", "b", "c", "d")
	wantErr(t, x.Seek(1), api.OK)
	write(t, x, "e")
	wantErr(t, x.Seek(3), api.ErrArg)
	wantErr(t, x.Seek(4), api.ErrArg)
	wantErr(t, x.Seek(2), api.OK)
}

func TestSkip(t *testing.T) {
	// The marks are at 1, 3, 4 and 8.
	pieces := []string{"a", "", "b", "", "", "c", "d", "e", "", "f"}
	marks := []int{1, 3, 4, 8}
	x := written(t, tape.Plan{Room: great}, pieces...)
	for at := range len(pieces) + 1 {
		ahead := 0
		for ahead < len(marks) && marks[ahead] < at {
			ahead++
		}
		for n := range 7 {
			wantErr(t, x.Seek(at), api.OK)
			e := x.Skip(n)
			switch {
			case n == 0:
				wantErr(t, e, api.OK)
				wantAt(t, x, at, len(pieces))
			case ahead+n <= len(marks):
				wantErr(t, e, api.OK)
				wantAt(t, x, marks[ahead+n-1]+1, len(pieces))
			default:
				wantErr(t, e, api.ErrNone)
				wantAt(t, x, at, len(pieces))
			}
		}
	}
	wantPower(t, x, true, len(pieces))
	wantTape(t, x, pieces...)
}

func TestSkipByOnes(t *testing.T) {
	x := written(t, tape.Plan{Room: great}, "a", "", "", "b", "c", "", "d")
	wantErr(t, x.Seek(0), api.OK)
	for _, at := range []int{2, 3, 6} {
		wantErr(t, x.Skip(1), api.OK)
		wantAt(t, x, at, 7)
	}
	wantErr(t, x.Skip(1), api.ErrNone)
	wantErr(t, x.Skip(0), api.OK)
	wantAt(t, x, 6, 7)
	wantPieces(t, x, "d")
}

func TestSkipOfTooManyAndOfWrong(t *testing.T) {
	x := written(t, tape.Plan{Room: great}, "a", "", "b", "")
	wantErr(t, x.Seek(1), api.OK)
	for _, n := range []int{3, 4, 1 << 32, math.MaxInt - 1, math.MaxInt} {
		wantErr(t, x.Skip(n), api.ErrNone)
		wantAt(t, x, 1, 4)
	}
	for _, n := range []int{-1, -2, math.MinInt, math.MinInt + 1} {
		wantErr(t, x.Skip(n), api.ErrArg)
		wantAt(t, x, 1, 4)
	}
}

func TestSkipOnAnEmptyTape(t *testing.T) {
	x := newTape(t, tape.Plan{Room: 1})
	wantErr(t, x.Skip(0), api.OK)
	wantErr(t, x.Skip(1), api.ErrNone)
	wantErr(t, x.Skip(-1), api.ErrArg)
	wantErr(t, x.Seek(0), api.OK)
	wantAt(t, x, 0, 0)
}

// A mark that is gone is skipped no more.
func TestSkipBehindWhatIsGone(t *testing.T) {
	x := written(t, tape.Plan{Room: great}, "a", "", "b", "", "c")
	wantErr(t, x.Seek(2), api.OK)
	write(t, x, "d")
	wantErr(t, x.Seek(0), api.OK)
	wantErr(t, x.Skip(2), api.ErrNone)
	wantErr(t, x.Skip(1), api.OK)
	wantAt(t, x, 2, 3)
}

// Which error comes where two would.

func TestArgumentsComeAheadOfDown(t *testing.T) {
	x := written(t, tape.Plan{Room: 30}, "a", "")
	fall(x)
	wantErr(t, x.Put(nil), api.ErrArg)
	wantErr(t, x.Put([]byte{}), api.ErrArg)
	wantErr(t, x.Put(make([]byte, 201)), api.ErrLong)
	wantErr(t, x.Seek(-1), api.ErrArg)
	wantErr(t, x.Seek(3), api.ErrArg)
	wantErr(t, x.Seek(math.MaxInt), api.ErrArg)
	wantErr(t, x.Skip(-1), api.ErrArg)
	wantErr(t, x.Skip(math.MinInt), api.ErrArg)
	wantAt(t, x, 2, 2)
}

func TestArgumentsComeAheadOfEndAndMedia(t *testing.T) {
	x := newTape(t, tape.Plan{Room: 1, NoWrite: []int{0}})
	wantErr(t, x.Put(nil), api.ErrArg)
	wantErr(t, x.Put(make([]byte, 201)), api.ErrLong)
	x = newTape(t, tape.Plan{Room: great, NoWrite: []int{0}})
	wantErr(t, x.Put(nil), api.ErrArg)
	wantErr(t, x.Put(make([]byte, 201)), api.ErrLong)
	wantPower(t, x, true, 0)
}

func TestDownComesAheadOfEndMediaAndNone(t *testing.T) {
	x := written(t, tape.Plan{Room: 8, NoWrite: []int{1}, NoRead: []int{0}}, "a")
	wantErr(t, x.Put([]byte("a")), api.ErrEnd)
	fall(x)
	wantErr(t, x.Put([]byte("a")), api.ErrDown) // and ErrEnd, and ErrMedia
	wantErr(t, x.Mark(), api.ErrDown)
	wantGet(t, x, "", api.ErrDown)        // and ErrNone
	wantErr(t, x.Skip(1), api.ErrDown)    // and ErrNone
	wantErr(t, x.Skip(1000), api.ErrDown) // and ErrNone
	wantErr(t, x.Seek(0), api.ErrDown)    // though it could
	wantErr(t, x.Seek(1), api.ErrDown)    // though it is there
	wantErr(t, x.Seek(1000), api.ErrArg)  // ahead of ErrDown
	wantErr(t, x.Skip(-1000), api.ErrArg) // ahead of ErrDown
	x.Up()
	wantErr(t, x.Seek(0), api.OK)
	wantGet(t, x, "", api.ErrMedia)
	fall(x)
	wantGet(t, x, "", api.ErrDown) // and ErrMedia
}

// With room for it power falls; without, nothing is written at which it could.
func TestEndComesAheadOfAFall(t *testing.T) {
	x := written(t, tape.Plan{Room: 10}, "a")
	x.Plan(0, 100)
	wantErr(t, x.Put([]byte("bc")), api.ErrEnd)
	wantPower(t, x, true, 1)
	wantErr(t, x.Put([]byte("b")), api.ErrDown)
	x.Up()
	wantTape(t, x, "a", "b")
}

func TestEndComesAheadOfMedia(t *testing.T) {
	x := written(t, tape.Plan{Room: 10, NoWrite: []int{1}}, "a")
	wantErr(t, x.Put([]byte("bc")), api.ErrEnd)
	wantPower(t, x, true, 1)
	wantErr(t, x.Put([]byte("b")), api.ErrMedia)
	wantErr(t, x.Mark(), api.ErrMedia)
	wantPower(t, x, true, 3)
}

func TestNoneComesAheadOfMedia(t *testing.T) {
	x := newTape(t, tape.Plan{Room: great, NoRead: []int{0}})
	wantGet(t, x, "", api.ErrNone)
	write(t, x, "")
	wantErr(t, x.Seek(0), api.OK)
	wantGet(t, x, "", api.ErrMedia) // ahead of ErrMark
	wantAt(t, x, 0, 1)
}

// The power that is passed, and embedded.

func TestPowerIsThatPassed(t *testing.T) {
	p := power.New()
	x, _ := tape.New(tape.Plan{Room: 100}, p)
	if x.Power != p {
		t.Fatal("the tape has another power than was passed")
	}
	p.Write(3)
	wantPower(t, x, true, 1)
	p.Plan(1, 6)
	wantErr(t, x.Mark(), api.OK)
	if p.Count() != 2 {
		t.Errorf("the power counts %d writes, want 2", p.Count())
	}
	wantErr(t, x.Put([]byte("abc")), api.ErrDown)
	if p.On() {
		t.Error("the power that was passed is still on")
	}
	p.Up()
	wantTape(t, x, "", "ab")
}

func TestPromotedMethods(t *testing.T) {
	p := power.New()
	x, _ := tape.New(tape.Plan{Room: 100}, p)
	var supply interface {
		Plan(after, torn int)
		On() bool
		Up()
		Count() int
		Write(n int) (int, api.Errno)
	} = x
	supply.Plan(1, 3)
	if n, e := supply.Write(9); n != 9 || e != api.OK {
		t.Errorf("Write(9) = %d, %d, want 9, OK", n, e)
	}
	if n, e := supply.Write(9); n != 3 || e != api.ErrDown {
		t.Errorf("Write(9) = %d, %d, want 3, ErrDown", n, e)
	}
	if supply.On() || p.On() || supply.Count() != 2 || p.Count() != 2 {
		t.Error("On and Count are not those of the power that was passed")
	}
	supply.Up()
	if !supply.On() || !p.On() {
		t.Error("Up is not that of the power that was passed")
	}
	wantTape(t, x)
}

func TestTwoTapesShareAPower(t *testing.T) {
	p := power.New()
	x, _ := tape.New(tape.Plan{Room: 100}, p)
	y, _ := tape.New(tape.Plan{Room: 100}, p)
	write(t, x, "a", "")
	write(t, y, "b")
	wantPower(t, x, true, 3)
	wantPower(t, y, true, 3)

	x.Plan(2, 6)
	write(t, y, "", "c")
	wantErr(t, x.Put([]byte("def")), api.ErrDown)
	wantPower(t, y, false, 6)
	wantErr(t, y.Mark(), api.ErrDown)
	wantGet(t, y, "", api.ErrDown)
	wantErr(t, y.Seek(0), api.ErrDown)
	wantErr(t, y.Skip(0), api.ErrDown)

	y.Up()
	wantPower(t, x, true, 6)
	wantTape(t, x, "a", "", "de")
	wantTape(t, y, "b", "", "c")
}

func TestOnlyWritesOfPiecesCount(t *testing.T) {
	x := written(t, tape.Plan{Room: 100}, "a", "", "b")
	x.Plan(0, 0)
	x.Seek(0)
	x.Skip(1)
	x.Get()
	x.Get()
	x.Place()
	x.Len()
	x.Warns()
	wantPower(t, x, true, 3)
	wantErr(t, x.Mark(), api.ErrDown)
	wantPower(t, x, false, 4)
}

// A nil tape, and one that New didn't make.

func TestNil(t *testing.T) {
	var x *tape.Tape
	for range 2 {
		wantAt(t, x, 0, 0)
		wantWarns(t, x, false)
		for _, b := range [][]byte{nil, {}, {1}, make([]byte, 200), make([]byte, 201)} {
			wantErr(t, x.Put(b), api.ErrArg)
		}
		wantErr(t, x.Mark(), api.ErrArg)
		wantGet(t, x, "", api.ErrArg)
		for _, n := range []int{0, 1, -1, math.MinInt, math.MaxInt} {
			wantErr(t, x.Seek(n), api.ErrArg)
			wantErr(t, x.Skip(n), api.ErrArg)
		}
	}
}

func TestZeroTapeDoesNotPanic(t *testing.T) {
	x := new(tape.Tape)
	wantAt(t, x, 0, 0)
	x.Warns()
	wantErr(t, x.Put(nil), api.ErrArg)
	wantErr(t, x.Put([]byte{1}), api.ErrDown)
	wantErr(t, x.Mark(), api.ErrDown)
	wantGet(t, x, "", api.ErrDown)
	wantErr(t, x.Seek(0), api.ErrDown)
	wantErr(t, x.Skip(0), api.ErrDown)
}

// Arguments and results share no memory with the tape.

// inside is b as a part of a longer slice, and that one.
func inside(b []byte) (part, whole []byte) {
	whole = append(bytes.Repeat([]byte{77}, 10), b...)
	whole = append(whole, bytes.Repeat([]byte{88}, 300)...)
	return whole[10 : 10+len(b)], whole
}

func TestBytesAreNeitherKeptNorChanged(t *testing.T) {
	for _, n := range []int{1, 30, 200} {
		for _, k := range []int{-1, 5, 4 + n} { // without a fall, and with torn blocks
			x := newTape(t, tape.Plan{Room: great})
			part, whole := inside(pattern(n, 4))
			was := bytes.Clone(whole)
			if k >= 0 {
				x.Plan(0, k)
			}
			x.Put(part)
			if !bytes.Equal(whole, was) {
				t.Errorf("a put of %d bytes changed the caller's", n)
			}
			clear(whole)
			x.Up()
			there := n
			if k >= 0 {
				there = k - 4
			}
			wantTape(t, x, string(pattern(there, 4)))
			x.Seek(0)
			x.Put(pattern(n, 9))
			if !bytes.Equal(whole, make([]byte, len(whole))) {
				t.Errorf("bytes of a put of %d are the tape's", n)
			}
		}
	}
}

func TestOneBufferForSeveralBlocks(t *testing.T) {
	x := newTape(t, tape.Plan{Room: great})
	b := make([]byte, 3)
	for i := range 5 {
		copy(b, pattern(3, i))
		wantErr(t, x.Put(b), api.OK)
	}
	x.Seek(0)
	for i := range 5 {
		wantGet(t, x, string(pattern(3, i)), api.OK)
	}
}

func TestListsAreNeitherKeptNorChanged(t *testing.T) {
	noWrite, noRead := []int{5, 3, 5, 0, 1}, []int{2, 1, 2, 0, 4}
	plan := tape.Plan{Room: great, NoWrite: noWrite[:3], NoRead: noRead[:3]}
	x := newTape(t, plan)
	check := func() {
		t.Helper()
		x.Seek(0)
		write(t, x, "a", "b", "c")
		wantErr(t, x.Put([]byte("d")), api.ErrMedia)
		x.Seek(0)
		wantGet(t, x, "a", api.OK)
		wantGet(t, x, "", api.ErrMedia)
		x.Seek(2)
		wantGet(t, x, "", api.ErrMedia)
	}
	check()
	if !slices.Equal(noWrite, []int{5, 3, 5, 0, 1}) || !slices.Equal(noRead, []int{2, 1, 2, 0, 4}) {
		t.Errorf("the caller's lists are changed: %v, %v", noWrite, noRead)
	}
	for i := range noWrite {
		noWrite[i], noRead[i] = 0, 0
	}
	check()
	for i := range noWrite {
		noWrite[i], noRead[i] = 90, 90
	}
	check()
	if !slices.Equal(plan.NoWrite, []int{90, 90, 90}) || plan.Room != great {
		t.Errorf("the caller's plan is changed: %v", plan)
	}
}

func TestOnePlanForTwoTapes(t *testing.T) {
	plan := tape.Plan{Room: 30, Early: 5, NoWrite: []int{2}, NoRead: []int{0}}
	x, y := newTape(t, plan), newTape(t, plan)
	for _, z := range []*tape.Tape{x, y} {
		write(t, z, "a", "")
		wantErr(t, z.Mark(), api.ErrMedia)
		wantErr(t, z.Seek(0), api.OK)
		wantGet(t, z, "", api.ErrMedia)
	}
}

func TestResultsAreNew(t *testing.T) {
	x := written(t, tape.Plan{Room: great}, "abc", "defg", "")
	get := func(at int) []byte {
		x.Seek(at)
		b, _ := x.Get()
		return b
	}
	first, second := get(0), get(0)
	whole := first[:cap(first)]
	for i := range whole {
		whole[i] = 0
	}
	_ = append(second, 1, 2, 3, 4, 5, 6, 7, 8, 9)
	wantTape(t, x, "abc", "defg", "")
	if string(second) != "abc" {
		t.Error("two results share memory")
	}
	x.Seek(0)
	x.Put([]byte("xyz"))
	if string(second) != "abc" {
		t.Error("a result shares memory with the tape")
	}
}

// A model, by the chapter's words: the pieces as texts, and what they occupy
// added up each time.

type model struct {
	plan   tape.Plan
	p      *power.Power
	pieces []string
	place  int
}

func (m *model) used() int {
	n := 0
	for _, s := range m.pieces[:m.place] {
		n += 4 + len(s)
	}
	return n
}

func (m *model) write(s string) api.Errno {
	if !m.p.On() {
		return api.ErrDown
	}
	if m.used()+4+len(s) > m.plan.Room {
		return api.ErrEnd
	}
	n, e := m.p.Write(4 + len(s))
	m.pieces = m.pieces[:m.place]
	switch {
	case e == api.ErrDown && n > 4:
		m.pieces = append(m.pieces, s[:n-4])
		return api.ErrDown
	case e == api.ErrDown:
		return api.ErrDown
	case slices.Contains(m.plan.NoWrite, m.place):
		return api.ErrMedia
	}
	m.pieces = append(m.pieces, s)
	m.place++
	return api.OK
}

func (m *model) put(b []byte) api.Errno {
	if len(b) == 0 {
		return api.ErrArg
	}
	if len(b) > 200 {
		return api.ErrLong
	}
	return m.write(string(b))
}

func (m *model) get() (string, api.Errno) {
	switch {
	case !m.p.On():
		return "", api.ErrDown
	case m.place == len(m.pieces):
		return "", api.ErrNone
	case slices.Contains(m.plan.NoRead, m.place):
		return "", api.ErrMedia
	}
	m.place++
	if m.pieces[m.place-1] == "" {
		return "", api.ErrMark
	}
	return m.pieces[m.place-1], api.OK
}

func (m *model) seek(at int) api.Errno {
	if at < 0 || at > len(m.pieces) {
		return api.ErrArg
	}
	if !m.p.On() {
		return api.ErrDown
	}
	m.place = at
	return api.OK
}

func (m *model) skip(marks int) api.Errno {
	if marks < 0 {
		return api.ErrArg
	}
	if !m.p.On() {
		return api.ErrDown
	}
	at := m.place
	for range marks {
		i := slices.Index(m.pieces[at:], "")
		if i < 0 {
			return api.ErrNone
		}
		at += i + 1
	}
	m.place = at
	return api.OK
}

// planOf is a plan that each seed has another one of.
func planOf(seed int) tape.Plan {
	room := []int{1, 4, 30, 100, 400, 1000, 5000}[seed%7]
	early := []int{0, room / 4, room}[seed%3]
	return tape.Plan{Room: room, Early: early, NoWrite: []int{seed % 23, seed % 11, -1}, NoRead: []int{seed % 13, seed % 5, 7, 7}}
}

// run makes a call of each three bytes, and compares it with a model.
func run(t *testing.T, plan tape.Plan, calls []byte) {
	t.Helper()
	x := newTape(t, plan)
	m := &model{plan: plan, p: power.New()}
	for ; len(calls) >= 3; calls = calls[3:] {
		a, b := int(calls[1]), int(calls[2])
		var e, want api.Errno
		var got []byte
		var text string
		switch calls[0] % 16 {
		case 0:
			x.Plan(a%8-1, b%30-1)
			m.p.Plan(a%8-1, b%30-1)
		case 1:
			x.Up()
			m.p.Up()
		case 2, 3, 4, 5, 6:
			e, want = x.Put(pattern(a%30, b)), m.put(pattern(a%30, b))
		case 7:
			e, want = x.Put(pattern(a, b)), m.put(pattern(a, b))
		case 8, 9:
			e, want = x.Mark(), m.write("")
		case 10, 11, 12:
			got, e = x.Get()
			text, want = m.get()
		case 13:
			e, want = x.Seek(a%40-2), m.seek(a%40-2)
		case 14:
			e, want = x.Seek(x.Len()-a%4), m.seek(len(m.pieces)-a%4)
		default:
			e, want = x.Skip(a%6-1), m.skip(a%6-1)
		}
		if e != want || string(got) != text {
			t.Fatalf("call %v: %q, %d, want %q, %d", calls[:3], got, e, text, want)
		}
		wantAt(t, x, m.place, len(m.pieces))
		wantWarns(t, x, m.used() >= plan.Room-plan.Early)
		wantPower(t, x, m.p.On(), m.p.Count())
	}
	wantSame(t, x, m)
}

// wantSame reads all that is on the tape and in the model.
func wantSame(t *testing.T, x *tape.Tape, m *model) {
	t.Helper()
	x.Up()
	m.p.Up()
	for at := range len(m.pieces) + 1 {
		wantErr(t, x.Seek(at), m.seek(at))
		text, want := m.get()
		wantGet(t, x, text, want)
	}
}

// calls is n calls without a plain pattern, the same ones each time.
func calls(n int, seed uint32) []byte {
	b := make([]byte, 3*n)
	for i := range b {
		seed = seed*1664525 + 1013904223
		b[i] = byte(seed >> 24)
	}
	return b
}

func TestManyCalls(t *testing.T) {
	for seed := range 300 {
		run(t, planOf(seed), calls(400, uint32(seed)))
		run(t, tape.Plan{Room: great}, calls(100, uint32(seed)))
	}
}

// The results depend on the earlier calls on the same tape, and on its power, alone (P2).
func TestSameCallsAgain(t *testing.T) {
	other := written(t, tape.Plan{Room: great, NoRead: []int{1}}, "a", "", "b")
	for range 3 {
		run(t, planOf(4), calls(300, 4))
		other.Seek(0)
		other.Plan(0, 6)
		other.Put([]byte("torn"))
	}
}

func FuzzCalls(f *testing.F) {
	f.Add(uint8(5), calls(40, 1))
	f.Add(uint8(3), calls(40, 2))
	f.Add(uint8(0), []byte{})
	f.Fuzz(func(t *testing.T, seed uint8, b []byte) { run(t, planOf(int(seed)), b) })
}

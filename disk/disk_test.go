package disk_test

import (
	"bytes"
	"math"
	"testing"

	"revenant/api"
	"revenant/disk"
	"revenant/power"
)

const size = api.Sector

func newDisk(t *testing.T, n int) *disk.Disk {
	t.Helper()
	d, e := disk.New(n, power.New())
	if e != api.OK || d == nil {
		t.Fatalf("New(%d) = %v, %d", n, d, e)
	}
	return d
}

// filled is a disk whose sector i has the bytes of old(i).
func filled(t *testing.T, n int) *disk.Disk {
	t.Helper()
	d := newDisk(t, n)
	for i := range n {
		wantErr(t, d.Put(i, old(i)), api.OK)
	}
	return d
}

// old is 64 bytes, none of them 0, other ones for each sector.
func old(i int) []byte { return pattern(size, 100+i) }

// pattern is n bytes, none of them 0, that repeat only after a sector's end.
func pattern(n, seed int) []byte {
	b := make([]byte, n)
	for i := range b {
		b[i] = byte(1 + (seed*31+i)%251)
	}
	return b
}

// padded is a sector: those bytes, and bytes 0 behind them.
func padded(b []byte) []byte { return append(bytes.Clone(b), make([]byte, size-len(b))...) }

// torn is a sector of which the first n bytes are new ones.
func torn(was, b []byte, n int) []byte { return append(padded(b)[:n:n], was[n:]...) }

func wantErr(t *testing.T, e, want api.Errno) {
	t.Helper()
	if e != want {
		t.Errorf("error %d, want %d", e, want)
	}
}

func wantBytes(t *testing.T, b []byte, e api.Errno, want []byte) {
	t.Helper()
	if e != api.OK || !bytes.Equal(b, want) {
		t.Errorf("bytes %v, error %d, want %v", b, e, want)
	}
}

func wantNothing(t *testing.T, b []byte, e, want api.Errno) {
	t.Helper()
	if len(b) != 0 || e != want {
		t.Errorf("bytes %v, error %d, want none, and %d", b, e, want)
	}
}

func wantSector(t *testing.T, d *disk.Disk, i int, want []byte) {
	t.Helper()
	b, e := d.Get(i)
	wantBytes(t, b, e, want)
}

// wantOld holds the sectors against what filled put into them.
func wantOld(t *testing.T, d *disk.Disk, from, to int) {
	t.Helper()
	for i := from; i < to; i++ {
		wantSector(t, d, i, old(i))
	}
}

func wantState(t *testing.T, d *disk.Disk, on bool, count int) {
	t.Helper()
	if d.On() != on || d.Count() != count {
		t.Errorf("On() = %t, Count() = %d, want %t, %d", d.On(), d.Count(), on, count)
	}
}

// New, and Len.

func TestNewHasSectorsOfZeros(t *testing.T) {
	for _, n := range []int{1, 2, 3, 64, 1000, 65535, 65536} {
		d := newDisk(t, n)
		if d.Len() != n {
			t.Errorf("Len() = %d, want %d", d.Len(), n)
		}
		b, e := d.GetAll(0, n*size)
		wantBytes(t, b, e, make([]byte, n*size))
		wantSector(t, d, 0, make([]byte, size))
		wantSector(t, d, n-1, make([]byte, size))
		wantState(t, d, true, 0)
	}
}

func TestNewOfWrongLength(t *testing.T) {
	for _, n := range []int{0, -1, -64, math.MinInt, math.MinInt + 1, 65537, 1 << 20, math.MaxInt - 1, math.MaxInt, math.MaxInt/size + 2} {
		for _, p := range []*power.Power{power.New(), nil} {
			if d, e := disk.New(n, p); d != nil || e != api.ErrArg {
				t.Errorf("New(%d) = %v, %d, want nil, ErrArg", n, d, e)
			}
		}
	}
}

func TestNewWithoutPower(t *testing.T) {
	for _, n := range []int{1, 4, 65536} {
		if d, e := disk.New(n, nil); d != nil || e != api.ErrArg {
			t.Errorf("New(%d, nil) = %v, %d, want nil, ErrArg", n, d, e)
		}
	}
}

func TestNewWhilePowerIsOff(t *testing.T) {
	p := power.New()
	p.Plan(0, 0)
	p.Write(1)
	d, e := disk.New(2, p)
	if e != api.OK || d.Len() != 2 {
		t.Fatalf("New(2) = %v, %d", d, e)
	}
	wantState(t, d, false, 1)
	d.Up()
	wantSector(t, d, 1, make([]byte, size))
}

func TestLenStays(t *testing.T) {
	d := filled(t, 3)
	d.Put(2, nil)
	d.PutAll(0, pattern(3*size, 1))
	d.Erase()
	d.Plan(0, 5)
	d.Put(0, nil)
	if d.Len() != 3 {
		t.Errorf("Len() = %d, want 3, also while power is off", d.Len())
	}
}

func TestEachNewIsItsOwn(t *testing.T) {
	p := power.New()
	c, _ := disk.New(2, p)
	d, _ := disk.New(2, p)
	wantErr(t, c.Put(1, []byte{5}), api.OK)
	wantSector(t, c, 1, padded([]byte{5}))
	wantSector(t, d, 1, make([]byte, size))
}

// Put, and Get.

func TestExample(t *testing.T) {
	d := newDisk(t, 1)
	wantErr(t, d.Put(0, []byte{1}), api.OK)
	wantSector(t, d, 0, padded([]byte{1}))
}

func TestPutAndGetOfEachSector(t *testing.T) {
	for _, n := range []int{1, 2, 7} {
		d := filled(t, n)
		wantOld(t, d, 0, n)
		for i := range n {
			wantErr(t, d.Put(i, pattern(size, i)), api.OK)
			wantSector(t, d, i, pattern(size, i))
			wantOld(t, d, i+1, n)
		}
		for i := range n {
			wantSector(t, d, i, pattern(size, i))
		}
		wantState(t, d, true, 2*n)
	}
}

func TestPutOfFewerBytesFillsWithZeros(t *testing.T) {
	for n := range size + 1 {
		d := filled(t, 3)
		wantErr(t, d.Put(1, pattern(n, 9)), api.OK)
		wantSector(t, d, 1, padded(pattern(n, 9)))
		wantOld(t, d, 0, 1)
		wantOld(t, d, 2, 3)
		wantState(t, d, true, 4)
	}
}

func TestPutOfNil(t *testing.T) {
	d := filled(t, 1)
	wantErr(t, d.Put(0, nil), api.OK)
	wantSector(t, d, 0, make([]byte, size))
	wantState(t, d, true, 2)
}

func TestPutOfTooManyBytes(t *testing.T) {
	d := filled(t, 3)
	for _, n := range []int{size + 1, size + 2, 2 * size, 3 * size} {
		for i := range 3 {
			wantErr(t, d.Put(i, pattern(n, 5)), api.ErrArg)
		}
	}
	wantOld(t, d, 0, 3)
	wantState(t, d, true, 3)
}

// noSectors is numbers that a disk of n sectors has no sector of.
func noSectors(n int) []int {
	return []int{-1, -2, -n, -n - 1, n, n + 1, 65535, 65536, 65537, math.MinInt, math.MinInt + 1, math.MinInt / size, math.MaxInt / size, math.MaxInt/size + 1, math.MaxInt - 1, math.MaxInt}
}

func TestNoSuchSector(t *testing.T) {
	for _, n := range []int{1, 2, 5} {
		d := filled(t, n)
		for _, i := range noSectors(n) {
			wantErr(t, d.Put(i, nil), api.ErrArg)
			wantErr(t, d.Put(i, pattern(1, 1)), api.ErrArg)
			wantErr(t, d.Put(i, pattern(size, 1)), api.ErrArg)
			wantErr(t, d.Put(i, pattern(size+1, 1)), api.ErrArg)
			b, e := d.Get(i)
			wantNothing(t, b, e, api.ErrArg)
		}
		wantOld(t, d, 0, n)
		wantState(t, d, true, n)
	}
}

func TestLastSectorOfTheGreatestDisk(t *testing.T) {
	d := newDisk(t, 65536)
	wantErr(t, d.Put(65535, old(1)), api.OK)
	wantSector(t, d, 65535, old(1))
	wantSector(t, d, 65534, make([]byte, size))
	wantErr(t, d.Put(65536, old(1)), api.ErrArg)
	b, e := d.Get(65536)
	wantNothing(t, b, e, api.ErrArg)
}

// Falls of power at a Put.

func TestPowerFallsAtPut(t *testing.T) {
	for _, n := range []int{0, 1, 20, size} {
		for k := range size + 1 {
			d := filled(t, 3)
			d.Plan(0, k)
			wantErr(t, d.Put(1, pattern(n, 9)), api.ErrDown)
			wantState(t, d, false, 4)
			d.Up()
			wantSector(t, d, 1, torn(old(1), pattern(n, 9), k))
			wantOld(t, d, 0, 1)
			wantOld(t, d, 2, 3)
		}
	}
}

func TestTornOutsideOfASector(t *testing.T) {
	for _, c := range []struct{ torn, written int }{
		{-1, 0}, {math.MinInt, 0}, {size + 1, size}, {2 * size, size}, {math.MaxInt, size},
	} {
		d := filled(t, 3)
		d.Plan(0, c.torn)
		wantErr(t, d.Put(1, pattern(30, 9)), api.ErrDown)
		wantState(t, d, false, 4)
		d.Up()
		wantSector(t, d, 1, torn(old(1), pattern(30, 9), c.written))
		wantOld(t, d, 0, 1)
		wantOld(t, d, 2, 3)
	}
}

func TestEveryPutIsOneWrite(t *testing.T) {
	for after := range 5 {
		d := filled(t, 6)
		d.Plan(after, 7)
		for i := range after {
			wantErr(t, d.Put(i, nil), api.OK)
		}
		wantErr(t, d.Put(after, nil), api.ErrDown)
		wantState(t, d, false, 6+after+1)
		d.Up()
		for i := range after {
			wantSector(t, d, i, make([]byte, size))
		}
		wantSector(t, d, after, torn(old(after), nil, 7))
		wantOld(t, d, after+1, 6)
	}
}

// down is a filled disk whose power fell at a Put of which no byte was written.
func down(t *testing.T, n int) *disk.Disk {
	t.Helper()
	d := filled(t, n)
	d.Plan(0, 0)
	wantErr(t, d.Put(0, nil), api.ErrDown)
	wantState(t, d, false, n+1)
	return d
}

func TestNothingIsPutOrGotWhileOff(t *testing.T) {
	d := down(t, 3)
	for range 2 {
		for i := range 3 {
			wantErr(t, d.Put(i, pattern(5, i)), api.ErrDown)
			wantErr(t, d.Put(i, nil), api.ErrDown)
			wantErr(t, d.PutAll(i, pattern(5, i)), api.ErrDown)
			wantErr(t, d.PutAll(i, pattern(size*(3-i), i)), api.ErrDown)
			b, e := d.Get(i)
			wantNothing(t, b, e, api.ErrDown)
			b, e = d.GetAll(i, 5)
			wantNothing(t, b, e, api.ErrDown)
		}
		b, e := d.GetAll(0, 3*size)
		wantNothing(t, b, e, api.ErrDown)
	}
	wantState(t, d, false, 4)
	d.Up()
	wantOld(t, d, 0, 3)
	wantErr(t, d.Put(2, []byte{8}), api.OK)
	wantSector(t, d, 2, padded([]byte{8}))
}

func TestNoBytesWhileOff(t *testing.T) {
	d := down(t, 3)
	for i := range 4 {
		wantErr(t, d.PutAll(i, nil), api.OK)
		b, e := d.GetAll(i, 0)
		wantNothing(t, b, e, api.ErrDown)
	}
	wantState(t, d, false, 4)
}

func TestWrongArgumentsComeAheadOfPower(t *testing.T) {
	d := down(t, 3)
	for _, i := range noSectors(3) {
		wantErr(t, d.Put(i, nil), api.ErrArg)
		wantErr(t, d.PutAll(i, []byte{1}), api.ErrArg)
		b, e := d.Get(i)
		wantNothing(t, b, e, api.ErrArg)
		b, e = d.GetAll(i, 1)
		wantNothing(t, b, e, api.ErrArg)
		if i != 3 {
			wantErr(t, d.PutAll(i, nil), api.ErrArg)
			b, e = d.GetAll(i, 0)
			wantNothing(t, b, e, api.ErrArg)
		}
	}
	wantErr(t, d.Put(0, make([]byte, size+1)), api.ErrArg)
	wantErr(t, d.PutAll(1, make([]byte, 2*size+1)), api.ErrArg)
	for _, n := range []int{-1, math.MinInt, 2*size + 1, math.MaxInt} {
		b, e := d.GetAll(1, n)
		wantNothing(t, b, e, api.ErrArg)
	}
	d.Up()
	wantOld(t, d, 0, 3)
}

func TestWrongArgumentsAreNoWrite(t *testing.T) {
	d := filled(t, 3)
	d.Plan(0, 9)
	wantErr(t, d.Put(3, nil), api.ErrArg)
	wantErr(t, d.Put(0, make([]byte, size+1)), api.ErrArg)
	wantErr(t, d.PutAll(1, make([]byte, 2*size+1)), api.ErrArg)
	wantErr(t, d.PutAll(4, nil), api.ErrArg)
	wantState(t, d, true, 3)
	wantOld(t, d, 0, 3)
	wantErr(t, d.Put(1, nil), api.ErrDown)
	d.Up()
	wantSector(t, d, 1, torn(old(1), nil, 9))
}

func TestReadingIsNoWrite(t *testing.T) {
	d := filled(t, 3)
	d.Plan(0, 0)
	wantOld(t, d, 0, 3)
	b, e := d.GetAll(1, 100)
	wantBytes(t, b, e, append(old(1), old(2)[:36]...))
	d.Len()
	d.Erase()
	wantErr(t, d.PutAll(3, nil), api.OK)
	wantState(t, d, true, 3)
}

// PutAll, and GetAll.

func TestPutAllAndGetAll(t *testing.T) {
	const n = 5
	for i := range n + 1 {
		for k := range (n-i)*size + 1 {
			d := filled(t, n)
			b := pattern(k, 3)
			wantErr(t, d.PutAll(i, b), api.OK)
			got, e := d.GetAll(i, k)
			wantBytes(t, got, e, b)

			full := (k + size - 1) / size
			wantState(t, d, true, n+full)
			wantOld(t, d, 0, i)
			wantOld(t, d, i+full, n)
			got, e = d.GetAll(i, full*size)
			wantBytes(t, got, e, append(b, make([]byte, full*size-k)...))
		}
	}
}

func TestPutAllIsPutOfEachSector(t *testing.T) {
	c, d := filled(t, 4), filled(t, 4)
	b := pattern(2*size+10, 6)
	wantErr(t, c.PutAll(1, b), api.OK)
	wantErr(t, d.Put(1, b[:size]), api.OK)
	wantErr(t, d.Put(2, b[size:2*size]), api.OK)
	wantErr(t, d.Put(3, b[2*size:]), api.OK)
	got, _ := c.GetAll(0, 4*size)
	want, e := d.GetAll(0, 4*size)
	wantBytes(t, got, e, want)
	wantState(t, c, true, d.Count())
}

func TestGetAllOfEachSize(t *testing.T) {
	const n = 3
	d := filled(t, n)
	all := append(append(old(0), old(1)...), old(2)...)
	for i := range n + 1 {
		for k := range (n-i)*size + 1 {
			b, e := d.GetAll(i, k)
			wantBytes(t, b, e, all[i*size:i*size+k])
		}
	}
}

func TestNoBytesFitUpToLen(t *testing.T) {
	for _, n := range []int{1, 3, 65536} {
		d := newDisk(t, n)
		d.Plan(0, 0)
		for _, i := range []int{0, n - 1, n} {
			wantErr(t, d.PutAll(i, nil), api.OK)
			wantErr(t, d.PutAll(i, []byte{}), api.OK)
			b, e := d.GetAll(i, 0)
			wantNothing(t, b, e, api.OK)
		}
		for _, i := range []int{-1, n + 1, math.MinInt, math.MaxInt} {
			wantErr(t, d.PutAll(i, nil), api.ErrArg)
			wantErr(t, d.PutAll(i, []byte{}), api.ErrArg)
			b, e := d.GetAll(i, 0)
			wantNothing(t, b, e, api.ErrArg)
		}
		wantState(t, d, true, 0)
	}
}

func TestWhatJustFitsAndOneMore(t *testing.T) {
	const n = 4
	for i := range n + 1 {
		d := filled(t, n)
		room := (n - i) * size
		wantErr(t, d.PutAll(i, pattern(room+1, 3)), api.ErrArg)
		wantErr(t, d.PutAll(i, pattern(room+size, 3)), api.ErrArg)
		b, e := d.GetAll(i, room+1)
		wantNothing(t, b, e, api.ErrArg)
		b, e = d.GetAll(i, room+size)
		wantNothing(t, b, e, api.ErrArg)
		wantOld(t, d, 0, n)
		wantState(t, d, true, n)

		wantErr(t, d.PutAll(i, pattern(room, 3)), api.OK)
		b, e = d.GetAll(i, room)
		wantBytes(t, b, e, pattern(room, 3))
		wantOld(t, d, 0, i)
	}
}

func TestWholeGreatestDisk(t *testing.T) {
	d := newDisk(t, 65536)
	b := pattern(65536*size, 1)
	wantErr(t, d.PutAll(0, append(b, 1)), api.ErrArg)
	wantErr(t, d.PutAll(0, b), api.OK)
	got, e := d.GetAll(0, len(b))
	if e != api.OK || !bytes.Equal(got, b) {
		t.Error("the greatest disk has other bytes than were put")
	}
	got, e = d.GetAll(0, len(b)+1)
	wantNothing(t, got, e, api.ErrArg)
	wantState(t, d, true, 65536)
}

func TestNoSuchSectors(t *testing.T) {
	for _, n := range []int{1, 2, 5} {
		d := filled(t, n)
		for _, i := range noSectors(n) {
			for _, k := range []int{1, size, size + 1} {
				wantErr(t, d.PutAll(i, pattern(k, 1)), api.ErrArg)
				b, e := d.GetAll(i, k)
				wantNothing(t, b, e, api.ErrArg)
			}
		}
		wantOld(t, d, 0, n)
		wantState(t, d, true, n)
	}
}

func TestGetAllOfWrongSizes(t *testing.T) {
	const n = 3
	d := filled(t, n)
	for _, i := range []int{math.MinInt, -1, 0, 1, n, n + 1, math.MaxInt} {
		for _, k := range []int{-1, -size, math.MinInt, math.MinInt + 1, n*size + 1, math.MaxInt - 1, math.MaxInt} {
			b, e := d.GetAll(i, k)
			wantNothing(t, b, e, api.ErrArg)
		}
	}
}

func TestPowerFallsWithinPutAll(t *testing.T) {
	const n = 5
	b := pattern(3*size+20, 8)
	for after := range 4 {
		for _, k := range []int{-1, 0, 1, 19, 20, 21, 63, 64, 65, 1000} {
			d := filled(t, n)
			d.Plan(after, k)
			wantErr(t, d.PutAll(1, b), api.ErrDown)
			wantState(t, d, false, n+after+1)
			d.Up()
			for i := range after {
				wantSector(t, d, 1+i, b[i*size:(i+1)*size])
			}
			part := b[after*size : min((after+1)*size, len(b))]
			wantSector(t, d, 1+after, torn(old(1+after), part, min(max(k, 0), size)))
			wantOld(t, d, 0, 1)
			wantOld(t, d, after+2, n)
		}
	}
}

func TestPlanBehindPutAllFallsLater(t *testing.T) {
	d := filled(t, 3)
	d.Plan(2, 1)
	wantErr(t, d.PutAll(0, pattern(size+1, 8)), api.OK)
	wantState(t, d, true, 5)
	wantErr(t, d.PutAll(2, []byte{1, 2}), api.ErrDown)
	d.Up()
	wantSector(t, d, 2, torn(old(2), []byte{1}, 1))
}

// Erase.

func TestErase(t *testing.T) {
	for _, n := range []int{1, 4, 65536} {
		d := newDisk(t, n)
		wantErr(t, d.PutAll(0, pattern(n*size, 2)), api.OK)
		d.Erase()
		b, e := d.GetAll(0, n*size)
		if e != api.OK || !bytes.Equal(b, make([]byte, n*size)) {
			t.Errorf("a disk of %d sectors is not erased", n)
		}
		wantState(t, d, true, n)
		wantErr(t, d.Put(n-1, old(1)), api.OK)
		wantSector(t, d, n-1, old(1))
	}
}

func TestEraseWhileOff(t *testing.T) {
	d := down(t, 3)
	d.Plan(4, 4)
	d.Erase()
	wantState(t, d, false, 4)
	b, e := d.Get(0)
	wantNothing(t, b, e, api.ErrDown)
	d.Up()
	b, e = d.GetAll(0, 3*size)
	wantBytes(t, b, e, make([]byte, 3*size))
}

func TestEraseKeepsThePlan(t *testing.T) {
	d := filled(t, 2)
	d.Plan(0, 2)
	d.Erase()
	wantErr(t, d.Put(1, old(1)), api.ErrDown)
	d.Up()
	wantSector(t, d, 1, padded(old(1)[:2]))
}

func TestEraseOfOneDiskAlone(t *testing.T) {
	p := power.New()
	c, _ := disk.New(1, p)
	d, _ := disk.New(1, p)
	c.Put(0, old(0))
	d.Put(0, old(1))
	c.Erase()
	wantSector(t, c, 0, make([]byte, size))
	wantSector(t, d, 0, old(1))
}

// The power that is passed, and embedded.

func TestPowerIsThatPassed(t *testing.T) {
	p := power.New()
	d, _ := disk.New(2, p)
	if d.Power != p {
		t.Fatal("the disk has another power than was passed")
	}
	p.Write(3)
	wantState(t, d, true, 1)
	p.Plan(1, 2)
	wantErr(t, d.Put(0, old(0)), api.OK)
	if p.Count() != 2 {
		t.Errorf("the power counts %d writes, want 2", p.Count())
	}
	wantErr(t, d.Put(1, old(1)), api.ErrDown)
	if p.On() {
		t.Error("the power that was passed is still on")
	}
	p.Up()
	wantState(t, d, true, 3)
	wantSector(t, d, 1, padded(old(1)[:2]))
}

func TestPromotedMethods(t *testing.T) {
	p := power.New()
	d, _ := disk.New(1, p)
	var supply interface {
		Plan(after, torn int)
		On() bool
		Up()
		Count() int
		Write(n int) (int, api.Errno)
	} = d
	supply.Plan(1, 3)
	if n, e := supply.Write(9); n != 9 || e != api.OK {
		t.Errorf("Write(9) = %d, %d, want 9, OK", n, e)
	}
	if n, e := supply.Write(9); n != 3 || e != api.ErrDown {
		t.Errorf("Write(9) = %d, %d, want 3, ErrDown", n, e)
	}
	if supply.On() || p.On() || supply.Count() != 2 || p.Count() != 2 {
		t.Error("On and Count are not those of the power that was passed")
	}
	supply.Up()
	if !supply.On() || !p.On() {
		t.Error("Up is not that of the power that was passed")
	}
	wantSector(t, d, 0, make([]byte, size))
}

func TestTwoDisksShareAPower(t *testing.T) {
	p := power.New()
	c, _ := disk.New(2, p)
	d, _ := disk.New(3, p)
	wantErr(t, c.Put(0, old(0)), api.OK)
	wantErr(t, d.Put(0, old(1)), api.OK)
	wantState(t, c, true, 2)
	wantState(t, d, true, 2)

	c.Plan(2, 5)
	wantErr(t, c.Put(1, old(2)), api.OK)
	wantErr(t, d.PutAll(1, pattern(2*size, 3)), api.ErrDown)
	wantState(t, c, false, 5)
	wantState(t, d, false, 5)
	wantErr(t, c.Put(0, nil), api.ErrDown)
	b, e := c.Get(0)
	wantNothing(t, b, e, api.ErrDown)

	c.Up()
	wantState(t, d, true, 5)
	wantSector(t, c, 0, old(0))
	wantSector(t, c, 1, old(2))
	wantSector(t, d, 0, old(1))
	wantSector(t, d, 1, pattern(2*size, 3)[:size])
	wantSector(t, d, 2, padded(pattern(2*size, 3)[size:size+5]))
}

// A nil disk.

func TestNil(t *testing.T) {
	var d *disk.Disk
	for range 2 {
		if d.Len() != 0 {
			t.Errorf("Len() = %d, want 0", d.Len())
		}
		for _, i := range []int{0, 1, -1, math.MinInt, math.MaxInt} {
			for _, b := range [][]byte{nil, {}, {1}, old(1), make([]byte, size+1)} {
				wantErr(t, d.Put(i, b), api.ErrArg)
				wantErr(t, d.PutAll(i, b), api.ErrArg)
			}
			b, e := d.Get(i)
			wantNothing(t, b, e, api.ErrArg)
			for _, k := range []int{0, 1, size, -1, math.MinInt, math.MaxInt} {
				b, e = d.GetAll(i, k)
				wantNothing(t, b, e, api.ErrArg)
			}
		}
		d.Erase()
	}
}

func TestZeroDiskDoesNotPanic(t *testing.T) {
	d := new(disk.Disk)
	if d.Len() != 0 {
		t.Errorf("Len() = %d, want 0", d.Len())
	}
	wantErr(t, d.Put(0, nil), api.ErrArg)
	wantErr(t, d.PutAll(0, []byte{1}), api.ErrArg)
	b, e := d.Get(0)
	wantNothing(t, b, e, api.ErrArg)
	b, e = d.GetAll(0, 0)
	wantNothing(t, b, e, api.ErrDown)
	d.Erase()
}

// Arguments and results share no memory with the disk.

// inside is b as a part of a longer slice, and that one.
func inside(b []byte) (part, whole []byte) {
	whole = append(bytes.Repeat([]byte{77}, 10), b...)
	whole = append(whole, bytes.Repeat([]byte{88}, 2*size)...)
	return whole[10 : 10+len(b)], whole
}

func TestArgumentsAreNeitherKeptNorChanged(t *testing.T) {
	puts := []func(d *disk.Disk, b []byte) api.Errno{
		func(d *disk.Disk, b []byte) api.Errno { return d.Put(1, b) },
		func(d *disk.Disk, b []byte) api.Errno { return d.PutAll(1, b) },
	}
	for _, put := range puts {
		for _, n := range []int{1, 30, size} {
			d := filled(t, 4)
			part, whole := inside(pattern(n, 4))
			was := bytes.Clone(whole)
			wantErr(t, put(d, part), api.OK)
			if !bytes.Equal(whole, was) {
				t.Errorf("a put of %d bytes changed the caller's", n)
			}
			clear(whole)
			wantSector(t, d, 1, padded(pattern(n, 4)))
			d.Erase()
			d.Put(1, old(9))
			if !bytes.Equal(whole, make([]byte, len(whole))) {
				t.Errorf("bytes of a put of %d are the disk's", n)
			}
		}
	}
}

func TestPutAllOfSeveralSectorsKeepsNothing(t *testing.T) {
	d := filled(t, 4)
	part, whole := inside(pattern(2*size+5, 4))
	was := bytes.Clone(whole)
	wantErr(t, d.PutAll(1, part), api.OK)
	if !bytes.Equal(whole, was) {
		t.Error("PutAll changed the caller's bytes")
	}
	clear(whole)
	b, e := d.GetAll(1, 3*size)
	wantBytes(t, b, e, append(pattern(2*size+5, 4), make([]byte, size-5)...))
}

func TestResultsAreNew(t *testing.T) {
	gets := []func(d *disk.Disk) []byte{
		func(d *disk.Disk) []byte { b, _ := d.Get(1); return b },
		func(d *disk.Disk) []byte { b, _ := d.GetAll(1, size); return b },
		func(d *disk.Disk) []byte {
			b, _ := d.GetAll(1, 2*size)
			return b[:size]
		},
	}
	for _, get := range gets {
		d := filled(t, 4)
		first, second := get(d), get(d)
		whole := first[:cap(first)]
		for i := range whole {
			whole[i] = 0
		}
		wantOld(t, d, 0, 4)
		if !bytes.Equal(second, old(1)) {
			t.Error("two results share memory")
		}
		d.Erase()
		if !bytes.Equal(second, old(1)) {
			t.Error("a result shares memory with the disk")
		}
	}
}

func TestEmptyResultGivesNoWayIn(t *testing.T) {
	d := filled(t, 2)
	for i := range 3 {
		b, _ := d.GetAll(i, 0)
		_ = append(b, 1, 2, 3)
	}
	wantOld(t, d, 0, 2)
}

// A model, by sectors: what each of them has, and a power of its own.

type model struct {
	p       *power.Power
	sectors map[int][]byte
	n       int
}

func newModel(n int) *model {
	m := &model{p: power.New(), n: n}
	m.erase()
	return m
}

func (m *model) erase() { m.sectors = map[int][]byte{} }

func (m *model) sector(i int) []byte { return padded(m.sectors[i]) }

func (m *model) put(i int, b []byte) api.Errno {
	if i < 0 || i >= m.n || len(b) > size {
		return api.ErrArg
	}
	n, e := m.p.Write(size)
	m.sectors[i] = torn(m.sector(i), b, n)
	return e
}

func (m *model) putAll(i int, b []byte) api.Errno {
	if i < 0 || i > m.n || len(b) > (m.n-i)*size {
		return api.ErrArg
	}
	for from := 0; from < len(b); from += size {
		if e := m.put(i+from/size, b[from:min(from+size, len(b))]); e != api.OK {
			return e
		}
	}
	return api.OK
}

func (m *model) getAll(i, n int) ([]byte, api.Errno) {
	if n < 0 || i < 0 || i > m.n || n > (m.n-i)*size {
		return nil, api.ErrArg
	}
	if !m.p.On() {
		return nil, api.ErrDown
	}
	var b []byte
	for ; len(b) < n; i++ {
		b = append(b, m.sector(i)...)
	}
	return b[:n], api.OK
}

func (m *model) get(i int) ([]byte, api.Errno) {
	if i == m.n {
		return nil, api.ErrArg
	}
	return m.getAll(i, size)
}

// run makes a call of each four bytes, and compares it with a model.
func run(t *testing.T, d *disk.Disk, calls []byte) {
	t.Helper()
	m := newModel(d.Len())
	for ; len(calls) >= 4; calls = calls[4:] {
		i, k, seed := int(calls[1]%12)-2, int(calls[2])*2, int(calls[3])
		var e, want api.Errno
		var got, b []byte
		switch calls[0] % 16 {
		case 0:
			d.Erase()
			m.erase()
		case 1, 2:
			d.Plan(seed%8-1, k/4-10)
			m.p.Plan(seed%8-1, k/4-10)
		case 3, 4:
			d.Up()
			m.p.Up()
		case 5, 6, 7:
			e = d.Put(i, pattern(k%70, seed))
			want = m.put(i, pattern(k%70, seed))
		case 8, 9, 10:
			e = d.PutAll(i, pattern(k, seed))
			want = m.putAll(i, pattern(k, seed))
		case 11, 12:
			got, e = d.Get(i)
			b, want = m.get(i)
		default:
			got, e = d.GetAll(i, k-5)
			b, want = m.getAll(i, k-5)
		}
		if e != want || !bytes.Equal(got, b) {
			t.Fatalf("call %v: %v, %d, want %v, %d", calls[:4], got, e, b, want)
		}
		wantState(t, d, m.p.On(), m.p.Count())
	}
	d.Up()
	m.p.Up()
	got, e := d.GetAll(0, d.Len()*size)
	want, _ := m.getAll(0, d.Len()*size)
	wantBytes(t, got, e, want)
}

// calls is n calls without a plain pattern, the same ones each time.
func calls(n int, seed uint32) []byte {
	b := make([]byte, 4*n)
	for i := range b {
		seed = seed*1664525 + 1013904223
		b[i] = byte(seed >> 24)
	}
	return b
}

func TestManyCalls(t *testing.T) {
	for seed := range uint32(50) {
		for _, n := range []int{1, 2, 5, 8} {
			run(t, newDisk(t, n), calls(300, seed))
		}
	}
}

// The results depend on the earlier calls on the same disk, and on its power, alone (P2).
func TestSameCallsAgain(t *testing.T) {
	other := filled(t, 8)
	for range 3 {
		run(t, newDisk(t, 8), calls(200, 4))
		other.Plan(0, 1)
		other.PutAll(0, pattern(4*size, 5))
	}
}

func FuzzCalls(f *testing.F) {
	f.Add(uint8(5), calls(20, 1))
	f.Add(uint8(1), calls(20, 2))
	f.Add(uint8(8), []byte{})
	f.Fuzz(func(t *testing.T, n uint8, b []byte) {
		run(t, newDisk(t, 1+int(n%10)), b)
	})
}

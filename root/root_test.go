package root_test

import (
	"bytes"
	"fmt"
	"math"
	"slices"
	"testing"

	"revenant/api"
	"revenant/check"
	"revenant/disk"
	"revenant/power"
	"revenant/root"
	"revenant/varint"
)

const size = api.Sector

// plain is a disk of areas of 4 sectors, 0 at sector 2, and 1 at sector 6.
const plain = 10

func newDisk(t *testing.T, n int) *disk.Disk {
	t.Helper()
	d, e := disk.New(n, power.New())
	if e != api.OK {
		t.Fatalf("disk.New(%d): error %d", n, e)
	}
	return d
}

// filled is a disk none of whose bytes is 0; no generation is intact on it.
func filled(t *testing.T, n int) *disk.Disk {
	t.Helper()
	d := newDisk(t, n)
	wantErr(t, d.PutAll(0, pattern(n*size, 77)), api.OK)
	return d
}

// pattern is n bytes, none of them 0, that repeat only after a sector's end.
func pattern(n, seed int) []byte {
	b := make([]byte, n)
	for i := range b {
		b[i] = byte(1 + (seed*31+i)%251)
	}
	return b
}

// eight is the eight bytes of a number.
func eight(n uint64) []byte {
	b := make([]byte, 8)
	for i := range b {
		b[i] = byte(n % 256)
		n /= 256
	}
	return b
}

// sector is a root sector of these parts.
func sector(first uint64, numbers []byte, last uint64) []byte {
	return slices.Concat(eight(first), numbers, make([]byte, 48-len(numbers)), eight(last))
}

// rootSector is that of a generation which has these bytes.
func rootSector(gen uint64, b []byte) []byte {
	return sector(gen, varint.Put(nil, uint64(len(b)), uint64(check.Of(b))), gen)
}

// areaOf is the first sector of an area of a disk of n sectors.
func areaOf(n, i int) int { return 2 + i*((n-2)/2) }

// lay puts a generation onto a disk, with this root sector.
func lay(t *testing.T, d *disk.Disk, i int, b, s []byte) {
	t.Helper()
	wantErr(t, d.PutAll(areaOf(d.Len(), i), b), api.OK)
	wantErr(t, d.Put(i, s), api.OK)
}

// layWhole puts an intact generation onto a disk.
func layWhole(t *testing.T, d *disk.Disk, gen uint64, b []byte) {
	t.Helper()
	lay(t, d, int(gen%2), b, rootSector(gen, b))
}

// spoil makes one byte another one.
func spoil(t *testing.T, d *disk.Disk, at int, by byte) {
	t.Helper()
	s, e := d.Get(at / size)
	wantErr(t, e, api.OK)
	s[at%size] ^= by
	wantErr(t, d.Put(at/size, s), api.OK)
}

// all is a disk's bytes; power must be on.
func all(t *testing.T, d *disk.Disk) []byte {
	t.Helper()
	b, e := d.GetAll(0, d.Len()*size)
	wantErr(t, e, api.OK)
	return b
}

// copyOf is a disk of its own, with the same bytes.
func copyOf(t *testing.T, d *disk.Disk) *disk.Disk {
	t.Helper()
	c := newDisk(t, d.Len())
	wantErr(t, c.PutAll(0, all(t, d)), api.OK)
	return c
}

func wantErr(t *testing.T, e, want api.Errno) {
	t.Helper()
	if e != want {
		t.Errorf("error %d, want %d", e, want)
	}
}

func wantGen(t *testing.T, r *root.Root, want uint64) {
	t.Helper()
	if r.Gen() != want {
		t.Errorf("Gen() = %d, want %d", r.Gen(), want)
	}
}

// wantOpen opens a disk on which this is the greatest intact generation.
func wantOpen(t *testing.T, d *disk.Disk, gen uint64, want []byte) *root.Root {
	t.Helper()
	r, b, e := root.Open(d)
	if r == nil || e != api.OK || !bytes.Equal(b, want) {
		t.Fatalf("Open: root %v, bytes %v, error %d, want one, %v, OK", r, b, e, want)
	}
	wantGen(t, r, gen)
	return r
}

// wantNone opens a disk on which no generation is intact.
func wantNone(t *testing.T, d *disk.Disk) *root.Root {
	t.Helper()
	r, b, e := root.Open(d)
	if r == nil || e != api.ErrNone || len(b) != 0 {
		t.Fatalf("Open: root %v, bytes %v, error %d, want one, none, ErrNone", r, b, e)
	}
	wantGen(t, r, 0)
	return r
}

func wantRefused(t *testing.T, d *disk.Disk, want api.Errno) {
	t.Helper()
	if r, b, e := root.Open(d); r != nil || len(b) != 0 || e != want {
		t.Errorf("Open: root %v, bytes %v, error %d, want nil, none, %d", r, b, e, want)
	}
}

func wantDisk(t *testing.T, d *disk.Disk, want []byte) {
	t.Helper()
	got := all(t, d)
	for i := range want {
		if got[i] != want[i] {
			t.Fatalf("sector %d, byte %d is %d, want %d", i/size, i%size, got[i], want[i])
		}
	}
}

// commit makes the next generation.
func commit(t *testing.T, r *root.Root, b []byte) {
	t.Helper()
	gen := r.Gen()
	wantErr(t, r.Commit(b), api.OK)
	wantGen(t, r, gen+1)
}

// fall turns a disk's power off, without a write to it.
func fall(d *disk.Disk) {
	d.Plan(0, 0)
	d.Write(1)
}

// written is a disk's bytes behind a Commit of a generation of which so many writes
// are whole, and so many bytes of the next one are written.
func written(was []byte, gen uint64, b []byte, whole, torn int) []byte {
	out := bytes.Clone(was)
	i := int(gen % 2)
	at := areaOf(len(was)/size, i) * size
	var at64 []int
	var data [][]byte
	for part := range slices.Chunk(b, size) {
		at64 = append(at64, at)
		data = append(data, append(bytes.Clone(part), make([]byte, size-len(part))...))
		at += size
	}
	at64 = append(at64, i*size)
	data = append(data, rootSector(gen, b))
	for k, s := range data {
		switch {
		case k < whole:
			copy(out[at64[k]:], s)
		case k == whole:
			copy(out[at64[k]:], s[:min(max(torn, 0), size)])
		}
	}
	return out
}

// writes is how many a Commit of n bytes makes.
func writes(n int) int { return (n+size-1)/size + 1 }

// Open, Room and Gen.

func TestOpenOfANewDisk(t *testing.T) {
	for _, n := range []int{4, 5, 6, 7, 64, 65536} {
		d := newDisk(t, n)
		r := wantNone(t, d)
		if r.Disk != d {
			t.Errorf("the root of %d sectors is of another disk", n)
		}
		if d.Count() != 0 || !d.On() {
			t.Errorf("Open of %d sectors makes %d writes, on %t", n, d.Count(), d.On())
		}
		wantDisk(t, d, make([]byte, n*size))
	}
}

func TestExample(t *testing.T) {
	d := newDisk(t, 4)
	r := wantNone(t, d)
	commit(t, r, []byte("bytes"))
	wantOpen(t, d, 1, []byte("bytes"))
}

func TestRoom(t *testing.T) {
	for n, want := range map[int]int{4: 64, 5: 64, 6: 128, 7: 128, 8: 192, 9: 192, 10: 256, 100: 49 * 64, 101: 49 * 64, 65535: 32766 * 64, 65536: 32767 * 64} {
		d := newDisk(t, n)
		r := wantNone(t, d)
		if r.Room() != want {
			t.Errorf("Room() of %d sectors = %d, want %d", n, r.Room(), want)
		}
		commit(t, r, []byte{1})
		fall(d)
		if r.Room() != want {
			t.Errorf("Room() of %d sectors = %d behind a Commit, while power is off, want %d", n, r.Room(), want)
		}
	}
}

func TestTooFewSectors(t *testing.T) {
	wantRefused(t, nil, api.ErrArg)
	wantRefused(t, new(disk.Disk), api.ErrArg)
	for n := 1; n < 4; n++ {
		wantRefused(t, newDisk(t, n), api.ErrArg)
		wantRefused(t, filled(t, n), api.ErrArg)
		d := newDisk(t, n)
		// This would be an intact generation of no bytes.
		wantErr(t, d.Put(n-1, rootSector(uint64(n+1), nil)), api.OK)
		wantRefused(t, d, api.ErrArg)
		fall(d)
		wantRefused(t, d, api.ErrArg)
	}
}

func TestFourSectors(t *testing.T) {
	d := newDisk(t, 4)
	r := wantNone(t, d)
	for gen, n := range []int{64, 0, 1, 64, 63} {
		commit(t, r, pattern(n, gen))
		r = wantOpen(t, d, uint64(gen+1), pattern(n, gen))
	}
	wantErr(t, r.Commit(pattern(65, 9)), api.ErrFull)
	wantOpen(t, d, 5, pattern(63, 4))
}

func TestOpenWhilePowerIsOff(t *testing.T) {
	d := newDisk(t, plain)
	fall(d)
	wantRefused(t, d, api.ErrDown)
	d.Up()
	commit(t, wantNone(t, d), []byte("one"))
	fall(d)
	wantRefused(t, d, api.ErrDown)
	wantRefused(t, d, api.ErrDown)
	d.Up()
	wantOpen(t, d, 1, []byte("one"))
	d = filled(t, 4)
	fall(d)
	wantRefused(t, d, api.ErrDown)
}

// Open reads alone: power doesn't fail at it, and it changes nothing.
func TestOpenIsNoWrite(t *testing.T) {
	d := newDisk(t, plain)
	r := wantNone(t, d)
	commit(t, r, pattern(130, 1))
	commit(t, r, pattern(70, 2))
	was, count := all(t, d), d.Count()
	d.Plan(0, 0)
	for range 3 {
		wantOpen(t, d, 2, pattern(70, 2))
	}
	if d.Count() != count || !d.On() {
		t.Errorf("Count() = %d, On() = %t, want %d, true", d.Count(), d.On(), count)
	}
	wantDisk(t, d, was)
	wantErr(t, d.Put(9, nil), api.ErrDown)
}

// The embedded disk's methods, and its power's, are the root's too.
func TestTheRootIsADisk(t *testing.T) {
	d := newDisk(t, plain)
	r := wantNone(t, d)
	commit(t, r, pattern(3, 3))
	if r.Len() != plain || r.Count() != 2 || !r.On() {
		t.Errorf("Len() = %d, Count() = %d, On() = %t", r.Len(), r.Count(), r.On())
	}
	s, e := r.Get(1)
	if e != api.OK || !bytes.Equal(s, rootSector(1, pattern(3, 3))) {
		t.Errorf("Get(1) = %v, %d", s, e)
	}
	r.Plan(0, 0)
	wantErr(t, r.Commit(nil), api.ErrDown)
	if d.On() {
		t.Error("the root's power isn't the disk's")
	}
	r.Up()
	wantOpen(t, d, 1, pattern(3, 3))
}

// Commit.

func TestCommitOfEachLength(t *testing.T) {
	for _, n := range []int{4, 5, 6, 7, plain, 11} {
		room := (n - 2) / 2 * size
		for _, l := range []int{0, 1, 2, 63, 64, 65, 127, 128, 129, 192, 255, 256, room - 1, room} {
			if l > room {
				continue
			}
			for _, d := range []*disk.Disk{newDisk(t, n), filled(t, n)} {
				r := wantNone(t, d)
				for gen := uint64(1); gen <= 4; gen++ {
					b := pattern(l, int(gen))
					commit(t, r, b)
					wantOpen(t, d, gen, b)
				}
			}
		}
	}
}

func TestCommitOfMuch(t *testing.T) {
	d := newDisk(t, 65536)
	r := wantNone(t, d)
	for gen := uint64(1); gen <= 2; gen++ {
		b := pattern(r.Room(), int(gen))
		commit(t, r, b)
		wantOpen(t, d, gen, b)
	}
	wantErr(t, r.Commit(make([]byte, r.Room()+1)), api.ErrFull)
	wantOpen(t, d, 2, pattern(r.Room(), 2))
}

// Each sector byte by byte, written out.
func TestLayout(t *testing.T) {
	d := newDisk(t, plain)
	r := wantNone(t, d)
	want := make([]byte, plain*size)
	long := bytes.Repeat([]byte{7}, 130)

	commit(t, r, []byte("one"))
	copy(want[1*size:], []byte{1, 0, 0, 0, 0, 0, 0, 0, 3, 233, 243, 240, 216, 5})
	want[1*size+56] = 1
	copy(want[6*size:], "one")
	wantDisk(t, d, want)

	commit(t, r, long)
	copy(want[0*size:], []byte{2, 0, 0, 0, 0, 0, 0, 0, 130, 1, 165, 189, 159, 177, 12})
	want[0*size+56] = 2
	copy(want[2*size:], long)
	wantDisk(t, d, want)

	commit(t, r, nil)
	copy(want[1*size:], []byte{3, 0, 0, 0, 0, 0, 0, 0, 0, 0, 0, 0, 0, 0})
	want[1*size+56] = 3
	wantDisk(t, d, want)

	commit(t, r, []byte("two"))
	copy(want[0*size:], []byte{4, 0, 0, 0, 0, 0, 0, 0, 3, 225, 231, 230, 233, 9, 0})
	want[0*size+56] = 4
	copy(want[2*size:], "two")
	clear(want[2*size+3 : 3*size])
	wantDisk(t, d, want)
}

// All eight bytes of a generation are written, the least significant first.
func TestLayoutOfAGreatGeneration(t *testing.T) {
	d := filled(t, plain)
	layWhole(t, d, 0x0807060504030201, []byte("x"))
	r := wantOpen(t, d, 0x0807060504030201, []byte("x"))
	commit(t, r, nil)
	want := make([]byte, size)
	copy(want, []byte{2, 2, 3, 4, 5, 6, 7, 8})
	copy(want[56:], []byte{2, 2, 3, 4, 5, 6, 7, 8})
	if s, e := d.Get(0); e != api.OK || !bytes.Equal(s, want) {
		t.Errorf("root sector %v, error %d, want %v", s, e, want)
	}
	wantGen(t, r, 0x0807060504030202)
}

// A Commit writes into the sectors that it needs alone: the generation's bytes at
// the beginning of its area, and its root sector.
func TestCommitLeavesOtherSectors(t *testing.T) {
	for _, n := range []int{4, 5, 6, 7, plain, 11} {
		d := filled(t, n)
		r := wantNone(t, d)
		for gen, l := range []int{0, 1, 64, 65, r.Room() - 1, r.Room(), 0, 3, 3} {
			l = min(l, r.Room())
			was, count := all(t, d), d.Count()
			b := pattern(l, gen)
			commit(t, r, b)
			wantDisk(t, d, written(was, uint64(gen+1), b, writes(l), 0))
			if d.Count()-count != writes(l) {
				t.Errorf("a Commit of %d bytes makes %d writes", l, d.Count()-count)
			}
		}
	}
}

func TestCommitsOneBehindTheOther(t *testing.T) {
	d := newDisk(t, 7)
	r := wantNone(t, d)
	for gen := uint64(1); gen <= 600; gen++ {
		b := pattern(int(gen)%129, int(gen))
		commit(t, r, b)
		if gen%3 == 0 {
			r = wantOpen(t, d, gen, b)
		}
	}
	wantOpen(t, d, 600, pattern(600%129, 600))
}

func TestTooManyBytes(t *testing.T) {
	for _, n := range []int{4, 5, plain, 11} {
		d := newDisk(t, n)
		r := wantNone(t, d)
		for gen := range uint64(3) {
			was, count := all(t, d), d.Count()
			for _, more := range []int{1, 2, 64, 1000} {
				wantErr(t, r.Commit(pattern(r.Room()+more, 1)), api.ErrFull)
			}
			wantGen(t, r, gen)
			wantDisk(t, d, was)
			if d.Count() != count {
				t.Errorf("%d writes, want none", d.Count()-count)
			}
			commit(t, r, pattern(r.Room(), int(gen)))
			wantOpen(t, d, gen+1, pattern(r.Room(), int(gen)))
		}
	}
}

func TestCommitWhilePowerIsOff(t *testing.T) {
	d := newDisk(t, plain)
	r := wantNone(t, d)
	commit(t, r, []byte("one"))
	was := all(t, d)
	fall(d)
	for _, n := range []int{0, 1, 64, 65, 256} {
		wantErr(t, r.Commit(pattern(n, 2)), api.ErrDown)
		wantGen(t, r, 1)
	}
	// ErrFull is named first.
	wantErr(t, r.Commit(pattern(257, 2)), api.ErrFull)
	wantGen(t, r, 1)
	d.Up()
	wantDisk(t, d, was)
	wantOpen(t, d, 1, []byte("one"))
	commit(t, r, []byte("two"))
	wantOpen(t, d, 2, []byte("two"))
}

// No generation of eight bytes follows the greatest one.
func TestCommitBehindTheLastGeneration(t *testing.T) {
	d := newDisk(t, plain)
	layWhole(t, d, math.MaxUint64-1, []byte("last but one"))
	r := wantOpen(t, d, math.MaxUint64-1, []byte("last but one"))
	commit(t, r, []byte("last"))
	wantGen(t, r, math.MaxUint64)
	was := all(t, d)
	for range 2 {
		wantErr(t, r.Commit([]byte("none")), api.ErrFull)
		wantGen(t, r, math.MaxUint64)
		wantDisk(t, d, was)
		r = wantOpen(t, d, math.MaxUint64, []byte("last"))
	}
}

// Several roots.

func TestOpenedAgain(t *testing.T) {
	d := newDisk(t, plain)
	r := wantNone(t, d)
	for gen := uint64(1); gen <= 5; gen++ {
		commit(t, r, pattern(int(50*gen), int(gen)))
		r = wantOpen(t, d, gen, pattern(int(50*gen), int(gen)))
		wantOpen(t, d, gen, pattern(int(50*gen), int(gen)))
	}
}

// Each root has its own generation; the next one of either is that behind its own.
func TestOpenedTwice(t *testing.T) {
	d := newDisk(t, plain)
	a, b := wantNone(t, d), wantNone(t, d)
	commit(t, a, []byte("a1"))
	wantGen(t, b, 0)
	commit(t, b, []byte("b1"))
	wantGen(t, a, 1)
	wantOpen(t, d, 1, []byte("b1"))
	commit(t, a, []byte("a2"))
	wantOpen(t, d, 2, []byte("a2"))
	commit(t, a, []byte("a3"))
	wantGen(t, b, 1)
	commit(t, b, []byte("b2"))
	wantOpen(t, d, 3, []byte("a3"))
	commit(t, b, []byte("b3"))
	wantOpen(t, d, 3, []byte("b3"))
	wantGen(t, a, 3)
}

func TestRootsOfSeveralDisks(t *testing.T) {
	p := power.New()
	c, _ := disk.New(6, p)
	d, _ := disk.New(8, p)
	q, r := wantNone(t, c), wantNone(t, d)
	commit(t, q, []byte("c1"))
	wantGen(t, r, 0)
	wantNone(t, d)
	commit(t, r, []byte("d1"))
	commit(t, r, []byte("d2"))
	wantOpen(t, c, 1, []byte("c1"))
	wantOpen(t, d, 2, []byte("d2"))
	// They have one power.
	q.Plan(2, 0)
	commit(t, r, nil)
	wantErr(t, q.Commit([]byte("c2")), api.ErrDown)
	wantErr(t, r.Commit(nil), api.ErrDown)
	wantRefused(t, d, api.ErrDown)
}

// What is intact, and what isn't.

func TestIntact(t *testing.T) {
	const gen = 5
	few := []byte("five bytes and more")
	sum := uint64(check.Of(few))
	ones := bytes.Repeat([]byte{255}, 4) // their checksum is 2^32 - 1
	full := pattern(256, 8)
	numbers := func(l ...uint64) []byte { return varint.Put(nil, l...) }
	over := []byte{255, 255, 255, 255, 255, 255, 255, 255, 255, 2}
	none := bytes.Repeat([]byte{255}, 48)
	cases := []struct {
		name   string
		b      []byte // in area 1
		s      []byte // root sector 1
		gen    uint64 // 0: nothing is intact
		length int
	}{
		{"whole", few, rootSector(gen, few), gen, len(few)},
		{"the first", few, rootSector(1, few), 1, len(few)},
		{"the last", few, rootSector(math.MaxUint64, few), math.MaxUint64, len(few)},
		{"2^63 and one", few, rootSector(1<<63+1, few), 1<<63 + 1, len(few)},
		{"no bytes", few, rootSector(gen, nil), gen, 0},
		{"generations differ", few, sector(gen, numbers(19, sum), gen+2), 0, 0},
		{"generations differ, the last is greater by 1", few, sector(gen, numbers(19, sum), gen+1), 0, 0},
		{"generations differ, the first is 0", few, sector(0, numbers(19, sum), gen), 0, 0},
		{"generations differ, the last is 0", few, sector(gen, numbers(19, sum), 0), 0, 0},
		{"generations differ in the greatest byte", few, sector(gen, numbers(19, sum), gen+1<<56), 0, 0},
		{"the other sector's", few, rootSector(4, few), 0, 0},
		{"the other sector's, no bytes", few, rootSector(6, nil), 0, 0},
		{"the other sector's, great", few, rootSector(math.MaxUint64-1, few), 0, 0},
		{"generation 0", few, rootSector(0, few), 0, 0},
		{"a length and no sum but bytes 0", few, sector(gen, numbers(19), gen), 0, 0},
		{"no numbers but bytes 0", few, sector(gen, nil, gen), gen, 0},
		{"no first number", few, sector(gen, none, gen), 0, 0},
		{"no second number", few, sector(gen, append(numbers(19), none[1:]...), gen), 0, 0},
		{"no second number, for no bytes", nil, sector(gen, append(numbers(0), none[1:]...), gen), 0, 0},
		{"a first number of more than 64 bits", few, sector(gen, append(over, numbers(sum)...), gen), 0, 0},
		{"a second number of more than 64 bits", few, sector(gen, append(numbers(19), over...), gen), 0, 0},
		{"a first number with a digit 0 too many", few, sector(gen, append([]byte{147, 0}, numbers(sum)...), gen), 0, 0},
		{"a second number with a digit 0 too many", nil, sector(gen, []byte{0, 128, 0}, gen), 0, 0},
		{"a length of one less", few, sector(gen, numbers(18, sum), gen), 0, 0},
		{"a length of one more", few, sector(gen, numbers(20, sum), gen), 0, 0},
		{"a length of 0", few, sector(gen, numbers(0, sum), gen), 0, 0},
		{"a length of 2^63", few, sector(gen, numbers(1<<63, sum), gen), 0, 0},
		{"a length of 2^64 - 1", few, sector(gen, numbers(math.MaxUint64, sum), gen), 0, 0},
		{"a length of 2^32 and more", few, sector(gen, numbers(1<<32+19, sum), gen), 0, 0},
		{"the area's size", full, rootSector(gen, full), gen, 256},
		{"the area's size and one", full, sector(gen, numbers(257, uint64(check.Of(full, []byte{0}))), gen), 0, 0},
		{"a length of 257, the sum of 256", full, sector(gen, numbers(257, uint64(check.Of(full))), gen), 0, 0},
		{"another sum", few, sector(gen, numbers(19, sum+1), gen), 0, 0},
		{"a sum of 0", few, sector(gen, numbers(19, 0), gen), 0, 0},
		{"a sum of no bytes", few, sector(gen, numbers(0, 1), gen), 0, 0},
		{"a sum of 2^32 - 1", ones, sector(gen, numbers(4, 1<<32-1), gen), gen, 4},
		{"a sum of 2^32 - 1 that is 0", nil, sector(gen, numbers(0, 1<<32-1), gen), 0, 0},
		{"a sum of 2^32", nil, sector(gen, numbers(0, 1<<32), gen), 0, 0},
		{"a sum of 2^33 - 1", ones, sector(gen, numbers(4, 1<<33-1), gen), 0, 0},
		{"a sum that is too great by 2^32", few, sector(gen, numbers(19, sum+1<<32), gen), 0, 0},
		{"a sum of 2^64 - 1", ones, sector(gen, numbers(4, math.MaxUint64), gen), 0, 0},
		{"a sector of bytes 0", few, make([]byte, size), 0, 0},
		{"a sector of bytes 255", few, bytes.Repeat([]byte{255}, size), 0, 0},
	}
	for _, c := range cases {
		t.Run(c.name, func(t *testing.T) {
			d := newDisk(t, plain)
			lay(t, d, 1, c.b, c.s)
			was := all(t, d)
			if c.gen == 0 {
				commit(t, wantNone(t, d), []byte("next"))
				wantOpen(t, d, 1, []byte("next"))
			} else {
				wantOpen(t, d, c.gen, c.b[:c.length])
			}
			// Beside one that is intact, the greater one is opened.
			d = newDisk(t, plain)
			wantErr(t, d.PutAll(0, was), api.OK)
			layWhole(t, d, 2, []byte("two"))
			if c.gen > 2 {
				wantOpen(t, d, c.gen, c.b[:c.length])
			} else {
				wantOpen(t, d, 2, []byte("two"))
			}
		})
	}
}

// The same of sector 0: to it belong other generations, and the other area.
func TestIntactInSector0(t *testing.T) {
	b := []byte("bytes")
	for gen, whole := range map[uint64]bool{0: false, 1: false, 2: true, 3: false, 4: true, 1 << 63: true, math.MaxUint64: false, math.MaxUint64 - 1: true} {
		d := newDisk(t, plain)
		lay(t, d, 0, b, rootSector(gen, b))
		if whole {
			wantOpen(t, d, gen, b)
		} else {
			wantNone(t, d)
		}
		d = newDisk(t, plain)
		lay(t, d, 0, nil, rootSector(gen, nil))
		if whole {
			wantOpen(t, d, gen, nil)
		} else {
			wantNone(t, d)
		}
	}
}

// Its bytes are those of its own area, not those of the other one.
func TestBytesOfTheOtherArea(t *testing.T) {
	for _, n := range []int{4, 5, 6, 7, plain, 11} {
		for _, gen := range []uint64{2, 3} {
			b := []byte("bytes")
			d := newDisk(t, n)
			i := int(gen % 2)
			lay(t, d, 1-i, b, make([]byte, size))
			wantErr(t, d.Put(i, rootSector(gen, b)), api.OK)
			wantNone(t, d)
			lay(t, d, i, b, rootSector(gen, b))
			wantOpen(t, d, gen, b)
		}
	}
}

// More bytes than the area's are none of the generation's, also where the disk has
// more behind the area, and these have the checksum.
func TestLengthBeyondTheArea(t *testing.T) {
	for _, n := range []int{4, 5, 6, 7, plain, 11} {
		room := (n - 2) / 2 * size
		for _, gen := range []uint64{2, 3} {
			d := filled(t, n)
			was := all(t, d)
			behind := was[areaOf(n, int(gen%2))*size:]
			for _, l := range []int{room - 1, room, room + 1, room + 2, room + 64, 2 * room, len(behind)} {
				if l > len(behind) {
					continue
				}
				wantErr(t, d.Put(int(gen%2), rootSector(gen, behind[:l])), api.OK)
				if l > room {
					wantNone(t, d)
				} else {
					wantOpen(t, d, gen, behind[:l])
				}
			}
		}
	}
}

// One byte of the area that is another one: its bytes count, those behind them don't.
func TestAnotherByteOfTheArea(t *testing.T) {
	for _, gen := range []uint64{6, 7} {
		for _, n := range []int{0, 1, 64, 100, 256} {
			b := pattern(n, 4)
			d := filled(t, plain)
			layWhole(t, d, gen, b)
			layWhole(t, d, gen-1, []byte("earlier"))
			from := areaOf(plain, int(gen%2)) * size
			for at := range 256 {
				for _, by := range []byte{1, 128, 255} {
					spoil(t, d, from+at, by)
					if at < n {
						wantOpen(t, d, gen-1, []byte("earlier"))
					} else {
						wantOpen(t, d, gen, b)
					}
					spoil(t, d, from+at, by)
				}
			}
			wantOpen(t, d, gen, b)
		}
	}
}

// One byte of the root sector that is another one: the generations and the numbers
// count; what is between them isn't asked for.
func TestAnotherByteOfTheRootSector(t *testing.T) {
	for _, gen := range []uint64{6, 7, 300, 1<<40 + 1} {
		for _, n := range []int{0, 1, 100, 256} {
			b := pattern(n, 4)
			d := filled(t, plain)
			layWhole(t, d, gen, b)
			layWhole(t, d, gen-1, []byte("earlier"))
			numbers := len(varint.Put(nil, uint64(n), uint64(check.Of(b))))
			for at := range size {
				for _, by := range []byte{1, 2, 128, 255} {
					spoil(t, d, int(gen%2)*size+at, by)
					if at < 8+numbers || at >= 56 {
						wantOpen(t, d, gen-1, []byte("earlier"))
					} else {
						wantOpen(t, d, gen, b)
					}
					spoil(t, d, int(gen%2)*size+at, by)
				}
			}
			wantOpen(t, d, gen, b)
		}
	}
}

func TestTheGreaterOfTwo(t *testing.T) {
	for _, c := range [][2]uint64{{1, 2}, {2, 1}, {2, 3}, {8, 3}, {3, 100}, {255, 256}, {256, 255}, {256, 257}, {511, 256}, {65536, 65535}, {1 << 32, 1<<32 - 1}, {1, 1 << 32}, {1<<63 - 1, 1 << 63}, {1, 1 << 63}, {1<<63 + 1, 2}, {math.MaxUint64, math.MaxUint64 - 1}, {math.MaxUint64, 2}} {
		d := newDisk(t, 7)
		layWhole(t, d, c[0], []byte("first"))
		layWhole(t, d, c[1], []byte("second"))
		great, small := []byte("first"), []byte("second")
		if c[1] > c[0] {
			great, small = small, great
		}
		gen, other := max(c[0], c[1]), min(c[0], c[1])
		wantOpen(t, d, gen, great)
		// The greater one spoilt, and both of them.
		spoil(t, d, areaOf(7, int(gen%2))*size, 1)
		r := wantOpen(t, d, other, small)
		both := copyOf(t, d)
		spoil(t, both, int(other%2)*size+60, 1)
		wantNone(t, both)
		// The next one takes the place of the spoilt one.
		commit(t, r, []byte("next"))
		wantOpen(t, d, other+1, []byte("next"))
	}
}

func TestTheSmallerSpoilt(t *testing.T) {
	d := newDisk(t, plain)
	layWhole(t, d, 8, []byte("eight"))
	layWhole(t, d, 9, []byte("nine"))
	spoil(t, d, areaOf(plain, 0)*size, 1)
	r := wantOpen(t, d, 9, []byte("nine"))
	commit(t, r, []byte("ten"))
	wantOpen(t, d, 10, []byte("ten"))
}

// Wrong inputs: disks that no root has written.
func TestDisksOfOtherBytes(t *testing.T) {
	var disks []*disk.Disk
	for c := 1; c < 256; c++ {
		// Of these, the generations are equal, and half of them belong to their sector.
		d := newDisk(t, 4+c%5)
		wantErr(t, d.PutAll(0, bytes.Repeat([]byte{byte(c)}, d.Len()*size)), api.OK)
		disks = append(disks, d)
	}
	for _, n := range []int{4, 5, 6, 7, plain, 100} {
		disks = append(disks, filled(t, n))
	}
	for _, d := range disks {
		r := wantNone(t, d)
		for gen := uint64(1); gen <= 3; gen++ {
			commit(t, r, pattern(60, int(gen)))
			r = wantOpen(t, d, gen, pattern(60, int(gen)))
		}
	}
}

// A spoilt generation is no bound: the one behind the opened one may be as great.
func TestCommitBehindSpoiltGenerations(t *testing.T) {
	d := newDisk(t, plain)
	layWhole(t, d, 20, []byte("twenty"))
	layWhole(t, d, 21, []byte("twenty-one"))
	spoil(t, d, 0, 1)
	spoil(t, d, size, 2)
	r := wantNone(t, d)
	commit(t, r, []byte("one"))
	wantOpen(t, d, 1, []byte("one"))
	commit(t, r, []byte("two"))
	wantOpen(t, d, 2, []byte("two"))
}

// Power fails.

// history is what the Commits of the tests below put, one behind the other.
var history = [][]byte{
	pattern(3, 1), pattern(64, 2), nil, pattern(65, 3), pattern(130, 4),
	pattern(256, 5), pattern(256, 6), pattern(1, 7), nil, pattern(200, 8),
}

// latest is the bytes of a generation.
func latest(gen int) []byte {
	if gen == 0 {
		return nil
	}
	return history[gen-1]
}

// begun is a disk with so many Commits of the history.
func begun(t *testing.T, d *disk.Disk, n int) *root.Root {
	t.Helper()
	r := wantNone(t, d)
	for _, b := range history[:n] {
		commit(t, r, b)
	}
	return r
}

// wantState opens a disk whose generation may be 0.
func wantState(t *testing.T, d *disk.Disk, gen int) *root.Root {
	t.Helper()
	if gen == 0 {
		return wantNone(t, d)
	}
	return wantOpen(t, d, uint64(gen), latest(gen))
}

// goOn makes the Commits of the history behind a generation, and opens each.
func goOn(t *testing.T, r *root.Root, gen int) {
	t.Helper()
	wantGen(t, r, uint64(gen))
	for gen < len(history) {
		commit(t, r, history[gen])
		gen++
		wantState(t, r.Disk, gen)
	}
}

// During each Commit, at each of its writes, after each number of bytes: the error,
// the generation that stays, what is on the disk, what is opened, and what follows.
func TestPowerFailsAtEachByte(t *testing.T) {
	for before := range len(history) {
		b := history[before]
		for after := range writes(len(b)) {
			for torn := -1; torn <= size+1; torn++ {
				d := newDisk(t, plain)
				r := begun(t, d, before)
				want := written(all(t, d), uint64(before+1), b, after, torn)
				d.Plan(after, torn)
				wantErr(t, r.Commit(b), api.ErrDown)
				wantGen(t, r, uint64(before))
				if d.On() {
					t.Fatalf("%d, %d, %d: power is on", before, after, torn)
				}
				wantRefused(t, d, api.ErrDown)
				d.Up()
				wantDisk(t, d, want)
				// The root sector is there as soon as the first byte of the last generation
				// is: its other bytes are what they were.
				gen := before
				if after == writes(len(b))-1 && torn > 56 {
					gen++
				}
				opened := wantState(t, d, gen)
				// The root that failed goes on behind its own generation.
				same := copyOf(t, d)
				goOn(t, opened, gen)
				wantErr(t, d.PutAll(0, all(t, same)), api.OK)
				goOn(t, r, before)
				if t.Failed() {
					t.Fatalf("Commit %d, write %d, %d bytes", before+1, after, torn)
				}
			}
		}
	}
}

// A plan that none of a Commit's writes reaches lets it be.
func TestPowerFailsBehindACommit(t *testing.T) {
	for before, b := range history {
		d := newDisk(t, plain)
		r := begun(t, d, before)
		d.Plan(writes(len(b)), 0)
		commit(t, r, b)
		if !d.On() {
			t.Errorf("Commit %d makes too many writes", before+1)
		}
		wantErr(t, r.Commit(nil), api.ErrDown)
		d.Up()
		wantState(t, d, before+1)
	}
}

// Generations of which more than one byte changes.
func TestPowerFailsAtACarry(t *testing.T) {
	for _, gen := range []uint64{254, 255, 256, 257, 65534, 65535, 1<<16 + 1, 1<<32 - 2, 1<<32 - 1, 1 << 32, 1<<56 - 1, 1<<63 - 1, math.MaxUint64 - 1} {
		b := pattern(70, 5)
		base := newDisk(t, 6)
		layWhole(t, base, gen-1, []byte("before"))
		layWhole(t, base, gen, []byte("now"))
		was := all(t, base)
		whole := written(was, gen+1, b, 3, 0)
		for after := range 3 {
			for torn := range size + 1 {
				d := copyOf(t, base)
				r := wantOpen(t, d, gen, []byte("now"))
				d.Plan(after, torn)
				wantErr(t, r.Commit(b), api.ErrDown)
				wantGen(t, r, gen)
				d.Up()
				if bytes.Equal(all(t, d), whole) {
					wantOpen(t, d, gen+1, b)
					continue
				}
				wantDisk(t, d, written(was, gen+1, b, after, torn))
				r = wantOpen(t, d, gen, []byte("now"))
				commit(t, r, []byte("next"))
				wantOpen(t, d, gen+1, []byte("next"))
			}
		}
	}
}

// Power fails twice, with an Open between, and without one. With one, the second
// Commit stands on what was opened.
func TestPowerFailsTwice(t *testing.T) {
	first, second := pattern(70, 11), pattern(100, 12)
	for cut := range 3 * (size + 1) {
		base := newDisk(t, 6)
		r := begun(t, base, 2)
		base.Plan(cut/(size+1), cut%(size+1))
		wantErr(t, r.Commit(first), api.ErrDown)
		base.Up()
		for again := range 3 * (size + 1) {
			for _, anew := range []bool{true, false} {
				failTwice(t, base, first, second, again, anew)
			}
		}
		if t.Failed() {
			t.Fatalf("the first failed at write %d, byte %d", cut/(size+1), cut%(size+1))
		}
	}
}

// failTwice lets the second Commit fail, on a copy of a disk on which the first one
// failed behind generation 2.
func failTwice(t *testing.T, base *disk.Disk, first, second []byte, again int, anew bool) {
	t.Helper()
	d := copyOf(t, base)
	r, was, _ := root.Open(d)
	if !anew {
		// A root of generation 2, as the first Commit left it.
		spoil(t, d, size, 1)
		r = wantOpen(t, d, 2, history[1])
		spoil(t, d, size, 1)
	}
	gen := r.Gen()
	d.Plan(again/(size+1), again%(size+1))
	wantErr(t, r.Commit(second), api.ErrDown)
	wantGen(t, r, gen)
	d.Up()
	_, b, e := root.Open(d)
	ok := bytes.Equal(b, was) || bytes.Equal(b, second) || !anew && (bytes.Equal(b, first) || bytes.Equal(b, history[1]))
	if e != api.OK || !ok {
		t.Fatalf("the second failed at write %d, byte %d, opened again %t: bytes %v, error %d", again/(size+1), again%(size+1), anew, b, e)
	}
	commit(t, r, second)
	wantOpen(t, d, gen+1, second)
}

// The Commit that comes behind one that failed has the same generation, and may have
// other bytes, fewer or more.
func TestCommitBehindAFailure(t *testing.T) {
	for _, n := range []int{0, 1, 64, 130, 256} {
		for after := range 4 {
			d := newDisk(t, plain)
			r := begun(t, d, 3)
			d.Plan(after, 20)
			wantErr(t, r.Commit(pattern(192, 13)), api.ErrDown)
			wantErr(t, r.Commit(pattern(192, 13)), api.ErrDown)
			wantGen(t, r, 3)
			d.Up()
			was := all(t, d)
			commit(t, r, pattern(n, 14))
			wantDisk(t, d, written(was, 4, pattern(n, 14), writes(n), 0))
			wantOpen(t, d, 4, pattern(n, 14))
		}
	}
}

// A root that isn't there, and ones that Open didn't return.

func TestNil(t *testing.T) {
	var r *root.Root
	if r.Room() != 0 || r.Gen() != 0 {
		t.Errorf("Room() = %d, Gen() = %d, want 0, 0", r.Room(), r.Gen())
	}
	for _, b := range [][]byte{nil, {}, {1}, pattern(65, 1), make([]byte, 1<<20)} {
		wantErr(t, r.Commit(b), api.ErrArg)
	}
}

func TestOtherRootsDoNotPanic(t *testing.T) {
	for _, d := range []*disk.Disk{nil, new(disk.Disk), newDisk(t, 1), newDisk(t, 2), newDisk(t, 3)} {
		r := &root.Root{Disk: d}
		if r.Room() != 0 || r.Gen() != 0 {
			t.Errorf("Room() = %d, Gen() = %d, want 0, 0", r.Room(), r.Gen())
		}
		r.Commit(nil)
		wantErr(t, r.Commit([]byte{1}), api.ErrFull)
	}
}

// Arguments and results share no memory with the disk.

func TestBytesAreNeitherKeptNorChanged(t *testing.T) {
	d := newDisk(t, plain)
	r := wantNone(t, d)
	for gen := uint64(1); gen <= 4; gen++ {
		for _, plan := range []int{-1, 0, 1, 2} {
			room := pattern(200, int(gen))
			b := room[:100]
			d.Plan(plan, 30)
			if e := r.Commit(b); (e == api.OK) != (plan < 0) {
				t.Errorf("plan %d: error %d", plan, e)
			}
			d.Up()
			if !bytes.Equal(room, pattern(200, int(gen))) {
				t.Errorf("Commit changes what it is given: %v", room)
			}
			was := all(t, d)
			clear(room)
			wantDisk(t, d, was)
			if plan < 0 {
				r = wantOpen(t, d, gen, pattern(100, int(gen)))
				break
			}
		}
	}
	room := pattern(300, 9)
	wantErr(t, r.Commit(room), api.ErrFull)
	if !bytes.Equal(room, pattern(300, 9)) {
		t.Error("Commit changes what it refuses")
	}
}

// What lies behind the bytes that are passed, up to their capacity, is not read.
func TestBytesBehindTheLength(t *testing.T) {
	for n := range 130 {
		c, d := newDisk(t, plain), newDisk(t, plain)
		commit(t, wantNone(t, c), pattern(256, 3)[:n])
		commit(t, wantNone(t, d), slices.Clip(pattern(256, 3)[:n]))
		wantDisk(t, c, all(t, d))
		wantOpen(t, c, 1, pattern(n, 3))
	}
}

func TestResultsAreNew(t *testing.T) {
	d := newDisk(t, plain)
	want := pattern(100, 6)
	commit(t, wantNone(t, d), want)
	was := all(t, d)
	r, b, _ := root.Open(d)
	_, c, _ := root.Open(d)
	clear(b)
	clear(append(b, make([]byte, cap(b)-len(b))...))
	wantDisk(t, d, was)
	if !bytes.Equal(c, want) {
		t.Error("two Opens share memory")
	}
	wantOpen(t, d, 1, want)
	// What was opened may be committed, and what is opened then is other memory.
	commit(t, r, c)
	clear(c)
	wantOpen(t, d, 2, want)
	// A Commit doesn't change what was opened.
	r, b, _ = root.Open(d)
	commit(t, r, pattern(100, 7))
	commit(t, r, pattern(100, 8))
	if !bytes.Equal(b, want) {
		t.Error("a Commit changes what was opened")
	}
}

// A model, by the chapter's words, on a disk of its own.

type model struct {
	*disk.Disk
	gen uint64
}

// find is the greatest intact generation of a disk's bytes, and its bytes.
func find(b []byte) (uint64, []byte) {
	room := (len(b)/size - 2) / 2 * size
	var gen uint64
	var found []byte
	for i := range 2 {
		s := b[i*size : (i+1)*size]
		var g uint64
		for k := 7; k >= 0; k-- {
			g = g*256 + uint64(s[k])
		}
		if !bytes.Equal(s[:8], s[56:]) || int(g%2) != i || g <= gen {
			continue
		}
		n, k, e := varint.Next(s[8:56])
		if e != api.OK || n > uint64(room) {
			continue
		}
		sum, _, e := varint.Next(s[8+k : 56])
		area := b[2*size+i*room:][:n]
		if e == api.OK && sum < 1<<32 && check.Of(area) == uint32(sum) {
			gen, found = g, area
		}
	}
	return gen, found
}

func (m *model) open() ([]byte, api.Errno) {
	b, e := m.GetAll(0, m.Len()*size)
	if e != api.OK {
		return nil, e
	}
	gen, found := find(b)
	m.gen = gen
	if gen == 0 {
		return nil, api.ErrNone
	}
	return found, api.OK
}

func (m *model) commit(b []byte) api.Errno {
	if len(b) > (m.Len()-2)/2*size {
		return api.ErrFull
	}
	gen := m.gen + 1
	at := areaOf(m.Len(), int(gen%2))
	for part := range slices.Chunk(b, size) {
		if e := m.Put(at, part); e != api.OK {
			return e
		}
		at++
	}
	if e := m.Put(int(gen%2), rootSector(gen, b)); e != api.OK {
		return e
	}
	m.gen = gen
	return api.OK
}

// run makes a call of each three bytes, and compares it with a model; Open is made
// on another root too, which is then the one that is used.
func run(t *testing.T, n int, calls []byte) string {
	d, m := newDisk(t, n), &model{Disk: newDisk(t, n)}
	r := wantNone(t, d)
	var told []byte
	for c := range slices.Chunk(calls, 3) {
		if len(c) < 3 {
			break
		}
		x, y := int(c[1]), int(c[2])
		switch c[0] % 8 {
		case 0, 1, 2:
			b := pattern(x%(r.Room()+3), y)
			e, want := r.Commit(b), m.commit(b)
			wantErr(t, e, want)
			told = fmt.Append(told, e)
		case 3:
			d.Plan(x%6-1, y)
			m.Plan(x%6-1, y)
		case 4:
			d.Up()
			m.Up()
		case 5, 6:
			q, b, e := root.Open(d)
			found, want := m.open()
			if e != want || !bytes.Equal(b, found) || (q == nil) != (e == api.ErrDown) {
				t.Fatalf("Open: bytes %v, error %d, want %v, %d", b, e, found, want)
			}
			if q != nil {
				r = q
			}
			told = fmt.Append(told, b, e)
		case 7:
			spoilBoth(d, m.Disk, x%n, y)
		}
		wantLike(t, r, m)
		told = fmt.Append(told, r.Gen(), d.Count())
	}
	return string(told)
}

// spoilBoth puts a byte that is another one into a sector of both disks.
func spoilBoth(c, d *disk.Disk, i, y int) {
	for _, x := range []*disk.Disk{c, d} {
		if s, e := x.Get(i); e == api.OK {
			s[y%size] ^= byte(1 + y/size)
			x.Put(i, s)
		}
	}
}

// wantLike holds a root and its disk against the model's.
func wantLike(t *testing.T, r *root.Root, m *model) {
	t.Helper()
	wantGen(t, r, m.gen)
	if r.On() != m.On() || r.Count() != m.Count() {
		t.Fatalf("On() = %t, Count() = %d, want %t, %d", r.On(), r.Count(), m.On(), m.Count())
	}
	if r.On() {
		wantDisk(t, r.Disk, all(t, m.Disk))
	}
}

// calls is n calls without a plain pattern, the same ones each time.
func calls(n int, seed uint32) []byte {
	b := make([]byte, 3*n)
	for i := range b {
		seed = seed*1664525 + 1013904223
		b[i] = byte(seed >> 24)
	}
	return b
}

func TestManyCalls(t *testing.T) {
	for seed := range uint32(60) {
		run(t, 4+int(seed%9), calls(300, seed))
	}
}

// The results depend on the arguments and on the earlier calls on the same disk alone (P2).
func TestSameCallsAgain(t *testing.T) {
	for seed := range uint32(10) {
		first := run(t, 8, calls(200, seed))
		run(t, 5, calls(50, seed+1))
		if run(t, 8, calls(200, seed)) != first {
			t.Errorf("other results of the calls of seed %d", seed)
		}
	}
}

func FuzzCalls(f *testing.F) {
	f.Add(uint8(4), calls(20, 1))
	f.Add(uint8(0), calls(20, 2))
	f.Add(uint8(6), []byte{})
	f.Fuzz(func(t *testing.T, n uint8, b []byte) { run(t, 4+int(n%9), b) })
}

// FuzzOpen opens a disk that begins with any bytes, as a model does.
func FuzzOpen(f *testing.F) {
	f.Add(uint8(0), []byte{})
	f.Add(uint8(0), slices.Concat(rootSector(2, []byte("two")), rootSector(1, nil), []byte("two")))
	f.Add(uint8(1), slices.Concat(rootSector(2, []byte("two")), rootSector(3, []byte("three")), make([]byte, size), []byte("three")))
	f.Fuzz(func(t *testing.T, n uint8, b []byte) {
		d := newDisk(t, 4+int(n%9))
		wantErr(t, d.PutAll(0, b[:min(len(b), d.Len()*size)]), api.OK)
		gen, found := find(all(t, d))
		r := wantLikeFound(t, d, gen, found)
		if gen < math.MaxUint64 {
			commit(t, r, b[:min(len(b), r.Room())])
			wantOpen(t, d, gen+1, b[:min(len(b), r.Room())])
		}
	})
}

func wantLikeFound(t *testing.T, d *disk.Disk, gen uint64, b []byte) *root.Root {
	t.Helper()
	if gen == 0 {
		return wantNone(t, d)
	}
	return wantOpen(t, d, gen, b)
}

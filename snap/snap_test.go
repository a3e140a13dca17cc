package snap_test

import (
	"bytes"
	"fmt"
	"maps"
	"math"
	"slices"
	"testing"

	"revenant/api"
	"revenant/disk"
	"revenant/extent"
	"revenant/image"
	"revenant/power"
	"revenant/root"
	"revenant/snap"
	"revenant/varint"
)

const size = api.Sector

// plain is a disk with room for 19 sectors, those of some images of few blocks.
const plain = 40

// great is a disk with room for 33 images without a hole.
const great = 10000

// noSnapshots are numbers that no snapshot has.
var noSnapshots = []int{-1, -2, -32, math.MinInt, math.MaxInt, 1 << 32}

// A model, by the chapter's words.

type blocks map[int][32]byte

type model struct {
	image blocks
	last  int
	snaps map[int]blocks
}

func newModel() *model { return &model{image: blocks{}, snaps: map[int]blocks{}} }

// clone is a model of its own; snapshots never change, so both may have the same.
func (m *model) clone() *model {
	return &model{maps.Clone(m.image), m.last, maps.Clone(m.snaps)}
}

func (m *model) ids() []int { return slices.Sorted(maps.Keys(m.snaps)) }

// of is the blocks that Image returns.
func (m *model) of(id int) (blocks, bool) {
	if id == 0 {
		return m.image, true
	}
	x, ok := m.snaps[id]
	return x, ok
}

// number is a number's bytes.
func number(n int) []byte {
	var b []byte
	for n > 127 {
		b = append(b, byte(128+n%128))
		n /= 128
	}
	return append(b, byte(n))
}

// imageBytes is an image's bytes: a string of the runs of its blocks' numbers, and
// of its blocks.
func imageBytes(m blocks) []byte {
	var runs, data []byte
	count, to := 0, 0
	for i := 0; i < 256; i++ {
		from := i
		for x, ok := m[i]; ok; x, ok = m[i] {
			data = append(data, x[:]...)
			i++
		}
		if i > from {
			runs = slices.Concat(runs, number(from-to), number(i-from))
			count++
			to = i
		}
	}
	s := slices.Concat(number(count), runs, data)
	return append(number(len(s)), s...)
}

func (m *model) bytes() []byte {
	b := slices.Concat(imageBytes(m.image), number(m.last), number(len(m.snaps)))
	for _, id := range m.ids() {
		b = slices.Concat(b, number(id), imageBytes(m.snaps[id]))
	}
	return b
}

// op is a change.
type op struct {
	what int
	i    int
	b    []byte
}

const (
	opSet = iota
	opCreate
	opDelete
)

func set(i int, b ...byte) op { return op{opSet, i, b} }
func create() op              { return op{what: opCreate} }
func remove(id int) op        { return op{opDelete, id, nil} }

// next is the model behind a change, and the number that is returned.
func (m *model) next(o op) (*model, int, api.Errno) {
	n := m.clone()
	switch o.what {
	case opSet:
		if o.i < 0 || o.i > 255 || len(o.b) > 32 {
			return nil, 0, api.ErrArg
		}
		if len(o.b) == 0 {
			delete(n.image, o.i)
			return n, 0, api.OK
		}
		var x [32]byte
		copy(x[:], o.b)
		n.image[o.i] = x
		return n, 0, api.OK
	case opCreate:
		if len(n.snaps) == 32 {
			return nil, 0, api.ErrFull
		}
		n.last++
		n.snaps[n.last] = maps.Clone(n.image)
		return n, n.last, api.OK
	}
	if _, ok := n.snaps[o.i]; !ok {
		return nil, 0, api.ErrNone
	}
	delete(n.snaps, o.i)
	return n, 0, api.OK
}

// do makes a change on a store.
func do(s *snap.Store, o op) (int, api.Errno) {
	switch o.what {
	case opSet:
		return 0, s.Set(o.i, o.b...)
	case opCreate:
		return s.Create()
	}
	return 0, s.Delete(o.i)
}

// What the tests share.

func newDisk(t *testing.T, n int) *disk.Disk {
	t.Helper()
	d, e := disk.New(n, power.New())
	if e != api.OK {
		t.Fatalf("disk.New(%d): error %d", n, e)
	}
	return d
}

// fall turns a disk's power off, without a write to it.
func fall(d *disk.Disk) {
	d.Plan(0, 0)
	d.Write(1)
}

// all is a disk's bytes; power must be on.
func all(t *testing.T, d *disk.Disk) []byte {
	t.Helper()
	b, e := d.GetAll(0, d.Len()*size)
	wantErr(t, e, api.OK)
	return b
}

// copyOf is a disk of its own, with the same bytes.
func copyOf(t *testing.T, d *disk.Disk) *disk.Disk {
	t.Helper()
	c := newDisk(t, d.Len())
	wantErr(t, c.PutAll(0, all(t, d)), api.OK)
	return c
}

// pattern is n bytes, none of them 0.
func pattern(n, seed int) []byte {
	b := make([]byte, n)
	for i := range b {
		b[i] = byte(1 + (seed*31+i)%251)
	}
	return b
}

func open(t *testing.T, d *disk.Disk) *snap.Store {
	t.Helper()
	s, e := snap.Open(d)
	if s == nil || e != api.OK {
		t.Fatalf("Open: store %v, error %d, want one, OK", s, e)
	}
	return s
}

func wantErr(t *testing.T, e, want api.Errno) {
	t.Helper()
	if e != want {
		t.Errorf("error %d, want %d", e, want)
	}
}

func wantRefused(t *testing.T, d *disk.Disk, want api.Errno) {
	t.Helper()
	if s, e := snap.Open(d); s != nil || e != want {
		t.Errorf("Open: store %v, error %d, want nil, %d", s, e, want)
	}
}

// bytesOf is the bytes that the root of a disk has, or ErrNone; power must be on.
func bytesOf(t *testing.T, d *disk.Disk) ([]byte, api.Errno) {
	t.Helper()
	_, b, e := root.Open(d)
	if e != api.ErrNone {
		wantErr(t, e, api.OK)
	}
	return b, e
}

func wantBytes(t *testing.T, d *disk.Disk, want []byte) {
	t.Helper()
	got, e := bytesOf(t, d)
	if e != api.OK || !bytes.Equal(got, want) {
		t.Fatalf("the root's bytes are\n%v, error %d, want\n%v", got, e, want)
	}
}

func wantImage(t *testing.T, m *image.Image, want blocks) {
	t.Helper()
	if m == nil {
		t.Fatal("no image")
	}
	if !bytes.Equal(m.Bytes(), imageBytes(want)) {
		t.Fatalf("image of\n%v, want\n%v", m.Bytes(), imageBytes(want))
	}
}

// wantImageOf asks the store for an image.
func wantImageOf(t *testing.T, s *snap.Store, id int, want blocks) {
	t.Helper()
	m, e := s.Image(id)
	wantErr(t, e, api.OK)
	wantImage(t, m, want)
}

func wantNoImage(t *testing.T, s *snap.Store, id int, want api.Errno) {
	t.Helper()
	if m, e := s.Image(id); m != nil || e != want {
		t.Errorf("Image(%d): image %v, error %d, want nil, %d", id, m, e, want)
	}
}

func wantList(t *testing.T, s *snap.Store, want ...int) {
	t.Helper()
	if l := s.List(); !slices.Equal(l, want) {
		t.Errorf("List() = %v, want %v", l, want)
	}
}

func wantDiff(t *testing.T, s *snap.Store, id, base int, put, gone extent.Set) {
	t.Helper()
	p, g, e := s.Diff(id, base)
	if e != api.OK || !slices.Equal(p, put) || !slices.Equal(g, gone) {
		t.Errorf("Diff(%d, %d) = %v, %v, error %d, want %v, %v, OK", id, base, p, g, e, put, gone)
	}
}

func wantNoDiff(t *testing.T, s *snap.Store, id, base int, want api.Errno) {
	t.Helper()
	if p, g, e := s.Diff(id, base); e != want || len(p) != 0 || len(g) != 0 {
		t.Errorf("Diff(%d, %d) = %v, %v, error %d, want nothing, %d", id, base, p, g, e, want)
	}
}

// wantState holds what a store returns against a model.
func wantState(t *testing.T, s *snap.Store, m *model) {
	t.Helper()
	wantList(t, s, m.ids()...)
	wantImageOf(t, s, 0, m.image)
	for id, x := range m.snaps {
		wantImageOf(t, s, id, x)
	}
	for _, id := range []int{m.last + 1, m.last + 2, -1} {
		wantNoImage(t, s, id, api.ErrNone)
	}
}

// wantOpened opens a store that is what a model is.
func wantOpened(t *testing.T, d *disk.Disk, m *model) *snap.Store {
	t.Helper()
	s := open(t, d)
	wantState(t, s, m)
	return s
}

// setBlock, setHole, newSnapshot and forget make a change that succeeds.
func setBlock(t *testing.T, s *snap.Store, i int, b ...byte) {
	t.Helper()
	wantErr(t, s.Set(i, b...), api.OK)
}

func setHole(t *testing.T, s *snap.Store, i int) {
	t.Helper()
	wantErr(t, s.Set(i), api.OK)
}

func newSnapshot(t *testing.T, s *snap.Store, want int) {
	t.Helper()
	if id, e := s.Create(); id != want || e != api.OK {
		t.Fatalf("Create() = %d, %d, want %d, OK", id, e, want)
	}
}

func forget(t *testing.T, s *snap.Store, id int) {
	t.Helper()
	wantErr(t, s.Delete(id), api.OK)
}

// change makes a change that succeeds, on a store and on a model.
func change(t *testing.T, s *snap.Store, m *model, o op) *model {
	t.Helper()
	n, want, e := m.next(o)
	if e != api.OK {
		t.Fatalf("a change %v with error %d", o, e)
	}
	if id, e := do(s, o); id != want || e != api.OK {
		t.Fatalf("change %v: %d, %d, want %d, OK", o, id, e, want)
	}
	return n
}

// wantNoChange makes a change that fails: its error, and nothing that is different.
func wantNoChange(t *testing.T, s *snap.Store, m *model, o op, want api.Errno) {
	t.Helper()
	gen, count, on := s.Gen(), s.Count(), s.On()
	if id, e := do(s, o); id != 0 || e != want {
		t.Errorf("change %v: %d, error %d, want 0, %d", o, id, e, want)
	}
	if s.Gen() != gen || s.Count() != count || s.On() != on {
		t.Errorf("change %v: generation %d, %d writes, on %t, want %d, %d, %t", o, s.Gen(), s.Count(), s.On(), gen, count, on)
	}
	wantState(t, s, m)
	if on && gen > 0 {
		wantBytes(t, s.Disk, m.bytes())
	}
}

// history is changes of every kind, one behind the other, on a disk of plain sectors.
var history = []op{
	set(3, 7), set(3), create(), set(0, pattern(32, 1)...), set(1, 1), create(), set(0, pattern(32, 2)...),
	create(), remove(2), set(255, 5), set(1), set(9), create(), remove(4), create(), remove(1), set(2, 0), remove(3), create(),
}

// begun is a disk with so many changes of the history, its store, and its model.
func begun(t *testing.T, n int) (*snap.Store, *model) {
	t.Helper()
	s, m := open(t, newDisk(t, plain)), newModel()
	for _, o := range history[:n] {
		m = change(t, s, m, o)
	}
	return s, m
}

// run is one run, from a number on, below another one.
func run(from, to int) extent.Set { return extent.Of(extent.Run{From: from, To: to}) }

// block is a block that begins with these bytes.
func block(b ...byte) [32]byte {
	var x [32]byte
	copy(x[:], b)
	return x
}

// Open.

func TestOpenOfANewDisk(t *testing.T) {
	for _, n := range []int{4, 5, 6, plain, 65536} {
		d := newDisk(t, n)
		s := wantOpened(t, d, newModel())
		if s.Root == nil || s.Disk != d || s.Gen() != 0 {
			t.Errorf("%d sectors: root %v, generation %d, or another disk", n, s.Root, s.Gen())
		}
		if d.Count() != 0 || !bytes.Equal(all(t, d), make([]byte, n*size)) {
			t.Errorf("Open of %d sectors writes", n)
		}
		wantList(t, s)
		wantDiff(t, s, 0, 0, nil, nil)
	}
}

func TestExample(t *testing.T) {
	s := open(t, newDisk(t, plain))
	setBlock(t, s, 0, 5)
	newSnapshot(t, s, 1)
	setBlock(t, s, 0, 6)
	wantDiff(t, s, 0, 1, run(0, 1), nil)
}

func TestTooFewSectors(t *testing.T) {
	wantRefused(t, nil, api.ErrArg)
	wantRefused(t, new(disk.Disk), api.ErrArg)
	for n := 1; n < 4; n++ {
		d := newDisk(t, n)
		wantRefused(t, d, api.ErrArg)
		// ErrArg is named ahead of ErrDown.
		fall(d)
		wantRefused(t, d, api.ErrArg)
	}
}

func TestOpenWhilePowerIsOff(t *testing.T) {
	d := newDisk(t, plain)
	fall(d)
	wantRefused(t, d, api.ErrDown)
	d.Up()
	s := open(t, d)
	setBlock(t, s, 1, 2)
	fall(d)
	wantRefused(t, d, api.ErrDown)
	wantRefused(t, d, api.ErrDown)
	d.Up()
	wantImageOf(t, open(t, d), 0, blocks{1: block(2)})
}

// A disk on which there is a root sector, but no intact generation.
func TestOpenOfASpoiltDisk(t *testing.T) {
	d := newDisk(t, plain)
	setBlock(t, open(t, d), 1, 2)
	s, _ := d.Get(1)
	s[0] ^= 2
	d.Put(1, s)
	wantOpened(t, d, newModel())
	// The greater one is spoilt: the smaller one is opened.
	d = newDisk(t, plain)
	x := open(t, d)
	setBlock(t, x, 1, 2)
	setBlock(t, x, 1, 3)
	s, _ = d.Get(0)
	s[63] ^= 1
	d.Put(0, s)
	wantImageOf(t, open(t, d), 0, blocks{1: block(2)})
}

// Stores that the model writes are opened as what they are: the bytes have no other
// source than the chapter.
func TestOpenOfTheModelsBytes(t *testing.T) {
	full := blocks{}
	for i := range 256 {
		full[i] = block(pattern(32, i)...)
	}
	halves := blocks{}
	for i := 1; i < 256; i += 2 {
		halves[i] = block(byte(i))
	}
	few := blocks{0: block(0), 130: block(1, 2, 3)}
	many := &model{image: few, last: 200, snaps: map[int]blocks{}}
	for id := 169; id <= 200; id++ {
		many.snaps[id] = []blocks{full, halves, few, {}}[id%4]
	}
	cases := []*model{
		newModel(),
		{image: full},
		{image: halves, last: 127},
		{image: blocks{}, last: 128, snaps: map[int]blocks{128: few}},
		{image: few, last: 1000, snaps: map[int]blocks{1: halves, 127: few, 128: {}, 300: full}},
		{image: few, last: 1<<31 - 2, snaps: map[int]blocks{1<<31 - 2: few, 1: {}}},
		many,
	}
	for i, m := range cases {
		if m.snaps == nil {
			m.snaps = map[int]blocks{}
		}
		d := newDisk(t, great)
		lay(t, d, m.bytes())
		s := wantOpened(t, d, m)
		if len(m.snaps) == 32 {
			wantNoChange(t, s, m, create(), api.ErrFull)
			m = change(t, s, m, remove(171))
		}
		m = change(t, s, m, create())
		m = change(t, s, m, set(7, 7))
		wantState(t, s, m)
		wantBytes(t, d, m.bytes())
		wantOpened(t, d, m)
		if t.Failed() {
			t.Fatalf("case %d", i)
		}
	}
}

// lay puts bytes onto a disk, as the next generation's.
func lay(t *testing.T, d *disk.Disk, b []byte) {
	t.Helper()
	r, _, e := root.Open(d)
	if r == nil {
		t.Fatalf("root.Open: error %d", e)
	}
	wantErr(t, r.Commit(b), api.OK)
}

// The embedded root's methods, its disk's and its power's, are the store's too.
func TestTheStoreIsARoot(t *testing.T) {
	d := newDisk(t, plain)
	s := open(t, d)
	setBlock(t, s, 0, 1)
	if s.Room() != 19*size || s.Gen() != 1 || s.Len() != plain || s.Count() != 2 || !s.On() {
		t.Errorf("Room() = %d, Gen() = %d, Len() = %d, Count() = %d, On() = %t", s.Room(), s.Gen(), s.Len(), s.Count(), s.On())
	}
	s.Plan(0, 0)
	wantErr(t, s.Set(0, 2), api.ErrDown)
	if d.On() {
		t.Error("the store's power isn't the disk's")
	}
	s.Up()
	if open(t, d).Gen() != 1 {
		t.Error("another generation")
	}
}

// Set.

func TestSet(t *testing.T) {
	for _, i := range []int{0, 1, 2, 127, 128, 254, 255} {
		for _, b := range [][]byte{{0}, {1}, {0, 1}, pattern(31, i), pattern(32, i), make([]byte, 32)} {
			d := newDisk(t, plain)
			s := open(t, d)
			setBlock(t, s, i, b...)
			m, e := s.Image(0)
			wantErr(t, e, api.OK)
			want := block(b...)
			for k := range 256 {
				x, ok := m.Get(k)
				if ok != (k == i) || ok && !bytes.Equal(x, want[:]) {
					t.Errorf("Set(%d, %v): block %d is %v, %t", i, b, k, x, ok)
				}
			}
			wantImageOf(t, open(t, d), 0, blocks{i: want})
			wantList(t, s)
			// Another block of that number replaces it, and bytes 0 follow its bytes.
			setBlock(t, s, i, 9)
			wantImageOf(t, s, 0, blocks{i: block(9)})
			wantImageOf(t, open(t, d), 0, blocks{i: block(9)})
			setHole(t, s, i)
			wantOpened(t, d, newModel())
			wantState(t, s, newModel())
		}
	}
}

func TestSetWithoutBytes(t *testing.T) {
	d := newDisk(t, plain)
	s := open(t, d)
	for i := range 4 {
		setBlock(t, s, i, byte(i))
	}
	wantErr(t, s.Set(1), api.OK)
	wantErr(t, s.Set(2, []byte{}...), api.OK)
	wantErr(t, s.Set(3, pattern(5, 5)[:0]...), api.OK)
	wantErr(t, s.Set(255), api.OK)
	wantImageOf(t, s, 0, blocks{0: block(0)})
	wantImageOf(t, open(t, d), 0, blocks{0: block(0)})
}

func TestSetOfAllBlocks(t *testing.T) {
	d := newDisk(t, great)
	s, m := open(t, d), newModel()
	for i := range 256 {
		// Each number once, in no plain order.
		m = change(t, s, m, set(i*77%256, pattern(1+i%32, i)...))
	}
	wantState(t, s, m)
	wantOpened(t, d, m)
	for i := range 256 {
		m = change(t, s, m, set(i*91%256))
	}
	wantState(t, s, newModel())
	wantOpened(t, d, newModel())
}

func TestSetOfNoBlock(t *testing.T) {
	for n := range 4 {
		s, m := begun(t, 5*n)
		for _, i := range []int{-1, -2, -256, 256, 257, 512, math.MinInt, math.MaxInt} {
			wantNoChange(t, s, m, set(i), api.ErrArg)
			wantNoChange(t, s, m, set(i, 1), api.ErrArg)
			wantNoChange(t, s, m, set(i, make([]byte, 32)...), api.ErrArg)
			wantNoChange(t, s, m, set(i, make([]byte, 33)...), api.ErrArg)
		}
		for _, i := range []int{0, 3, 100, 255} {
			for _, b := range [][]byte{make([]byte, 33), pattern(33, 3), pattern(64, 3), make([]byte, 10000)} {
				wantNoChange(t, s, m, set(i, b...), api.ErrArg)
			}
		}
	}
}

// What is equal behind a Set is a change all the same.
func TestEachChangeIsCommittedOnce(t *testing.T) {
	s, m := open(t, newDisk(t, plain)), newModel()
	again := []op{set(3), set(3), set(4, 1), set(4, 1), create(), create(), remove(1), set(4), set(4)}
	for _, o := range slices.Concat(history, []op{remove(5), remove(6)}, again[:4]) {
		gen, count := s.Gen(), s.Count()
		m = change(t, s, m, o)
		writes := (len(m.bytes())+size-1)/size + 1
		if s.Gen() != gen+1 || s.Count() != count+writes {
			t.Errorf("change %v: generation %d, %d writes, want %d, %d", o, s.Gen(), s.Count()-count, gen+1, writes)
		}
		wantBytes(t, s.Disk, m.bytes())
	}
}

// Create, Delete and List.

func TestCreate(t *testing.T) {
	d := newDisk(t, plain)
	s := open(t, d)
	newSnapshot(t, s, 1)
	setBlock(t, s, 1, 1)
	setBlock(t, s, 2, 2)
	newSnapshot(t, s, 2)
	setHole(t, s, 1)
	setBlock(t, s, 2, 3)
	newSnapshot(t, s, 3)
	newSnapshot(t, s, 4)
	setHole(t, s, 2)
	for _, x := range []*snap.Store{s, open(t, d)} {
		wantList(t, x, 1, 2, 3, 4)
		wantImageOf(t, x, 0, blocks{})
		wantImageOf(t, x, 1, blocks{})
		wantImageOf(t, x, 2, blocks{1: block(1), 2: block(2)})
		wantImageOf(t, x, 3, blocks{2: block(3)})
		wantImageOf(t, x, 4, blocks{2: block(3)})
		wantNoImage(t, x, 5, api.ErrNone)
	}
}

func TestMost(t *testing.T) {
	if snap.Most != 32 {
		t.Errorf("Most = %d, want 32", snap.Most)
	}
	d := newDisk(t, great)
	s, m := open(t, d), newModel()
	for id := 1; id <= 32; id++ {
		m = change(t, s, m, set(id, byte(id)))
		m = change(t, s, m, create())
		wantList(t, s, m.ids()...)
	}
	for range 3 {
		wantNoChange(t, s, m, create(), api.ErrFull)
		wantNoChange(t, open(t, d), m, create(), api.ErrFull)
	}
	// The other changes go on.
	m = change(t, s, m, set(200, 1))
	wantNoChange(t, s, m, create(), api.ErrFull)
	// Each number is a new one, wherever there is room again.
	for i, id := range []int{7, 1, 32, 33} {
		m = change(t, s, m, remove(id))
		if i%2 == 1 {
			s = wantOpened(t, d, m)
		}
		newSnapshot(t, s, 33+i)
		m, _, _ = m.next(create())
		wantState(t, s, m)
		wantNoChange(t, s, m, create(), api.ErrFull)
		s = wantOpened(t, d, m)
		wantNoChange(t, s, m, create(), api.ErrFull)
	}
}

func TestMostOfWholeImages(t *testing.T) {
	d := newDisk(t, great)
	m := newModel()
	for i := range 256 {
		m.image[i] = block(pattern(32, i)...)
	}
	lay(t, d, m.bytes())
	s := open(t, d)
	for range 32 {
		m = change(t, s, m, create())
	}
	wantNoChange(t, s, m, create(), api.ErrFull)
	wantOpened(t, d, m)
}

func TestNumbersAreAssignedOnce(t *testing.T) {
	for _, anew := range []bool{false, true} {
		d := newDisk(t, plain)
		s := open(t, d)
		again := func() {
			if anew {
				s = open(t, d)
			}
		}
		newSnapshot(t, s, 1)
		again()
		// The only one, which is the last one, is deleted.
		forget(t, s, 1)
		again()
		wantList(t, s)
		newSnapshot(t, s, 2)
		again()
		newSnapshot(t, s, 3)
		again()
		newSnapshot(t, s, 4)
		forget(t, s, 3)
		again()
		newSnapshot(t, s, 5)
		forget(t, s, 5)
		again()
		wantList(t, s, 2, 4)
		newSnapshot(t, s, 6)
		wantList(t, s, 2, 4, 6)
		again()
		for _, id := range []int{6, 4, 2} {
			forget(t, s, id)
			again()
		}
		wantList(t, s)
		newSnapshot(t, s, 7)
		again()
		wantList(t, s, 7)
		for id := 1; id < 7; id++ {
			wantNoImage(t, s, id, api.ErrNone)
			wantErr(t, s.Delete(id), api.ErrNone)
		}
	}
}

// Numbers of more than one byte.
func TestManySnapshotsOneBehindTheOther(t *testing.T) {
	d := newDisk(t, plain)
	s, m := open(t, d), newModel()
	for id := 1; id <= 300; id++ {
		m = change(t, s, m, set(id%3, byte(id)))
		newSnapshot(t, s, id)
		m, _, _ = m.next(create())
		if len(m.snaps) < 9 {
			continue
		}
		// Any of them, the last one too.
		m = change(t, s, m, remove(m.ids()[id%9]))
		wantBytes(t, d, m.bytes())
		if id%5 == 0 {
			s = wantOpened(t, d, m)
		}
	}
	wantOpened(t, d, m)
}

func TestDelete(t *testing.T) {
	for id := 1; id <= 5; id++ {
		d := newDisk(t, plain)
		s, m := open(t, d), newModel()
		for i := range 5 {
			m = change(t, s, m, set(i, 1))
			m = change(t, s, m, create())
		}
		m = change(t, s, m, remove(id))
		wantState(t, s, m)
		wantNoImage(t, s, id, api.ErrNone)
		wantNoDiff(t, s, id, 0, api.ErrNone)
		wantNoChange(t, s, m, remove(id), api.ErrNone)
		s = wantOpened(t, d, m)
		wantNoImage(t, s, id, api.ErrNone)
		wantNoChange(t, s, m, remove(id), api.ErrNone)
		// The others go too.
		for _, k := range m.ids() {
			m = change(t, s, m, remove(k))
		}
		wantList(t, s)
		wantImageOf(t, s, 0, m.image)
		wantOpened(t, d, m)
	}
}

func TestNoSuchSnapshot(t *testing.T) {
	for n := range len(history) + 1 {
		s, m := begun(t, n)
		numbers := append([]int{m.last + 1, m.last + 2, 100}, noSnapshots...)
		for id := 1; id <= m.last; id++ {
			if _, ok := m.snaps[id]; !ok {
				numbers = append(numbers, id)
			}
		}
		for _, x := range []*snap.Store{s, open(t, s.Disk)} {
			// 0 is the writable image, which is no snapshot.
			wantNoChange(t, x, m, remove(0), api.ErrNone)
			for _, id := range numbers {
				wantNoChange(t, x, m, remove(id), api.ErrNone)
				wantNoImage(t, x, id, api.ErrNone)
				wantNoDiff(t, x, id, 0, api.ErrNone)
				wantNoDiff(t, x, 0, id, api.ErrNone)
				wantNoDiff(t, x, id, id, api.ErrNone)
				wantNoDiff(t, x, id, -1, api.ErrNone)
			}
		}
	}
}

// Diff.

// diff is the Diff of a model's images.
func diff(m, base blocks) (put, gone extent.Set) {
	for i := range 256 {
		x, ok := m[i]
		y, there := base[i]
		switch {
		case ok && (!there || x != y):
			put = put.Or(run(i, i+1))
		case !ok && there:
			gone = gone.Or(run(i, i+1))
		}
	}
	return put, gone
}

func wantDiffs(t *testing.T, s *snap.Store, m *model) {
	t.Helper()
	ids := append([]int{0}, m.ids()...)
	for _, id := range ids {
		for _, base := range ids {
			x, _ := m.of(id)
			y, _ := m.of(base)
			put, gone := diff(x, y)
			wantDiff(t, s, id, base, put, gone)
		}
	}
}

func TestDiff(t *testing.T) {
	d := newDisk(t, plain)
	s := open(t, d)
	for _, i := range []int{0, 1, 2, 9, 255} {
		setBlock(t, s, i, 1)
	}
	newSnapshot(t, s, 1)
	setBlock(t, s, 0, 2)     // different
	setHole(t, s, 1)         // a hole
	setBlock(t, s, 9, 1)     // the same
	setBlock(t, s, 3, 0)     // a hole before
	setBlock(t, s, 4, 4)     // a hole before
	setBlock(t, s, 2, 1, 0)  // the same
	setBlock(t, s, 255, 255) // different
	newSnapshot(t, s, 2)
	setHole(t, s, 0)
	put := extent.Of(extent.Run{From: 0, To: 1}, extent.Run{From: 3, To: 5}, extent.Run{From: 255, To: 256})
	back := extent.Of(extent.Run{From: 0, To: 2}, extent.Run{From: 255, To: 256})
	for _, x := range []*snap.Store{s, open(t, d)} {
		wantDiff(t, x, 2, 1, put, run(1, 2))
		wantDiff(t, x, 1, 2, back, run(3, 5))
		wantDiff(t, x, 0, 2, nil, run(0, 1))
		wantDiff(t, x, 2, 0, run(0, 1), nil)
		wantDiff(t, x, 0, 1, put.Minus(run(0, 1)), run(0, 2))
		wantDiff(t, x, 1, 0, back, run(3, 5))
		for id := range 3 {
			wantDiff(t, x, id, id, nil, nil)
		}
	}
}

func TestDiffOfAnyTwo(t *testing.T) {
	for n := range len(history) + 1 {
		s, m := begun(t, n)
		wantDiffs(t, s, m)
		wantDiffs(t, open(t, s.Disk), m)
	}
}

// The bytes that the root has.

func TestLayout(t *testing.T) {
	d := newDisk(t, plain)
	s := open(t, d)
	z := make([]byte, 31)
	three := func(x byte) []byte { return slices.Concat([]byte{35, 1, 3, 1, x}, z) }
	hole := []byte{1, 0}
	step := func(e api.Errno, parts ...[]byte) {
		t.Helper()
		wantErr(t, e, api.OK)
		wantBytes(t, d, slices.Concat(parts...))
		s = open(t, d)
	}
	made := func(want int) api.Errno {
		t.Helper()
		newSnapshot(t, s, want)
		return api.OK
	}
	step(s.Set(9), hole, []byte{0, 0})
	step(s.Set(3, 7), three(7), []byte{0, 0})
	step(made(1), three(7), []byte{1, 1, 1}, three(7))
	step(s.Set(3, 8), three(8), []byte{1, 1, 1}, three(7))
	step(made(2), three(8), []byte{2, 2, 1}, three(7), []byte{2}, three(8))
	step(s.Set(3), hole, []byte{2, 2, 1}, three(7), []byte{2}, three(8))
	step(made(3), hole, []byte{3, 3, 1}, three(7), []byte{2}, three(8), []byte{3}, hole)
	step(s.Delete(2), hole, []byte{3, 2, 1}, three(7), []byte{3}, hole)
	step(made(4), hole, []byte{4, 3, 1}, three(7), []byte{3}, hole, []byte{4}, hole)
	step(s.Delete(4), hole, []byte{4, 2, 1}, three(7), []byte{3}, hole)
	step(s.Delete(1), hole, []byte{4, 1, 3}, hole)
	step(s.Set(255, 1), []byte{36, 1, 255, 1, 1, 1}, z, []byte{4, 1, 3}, hole)
	step(s.Set(4, 2), []byte{70, 2, 4, 1, 250, 1, 1, 2}, z, []byte{1}, z, []byte{4, 1, 3}, hole)
	step(s.Set(5, 3), []byte{102, 2, 4, 2, 249, 1, 1, 2}, z, []byte{3}, z, []byte{1}, z, []byte{4, 1, 3}, hole)
	step(s.Set(4, 0), []byte{102, 2, 4, 2, 249, 1, 1, 0}, z, []byte{3}, z, []byte{1}, z, []byte{4, 1, 3}, hole)
	step(s.Set(6, 4), []byte{134, 1, 2, 4, 3, 248, 1, 1, 0}, z, []byte{3}, z, []byte{4}, z, []byte{1}, z, []byte{4, 1, 3}, hole)
	step(s.Delete(3), []byte{134, 1, 2, 4, 3, 248, 1, 1, 0}, z, []byte{3}, z, []byte{4}, z, []byte{1}, z, []byte{4, 0})
}

func TestLayoutOfGreatNumbers(t *testing.T) {
	d := newDisk(t, plain)
	s := open(t, d)
	for id := 1; id <= 130; id++ {
		newSnapshot(t, s, id)
		if id != 127 && id != 128 && id != 130 {
			forget(t, s, id)
		}
	}
	wantBytes(t, d, []byte{1, 0, 130, 1, 3, 127, 1, 0, 128, 1, 1, 0, 130, 1, 1, 0})
	forget(t, s, 130)
	wantBytes(t, d, []byte{1, 0, 130, 1, 2, 127, 1, 0, 128, 1, 1, 0})
	s = open(t, d)
	wantList(t, s, 127, 128)
	newSnapshot(t, s, 131)
	wantBytes(t, d, []byte{1, 0, 131, 1, 3, 127, 1, 0, 128, 1, 1, 0, 131, 1, 1, 0})
}

func TestLayoutOfMost(t *testing.T) {
	d := newDisk(t, plain)
	s := open(t, d)
	want := []byte{1, 0, 32, 32}
	for id := 1; id <= 32; id++ {
		newSnapshot(t, s, id)
		want = append(want, byte(id), 1, 0)
	}
	wantBytes(t, d, want)
}

// The bytes behind each change, and the store that is opened then.
func TestLayoutOfTheHistory(t *testing.T) {
	d := newDisk(t, plain)
	s, m := open(t, d), newModel()
	for i, o := range history {
		m = change(t, s, m, o)
		wantState(t, s, m)
		wantBytes(t, d, m.bytes())
		opened := wantOpened(t, d, m)
		// It doesn't matter which of them goes on.
		if i%2 == 0 {
			s = opened
		}
	}
}

// Room.

// withEmpty is a store on 6 sectors, which have room for 128 bytes, with so many
// snapshots of holes, of three bytes each.
func withEmpty(t *testing.T, n int) (*snap.Store, *model) {
	t.Helper()
	s, m := open(t, newDisk(t, 6)), newModel()
	for range n {
		m = change(t, s, m, create())
	}
	return s, m
}

func wantSize(t *testing.T, m *model, want int) {
	t.Helper()
	if n := len(m.bytes()); n != want {
		t.Fatalf("%d bytes, want %d", n, want)
	}
}

func TestSetOfAsMuchAsThereIsRoom(t *testing.T) {
	s, m := withEmpty(t, 8)
	m = change(t, s, m, set(0, 1))
	m = change(t, s, m, set(1, 2))
	// One byte more: the distance to block 130 has two.
	wantNoChange(t, s, m, set(130, 3), api.ErrFull)
	wantNoChange(t, open(t, s.Disk), m, set(130, 3), api.ErrFull)
	more, _, _ := m.next(set(130, 3))
	wantSize(t, more, 129)
	m = change(t, s, m, set(129, 3))
	wantSize(t, m, 128)
	wantState(t, s, m)
	wantOpened(t, s.Disk, m)
	// Behind a change that has no room the store goes on: nothing was written.
	wantNoChange(t, s, m, create(), api.ErrFull)
	wantNoChange(t, s, m, set(3, 4), api.ErrFull)
	m = change(t, s, m, set(1, 9, 9, 9))
	wantSize(t, m, 128)
	m = change(t, s, m, remove(4))
	wantSize(t, m, 125)
	wantNoChange(t, s, m, set(3, 4), api.ErrFull)
	m = change(t, s, m, set(0))
	wantState(t, s, m)
	wantOpened(t, s.Disk, m)
}

// A hole parts a run into two, and needs less room all the same.
func TestSetOfAHoleWhereThereIsNoMoreRoom(t *testing.T) {
	s, m := withEmpty(t, 8)
	m = change(t, s, m, set(0, 1))
	m = change(t, s, m, set(1, 1))
	m = change(t, s, m, set(2, 1))
	wantSize(t, m, 126)
	wantNoChange(t, s, m, create(), api.ErrFull)
	m = change(t, s, m, set(1))
	wantSize(t, m, 96)
	wantState(t, s, m)
	wantOpened(t, s.Disk, m)
}

func TestCreateOfAsMuchAsThereIsRoom(t *testing.T) {
	s, m := withEmpty(t, 17)
	m = change(t, s, m, set(200, 7))
	m = change(t, s, m, create())
	wantSize(t, m, 128)
	wantState(t, s, m)
	wantOpened(t, s.Disk, m)

	s, m = withEmpty(t, 18)
	m = change(t, s, m, set(0, 7))
	more, _, _ := m.next(create())
	wantSize(t, more, 129)
	for range 2 {
		wantNoChange(t, s, m, create(), api.ErrFull)
		wantNoChange(t, open(t, s.Disk), m, create(), api.ErrFull)
	}
	// The number that wasn't assigned is the next one.
	m = change(t, s, m, remove(3))
	newSnapshot(t, s, 19)
	m, _, _ = m.next(create())
	wantSize(t, m, 126)
	wantState(t, s, m)
	wantOpened(t, s.Disk, m)
}

func TestDeleteWhereThereIsNoMoreRoom(t *testing.T) {
	s, m := withEmpty(t, 8)
	for i, b := range []byte{1, 2, 0} {
		m = change(t, s, m, set([]int{0, 1, 129}[i], b))
	}
	wantSize(t, m, 128)
	for _, id := range []int{8, 1, 4} {
		m = change(t, s, m, remove(id))
		wantState(t, s, m)
	}
	wantOpened(t, s.Disk, m)
}

func TestDisksOfFewSectors(t *testing.T) {
	for _, n := range []int{4, 5} {
		d := newDisk(t, n)
		s, m := open(t, d), newModel()
		m = change(t, s, m, set(7, pattern(32, 3)...))
		wantNoChange(t, s, m, set(8, 1), api.ErrFull)
		wantNoChange(t, s, m, create(), api.ErrFull)
		m = change(t, s, m, set(7))
		for range 20 {
			m = change(t, s, m, create())
		}
		wantSize(t, m, 64)
		wantNoChange(t, s, m, create(), api.ErrFull)
		wantOpened(t, d, m)
	}
}

// Power that is off, and which error comes where two would.

func TestChangesWhilePowerIsOff(t *testing.T) {
	for n := range len(history) + 1 {
		s, m := begun(t, n)
		was := all(t, s.Disk)
		fall(s.Disk)
		for range 2 {
			wantNoChange(t, s, m, set(0, 99), api.ErrDown)
			wantNoChange(t, s, m, set(255), api.ErrDown)
			wantNoChange(t, s, m, create(), api.ErrDown)
			for _, id := range m.ids() {
				wantNoChange(t, s, m, remove(id), api.ErrDown)
			}
		}
		wantDiffs(t, s, m)
		// These errors are named ahead of that of the Commit.
		wantNoChange(t, s, m, set(256, 1), api.ErrArg)
		wantNoChange(t, s, m, set(-1), api.ErrArg)
		wantNoChange(t, s, m, set(0, make([]byte, 33)...), api.ErrArg)
		wantNoChange(t, s, m, remove(m.last+1), api.ErrNone)
		wantNoChange(t, s, m, remove(0), api.ErrNone)
		s.Up()
		if !bytes.Equal(all(t, s.Disk), was) {
			t.Error("a change is written while power is off")
		}
		s = wantOpened(t, s.Disk, m)
		for _, o := range history[n:] {
			m = change(t, s, m, o)
		}
		wantOpened(t, s.Disk, m)
	}
}

func TestTwoErrors(t *testing.T) {
	// 32 snapshots, and power that is off.
	d := newDisk(t, plain)
	s, m := open(t, d), newModel()
	for range 32 {
		m = change(t, s, m, create())
	}
	fall(d)
	wantNoChange(t, s, m, create(), api.ErrFull)
	wantNoChange(t, s, m, remove(33), api.ErrNone)
	// No room, and power that is off: layer 10 names ErrFull first.
	s, m = withEmpty(t, 8)
	for _, i := range []int{0, 1, 129} {
		m = change(t, s, m, set(i, 1))
	}
	wantNoChange(t, s, m, set(256, 1), api.ErrArg)
	wantNoChange(t, s, m, set(5, make([]byte, 33)...), api.ErrArg)
	wantNoChange(t, s, m, remove(9), api.ErrNone)
	fall(s.Disk)
	wantNoChange(t, s, m, create(), api.ErrFull)
	wantNoChange(t, s, m, set(5, 1), api.ErrFull)
	wantNoChange(t, s, m, set(5), api.ErrDown)
	wantNoChange(t, s, m, remove(1), api.ErrDown)
	wantNoChange(t, s, m, set(256, 1), api.ErrArg)
}

// Power fails.

// writes is how many a Commit of n bytes makes.
func writes(n int) int { return (n+size-1)/size + 1 }

// During each change of the history, at each of its writes, behind each number of
// bytes: the error, the store that is unchanged, what is opened, and what follows.
func TestPowerFailsAtEachByte(t *testing.T) {
	for n, o := range history {
		s, before := begun(t, n)
		base := all(t, s.Disk)
		behind, _, _ := before.next(o)
		last := writes(len(behind.bytes())) - 1
		for after := range last + 1 {
			for torn := -1; torn <= size+1; torn++ {
				d := newDisk(t, plain)
				wantErr(t, d.PutAll(0, base), api.OK)
				s := wantOpened(t, d, before)
				d.Plan(after, torn)
				if id, e := do(s, o); id != 0 || e != api.ErrDown {
					t.Errorf("%d, error %d, want 0, ErrDown", id, e)
				}
				if d.On() || s.Gen() != uint64(n) {
					t.Errorf("power is on %t, generation %d, want %d", d.On(), s.Gen(), n)
				}
				wantState(t, s, before)
				wantRefused(t, d, api.ErrDown)
				d.Up()
				// The first byte of the root sector's last number is the one that counts.
				want := before
				if after == last && torn > 56 {
					want = behind
				}
				goOn(t, wantOpened(t, d, want), want, history[n+1:])
				if t.Failed() {
					t.Fatalf("change %d, write %d, %d bytes", n, after, torn)
				}
			}
		}
	}
}

// goOn makes those changes of a list that can be made behind a failure, and opens the
// store behind them.
func goOn(t *testing.T, s *snap.Store, m *model, l []op) {
	t.Helper()
	for _, o := range l {
		if _, _, e := m.next(o); e == api.OK {
			m = change(t, s, m, o)
		} else {
			wantNoChange(t, s, m, o, e)
		}
	}
	if s.Gen() > 0 {
		wantBytes(t, s.Disk, m.bytes())
	}
	wantOpened(t, s.Disk, m)
}

// A plan that none of a change's writes reaches lets it be.
func TestPowerFailsBehindAChange(t *testing.T) {
	for n, o := range history {
		s, m := begun(t, n)
		behind, _, _ := m.next(o)
		s.Plan(writes(len(behind.bytes())), 0)
		m = change(t, s, m, o)
		if !s.On() {
			t.Errorf("change %d makes too many writes", n)
		}
		wantNoChangeDown(t, s, m, create())
		s.Up()
		wantOpened(t, s.Disk, m)
	}
}

// wantNoChangeDown makes a change at which power fails, at its first write.
func wantNoChangeDown(t *testing.T, s *snap.Store, m *model, o op) {
	t.Helper()
	if id, e := do(s, o); id != 0 || e != api.ErrDown {
		t.Errorf("change %v: %d, error %d, want 0, ErrDown", o, id, e)
	}
	wantState(t, s, m)
}

// Power fails at a change, the store is opened again, and power fails at the next one.
func TestPowerFailsTwice(t *testing.T) {
	first, second := set(8, pattern(32, 8)...), create()
	base, m := begun(t, 7)
	one, _, _ := m.next(first)
	for cut := range writes(len(one.bytes())) * (size + 1) {
		d := copyOf(t, base.Disk)
		s := open(t, d)
		s.Plan(cut/(size+1), cut%(size+1))
		wantNoChangeDown(t, s, m, first)
		d.Up()
		was, _ := wantEither(t, d, m, one)
		two, _, _ := was.next(second)
		for _, torn := range []int{0, 1, 55, 56, 57, 58, 63, 64} {
			for after := range writes(len(two.bytes())) {
				c := copyOf(t, d)
				s := open(t, c)
				c.Plan(after, torn)
				wantNoChangeDown(t, s, was, second)
				c.Up()
				now, s := wantEither(t, c, was, two)
				now = change(t, s, now, set(8))
				wantOpened(t, c, now)
			}
		}
		if t.Failed() {
			t.Fatalf("the first failed at write %d, byte %d", cut/(size+1), cut%(size+1))
		}
	}
}

// wantEither opens a store that is one of two, and returns which.
func wantEither(t *testing.T, d *disk.Disk, before, behind *model) (*model, *snap.Store) {
	t.Helper()
	m := before
	if b, e := bytesOf(t, d); e == api.OK && bytes.Equal(b, behind.bytes()) {
		m = behind
	}
	return m, wantOpened(t, d, m)
}

// Snapshots never change.

func TestSnapshotsNeverChange(t *testing.T) {
	d := newDisk(t, great)
	s := open(t, d)
	for i := range 10 {
		setBlock(t, s, i, 1, byte(i))
	}
	want := blocks{}
	for i := range 10 {
		want[i] = block(1, byte(i))
	}
	newSnapshot(t, s, 1)
	for round := range 40 {
		for i := range 12 {
			setBlock(t, s, i, byte(round), byte(i))
			wantImageOf(t, s, 1, want)
		}
		setHole(t, s, round%12)
		wantImageOf(t, s, 1, want)
		newSnapshot(t, s, 2+round)
		wantImageOf(t, s, 1, want)
		if round > 5 && round%5 != 1 {
			forget(t, s, round)
			wantImageOf(t, s, 1, want)
		}
		// Power fails, and a change has no effect.
		s.Plan(round%9, 3*round)
		wantErr(t, s.Set(3, pattern(32, round)...), api.ErrDown)
		wantImageOf(t, s, 1, want)
		s.Up()
		s = open(t, d)
		wantImageOf(t, s, 1, want)
	}
}

// Memory.

// spoil makes an image another one, wherever it can be changed.
func spoil(m *image.Image) {
	for i := range 256 {
		m.Put(i, pattern(32, i+77))
	}
	for i := range 128 {
		m.Clear(2 * i)
	}
}

// spoilBlocks makes the blocks that an image returns other ones.
func spoilBlocks(m *image.Image) {
	for i := range 256 {
		if b, ok := m.Get(i); ok {
			copy(b, pattern(32, 55))
		}
	}
}

func TestImagesThatWereReturnedAreNotTheStores(t *testing.T) {
	for n := range len(history) + 1 {
		s, m := begun(t, n)
		was := all(t, s.Disk)
		for _, x := range []*snap.Store{s, open(t, s.Disk)} {
			for _, id := range append([]int{0}, m.ids()...) {
				a, _ := x.Image(id)
				b, _ := x.Image(id)
				spoilBlocks(a)
				spoil(a)
				wantState(t, x, m)
				want, _ := m.of(id)
				wantImage(t, b, want)
			}
		}
		if !bytes.Equal(all(t, s.Disk), was) {
			t.Error("a change of an image that was returned is written")
		}
		// What was returned and changed is in none of the later changes either.
		goOn(t, s, m, history[n:])
	}
}

func TestLaterChangesAreNotInImagesThatWereReturned(t *testing.T) {
	for n := range len(history) + 1 {
		s, m := begun(t, n)
		got := map[int]*image.Image{}
		for _, id := range append([]int{0}, m.ids()...) {
			got[id], _ = s.Image(id)
		}
		list := s.List()
		put, gone, _ := s.Diff(0, 0)
		behind := m
		for i := range 6 {
			behind = change(t, s, behind, set(i, 200, byte(i)))
		}
		behind = change(t, s, behind, set(255))
		for _, id := range m.ids() {
			behind = change(t, s, behind, remove(id))
		}
		behind = change(t, s, behind, create())
		for id, x := range got {
			want, _ := m.of(id)
			wantImage(t, x, want)
		}
		if !slices.Equal(list, m.ids()) || len(put) != 0 || len(gone) != 0 {
			t.Errorf("a change changes what was returned: %v, %v, %v", list, put, gone)
		}
		wantState(t, s, behind)
	}
}

// fill sets all elements of a slice, up to its capacity.
func fill[T any](l []T, x T) {
	l = l[:cap(l)]
	for i := range l {
		l[i] = x
	}
}

func TestListsAreNew(t *testing.T) {
	s, m := begun(t, len(history))
	for _, x := range []*snap.Store{s, open(t, s.Disk)} {
		l, k := x.List(), x.List()
		fill(l, 999)
		if !slices.Equal(k, m.ids()) {
			t.Errorf("two Lists share memory: %v", k)
		}
		wantState(t, x, m)
	}
	m = change(t, s, m, create())
	wantBytes(t, s.Disk, m.bytes())
}

func TestDiffsAreNew(t *testing.T) {
	s, m := begun(t, len(history))
	setBlock(t, s, 77, 1)
	m, _, _ = m.next(set(77, 1))
	for _, id := range append([]int{0}, m.ids()...) {
		for _, base := range append([]int{0}, m.ids()...) {
			p, g, _ := s.Diff(id, base)
			fill(p, extent.Run{From: 5, To: 6})
			fill(g, extent.Run{From: 5, To: 6})
		}
	}
	wantDiffs(t, s, m)
	wantState(t, s, m)
}

func TestBytesAreNeitherKeptNorChanged(t *testing.T) {
	d := newDisk(t, plain)
	s, m := open(t, d), newModel()
	for _, n := range []int{1, 5, 31, 32, 33, 0} {
		for _, i := range []int{0, 7, 256} {
			for _, plan := range []int{-1, 0, 1, 9} {
				array := pattern(60, n)
				b := array[:n]
				d.Plan(plan, 30)
				next, _, want := m.next(set(i, b...))
				off := want == api.OK && plan >= 0 && plan < writes(len(next.bytes()))
				if off {
					want = api.ErrDown
				}
				wantErr(t, s.Set(i, b...), want)
				d.Up()
				if !bytes.Equal(array, pattern(60, n)) {
					t.Errorf("Set changes what it is given: %v", array)
				}
				clear(array)
				if want == api.OK {
					m = next
				}
				wantState(t, s, m)
				if off {
					s = wantOpened(t, d, m)
				}
			}
		}
		m = change(t, s, m, create())
	}
	wantBytes(t, d, m.bytes())
}

// What lies behind the bytes that are passed, up to their capacity, is not read.
func TestBytesBehindTheLength(t *testing.T) {
	for n := range 34 {
		a, b := open(t, newDisk(t, plain)), open(t, newDisk(t, plain))
		wantErr(t, a.Set(5, pattern(100, 3)[:n]...), b.Set(5, slices.Clip(pattern(100, 3)[:n])...))
		if !bytes.Equal(all(t, a.Disk), all(t, b.Disk)) {
			t.Errorf("%d bytes, and others behind them", n)
		}
		if n > 0 && n <= 32 {
			wantImageOf(t, a, 0, blocks{5: block(pattern(100, 3)[:n]...)})
		}
	}
}

// Calls that are no changes.

func TestReadingIsNoWrite(t *testing.T) {
	s, m := begun(t, len(history))
	was, count, gen := all(t, s.Disk), s.Count(), s.Gen()
	s.Plan(0, 0)
	for range 2 {
		wantState(t, s, m)
		wantDiffs(t, s, m)
		wantNoImage(t, s, 999, api.ErrNone)
		s = wantOpened(t, s.Disk, m)
	}
	if s.Count() != count || s.Gen() != gen || !s.On() || !bytes.Equal(all(t, s.Disk), was) {
		t.Error("reading writes")
	}
}

func TestStoresOfSeveralDisks(t *testing.T) {
	p := power.New()
	c, _ := disk.New(plain, p)
	d, _ := disk.New(plain, p)
	q, r := open(t, c), open(t, d)
	setBlock(t, q, 1, 1)
	newSnapshot(t, q, 1)
	wantState(t, r, newModel())
	wantOpened(t, d, newModel())
	newSnapshot(t, r, 1)
	forget(t, r, 1)
	newSnapshot(t, q, 2)
	newSnapshot(t, r, 2)
	wantList(t, q, 1, 2)
	wantList(t, r, 2)
	wantImageOf(t, r, 0, blocks{})
	wantImageOf(t, q, 1, blocks{1: block(1)})
	// They have one power.
	q.Plan(1, 0)
	wantErr(t, r.Set(1, 1), api.ErrDown)
	wantErr(t, q.Set(1, 1), api.ErrDown)
	wantRefused(t, c, api.ErrDown)
}

// A store that isn't there, and ones that Open didn't return.

func TestNil(t *testing.T) {
	var s *snap.Store
	for _, i := range []int{0, 1, 255, 256, -1, math.MinInt, math.MaxInt} {
		for _, b := range [][]byte{nil, {}, {1}, make([]byte, 32), make([]byte, 33)} {
			wantErr(t, s.Set(i, b...), api.ErrArg)
		}
		wantErr(t, s.Delete(i), api.ErrArg)
		wantNoImage(t, s, i, api.ErrArg)
		wantNoDiff(t, s, i, 0, api.ErrArg)
		wantNoDiff(t, s, 0, i, api.ErrArg)
	}
	if id, e := s.Create(); id != 0 || e != api.ErrArg {
		t.Errorf("Create() = %d, %d, want 0, ErrArg", id, e)
	}
	wantList(t, s)
}

// callAll makes every call, of which none may panic.
func callAll(s *snap.Store) {
	numbers := append([]int{0, 1, 2, 3, 31, 32, 33, 127, 128, 255, 256}, noSnapshots...)
	numbers = append(numbers, s.List()...)
	for _, i := range numbers {
		s.Image(i)
		s.Diff(i, 0)
		s.Diff(0, i)
		s.Diff(i, i)
		s.Set(i, 1)
		s.Set(i)
		s.Set(i, make([]byte, 33)...)
	}
	for range 3 {
		s.Create()
		s.List()
	}
	for _, i := range numbers {
		s.Delete(i)
	}
	s.Create()
}

func TestOtherStoresDoNotPanic(t *testing.T) {
	r, _, _ := root.Open(newDisk(t, plain))
	for _, s := range []*snap.Store{nil, {}, {Root: new(root.Root)}, {Root: r}, {Root: &root.Root{Disk: newDisk(t, 2)}}} {
		callAll(s)
	}
}

// Wrong inputs: roots whose bytes no store has written. Only stores' bytes are
// promised to be opened; others must not panic, and these ones are refused.
func TestBytesOfNoStore(t *testing.T) {
	hole := []byte{1, 0}
	tooMany := []byte{1, 0, 40, 33}
	for id := 1; id <= 33; id++ {
		tooMany = append(tooMany, byte(id), 1, 0)
	}
	cases := map[string][]byte{
		"no bytes":                       {},
		"no numbers":                     hole,
		"no count":                       {1, 0, 0},
		"an image of no string":          {200},
		"an image that is cut":           {35, 1, 3, 1, 7, 0, 0},
		"an image too long":              {129, 72},
		"an image without blocks":        {3, 1, 3, 1, 0, 0},
		"a run without numbers":          {3, 1, 3, 0, 0, 0},
		"runs that touch":                {5, 2, 3, 1, 0, 1, 0, 0},
		"a last number of no form":       {1, 0, 128, 0, 0},
		"a last number that is cut":      {1, 0, 128},
		"a last number too great":        {1, 0, 255, 255, 255, 255, 255, 255, 255, 255, 255, 1, 0},
		"33 snapshots":                   tooMany,
		"very many snapshots":            {1, 0, 40, 255, 255, 255, 255, 255, 255, 255, 255, 255, 1},
		"a snapshot too few":             {1, 0, 2, 2, 1, 1, 0},
		"a snapshot without image":       {1, 0, 2, 1, 1},
		"a snapshot with half an image":  {1, 0, 2, 1, 1, 35, 1, 3},
		"a snapshot 0":                   {1, 0, 2, 1, 0, 1, 0},
		"a snapshot above the last one":  {1, 0, 2, 1, 3, 1, 0},
		"a snapshot of no number at all": {1, 0, 0, 1, 0, 1, 0},
		"two of one number":              {1, 0, 2, 2, 1, 1, 0, 1, 1, 0},
		"numbers that fall":              {1, 0, 2, 2, 2, 1, 0, 1, 1, 0},
		"bytes behind the last one":      {1, 0, 0, 0, 0},
		"other bytes":                    []byte("no store"),
	}
	for name, b := range cases {
		d := newDisk(t, plain)
		lay(t, d, b)
		was := all(t, d)
		s, e := snap.Open(d)
		if s != nil || e == api.OK {
			t.Errorf("%s: store %v, error %d", name, s, e)
		}
		if again, f := snap.Open(d); again != nil || f != e {
			t.Errorf("%s: error %d, then %d", name, e, f)
		}
		if !bytes.Equal(all(t, d), was) {
			t.Errorf("%s: Open writes", name)
		}
	}
}

func TestBytesThatAreCut(t *testing.T) {
	_, m := begun(t, len(history))
	b := m.bytes()
	for n := range b {
		d := newDisk(t, plain)
		lay(t, d, b[:n])
		if s, e := snap.Open(d); s != nil || e == api.OK {
			t.Errorf("%d of %d bytes: store %v, error %d", n, len(b), s, e)
		}
	}
	d := newDisk(t, plain)
	lay(t, d, append(b, 0))
	if s, e := snap.Open(d); s != nil || e == api.OK {
		t.Errorf("a byte more: store %v, error %d", s, e)
	}
}

func TestBytesThatAreSpoilt(t *testing.T) {
	_, m := begun(t, 8)
	b := m.bytes()
	for i := range b {
		for _, x := range []byte{1, 2, 128, 255, b[i]} {
			c := bytes.Clone(b)
			c[i] ^= x
			openAny(t, c)
		}
	}
}

// openAny opens a store of any bytes; where it is one, its bytes are these, and its
// calls don't panic.
func openAny(t *testing.T, b []byte) {
	t.Helper()
	d := newDisk(t, plain)
	lay(t, d, b)
	s, e := snap.Open(d)
	if (s == nil) == (e == api.OK) {
		t.Fatalf("Open of %v: store %v, error %d", b, s, e)
	}
	if s == nil {
		return
	}
	m := told(t, s)
	r := varint.Open(b)
	r.Bytes(len(b))
	m.last = int(r.Number(math.MaxUint64))
	if !bytes.Equal(m.bytes(), b) {
		t.Fatalf("Open of\n%v is a store of\n%v", b, m.bytes())
	}
	callAll(s)
	if s, e := snap.Open(d); s == nil || e != api.OK {
		t.Fatalf("%v: behind all calls Open returns error %d", b, e)
	}
}

// told is a model of what a store tells; its last number isn't.
func told(t *testing.T, s *snap.Store) *model {
	t.Helper()
	m := newModel()
	for _, id := range append([]int{0}, s.List()...) {
		x, e := s.Image(id)
		wantErr(t, e, api.OK)
		got := blocks{}
		for i := range x.Blocks().All {
			b, _ := x.Get(i)
			got[i] = block(b...)
		}
		if id == 0 {
			m.image = got
			continue
		}
		m.snaps[id] = got
	}
	return m
}

// The greatest number that there is: none follows it.
func TestTheGreatestNumber(t *testing.T) {
	d := newDisk(t, plain)
	m := &model{image: blocks{1: block(1)}, last: math.MaxInt - 1, snaps: map[int]blocks{}}
	lay(t, d, m.bytes())
	s := wantOpened(t, d, &model{image: m.image})
	newSnapshot(t, s, math.MaxInt)
	for range 2 {
		if id, e := s.Create(); id != 0 || e != api.ErrFull {
			t.Errorf("Create() = %d, %d, want 0, ErrFull", id, e)
		}
		wantList(t, s, math.MaxInt)
		s = open(t, d)
	}
	forget(t, s, math.MaxInt)
	if id, e := s.Create(); id != 0 || e != api.ErrFull {
		t.Errorf("Create() = %d, %d, want 0, ErrFull", id, e)
	}
	setBlock(t, s, 1, 2)
	wantImageOf(t, open(t, d), 0, blocks{1: block(2)})
}

// Many calls, mixed, against the model.

// opOf is a change of three bytes.
func opOf(what, x, y byte, m *model) op {
	switch what % 8 {
	case 0, 1, 2:
		return set(int(x)%12*25-9, pattern(int(y)%36, int(x))...)
	case 3:
		return set(int(x) % 12 * 25)
	case 4, 5:
		return create()
	}
	if l := m.ids(); len(l) > 0 && x > 20 {
		return remove(l[int(y)%len(l)])
	}
	return remove(int(x) - 5)
}

// play makes a call of each three bytes, and holds it against the model; it returns
// what the store told.
func play(t *testing.T, n int, calls []byte) string {
	t.Helper()
	d := newDisk(t, n)
	s, m := open(t, d), newModel()
	var out []byte
	for c := range slices.Chunk(calls, 3) {
		if len(c) < 3 {
			break
		}
		plan := -1
		switch {
		case c[0] < 40:
			s = wantOpened(t, d, m)
		case c[0] < 90:
			plan = int(c[0]) % 12
		}
		d.Plan(plan, int(c[2])%70-2)
		o := opOf(c[0], c[1], c[2], m)
		id, e := do(s, o)
		out = fmt.Append(out, id, e, s.List(), s.Gen(), d.Count())
		next, want := wantOf(m, o, s.Room(), plan)
		if e != want.e || id != want.id {
			t.Fatalf("change %v: %d, error %d, want %d, %d", o, id, e, want.id, want.e)
		}
		if e == api.OK {
			m = next
		}
		wantState(t, s, m)
		off := !d.On()
		d.Up()
		if off {
			// The store has to be opened again.
			m, s = wantEither(t, d, m, next)
		}
		if s.Gen() > 0 {
			wantBytes(t, d, m.bytes())
		}
	}
	return string(append(out, all(t, d)...))
}

type answer struct {
	id int
	e  api.Errno
}

// wantOf is what a change on a store is to return, and the model behind it, also if
// power fails at it.
func wantOf(m *model, o op, room, plan int) (*model, answer) {
	next, id, e := m.next(o)
	switch {
	case e != api.OK:
		return m, answer{0, e}
	case len(next.bytes()) > room:
		return m, answer{0, api.ErrFull}
	case plan >= 0 && plan < writes(len(next.bytes())):
		return next, answer{0, api.ErrDown}
	}
	return next, answer{id, api.OK}
}

// calls is n calls without a plain pattern, the same ones each time.
func calls(n int, seed uint32) []byte {
	b := make([]byte, 3*n)
	for i := range b {
		seed = seed*1664525 + 1013904223
		b[i] = byte(seed >> 24)
	}
	return b
}

func TestManyCalls(t *testing.T) {
	for seed := range uint32(60) {
		play(t, []int{4, 6, 9, 20, plain, 100, 1000}[seed%7], calls(300, seed))
	}
}

// The results depend on the arguments and on the earlier calls on the same disk alone
// (P2).
func TestSameCallsAgain(t *testing.T) {
	for seed := range uint32(10) {
		first := play(t, plain, calls(150, seed))
		play(t, 9, calls(50, seed+1))
		if play(t, plain, calls(150, seed)) != first {
			t.Errorf("other results of the calls of seed %d", seed)
		}
	}
}

func FuzzCalls(f *testing.F) {
	f.Add(uint8(0), calls(20, 1))
	f.Add(uint8(30), calls(20, 2))
	f.Add(uint8(6), []byte{})
	f.Fuzz(func(t *testing.T, n uint8, b []byte) { play(t, 4+int(n%100), b[:min(len(b), 600)]) })
}

// FuzzOpen opens a store of any bytes.
func FuzzOpen(f *testing.F) {
	f.Add([]byte{})
	f.Add([]byte{1, 0, 0, 0})
	f.Add([]byte{1, 0, 3, 2, 1, 1, 0, 3, 1, 0})
	m := &model{image: blocks{1: block(1)}, last: 9, snaps: map[int]blocks{2: {3: block(4)}, 9: {}}}
	f.Add(m.bytes())
	f.Fuzz(func(t *testing.T, b []byte) { openAny(t, b[:min(len(b), 19*size)]) })
}

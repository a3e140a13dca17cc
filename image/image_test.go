package image_test

import (
	"bytes"
	"math"
	"slices"
	"testing"

	"revenant/api"
	"revenant/digest"
	"revenant/extent"
	"revenant/image"
	"revenant/varint"
)

// outside is numbers that no block has.
var outside = []int{-1, 256, -2, 257, -255, -256, 512, 1 << 32, -1 << 32, 1<<32 + 3, 1 << 62, math.MaxInt, math.MinInt}

// full is a block: these bytes, and bytes 0 behind them.
func full(b ...byte) []byte {
	return append(bytes.Clone(b), make([]byte, api.Block-len(b))...)
}

// model is what an image should be: at each number a block, or nil for a hole.
type model [api.MaxImage][]byte

// bytes is the bytes of the image, made without the layers below.
func (m *model) bytes() []byte {
	var ends []int
	var blocks []byte
	for i, b := range m {
		if b == nil {
			continue
		}
		blocks = append(blocks, b...)
		if n := len(ends); n > 0 && ends[n-1] == i {
			ends[n-1] = i + 1
		} else {
			ends = append(ends, i, i+1)
		}
	}
	s, last := number(len(ends)/2), 0
	for i := 0; i < len(ends); i += 2 {
		s = append(s, number(ends[i]-last)...)
		s = append(s, number(ends[i+1]-ends[i])...)
		last = ends[i+1]
	}
	s = append(s, blocks...)
	return append(number(len(s)), s...)
}

// number is the bytes of a number below 16384.
func number(n int) []byte {
	if n < 128 {
		return []byte{byte(n)}
	}
	return []byte{byte(n%128 + 128), byte(n / 128)}
}

// image is one of these blocks, put.
func (m *model) image(t *testing.T) *image.Image {
	t.Helper()
	x := image.New()
	for i, b := range m {
		if b != nil {
			put(t, x, i, b)
		}
	}
	return x
}

// clone is a copy. Its blocks are the same memory, which no test writes to.
func (m *model) clone() *model {
	c := *m
	return &c
}

// modelOf is an image with a block at each of these numbers, which says its number.
func modelOf(numbers ...int) *model {
	var m model
	for _, i := range numbers {
		m[i] = full(byte(i), byte(i+1), 3)
	}
	return &m
}

// one is an image with one block.
func one(i int, b []byte) *model {
	var m model
	m[i] = b
	return &m
}

func imageOf(t *testing.T, numbers ...int) *image.Image {
	t.Helper()
	return modelOf(numbers...).image(t)
}

// upTo is the numbers from 0 on, below n.
func upTo(n int) []int {
	l := make([]int, n)
	for i := range l {
		l[i] = i
	}
	return l
}

func put(t *testing.T, m *image.Image, i int, b []byte) {
	t.Helper()
	if e := m.Put(i, b); e != api.OK {
		t.Fatalf("Put(%d, %x) = %d", i, b, e)
	}
}

func clearAt(t *testing.T, m *image.Image, i int) {
	t.Helper()
	if e := m.Clear(i); e != api.OK {
		t.Fatalf("Clear(%d) = %d", i, e)
	}
}

// wantBlock looks at one block; nil is a hole.
func wantBlock(t *testing.T, m *image.Image, i int, want []byte) {
	t.Helper()
	b, ok := m.Get(i)
	if ok != (want != nil) || !bytes.Equal(b, want) {
		t.Fatalf("Get(%d) = %x, %t, want %x", i, b, ok, want)
	}
}

// wantImage looks at all that an image has.
func wantImage(t *testing.T, m *image.Image, want *model) {
	t.Helper()
	for i, b := range want {
		wantBlock(t, m, i, b)
	}
	for _, i := range outside {
		wantBlock(t, m, i, nil)
	}
	wantSet(t, "Blocks()", m.Blocks(), func(i int) bool { return want[i] != nil })
	if b := m.Bytes(); !bytes.Equal(b, want.bytes()) {
		t.Fatalf("Bytes() = %x, want %x", b, want.bytes())
	}
}

// wantHoles looks whether an image has no block.
func wantHoles(t *testing.T, m *image.Image) {
	t.Helper()
	wantImage(t, m, &model{})
}

// wantSet looks whether a set is of the numbers that in tells, in as few runs as
// possible.
func wantSet(t *testing.T, what string, s extent.Set, in func(i int) bool) {
	t.Helper()
	var want extent.Set
	for i := range api.MaxImage {
		if !in(i) {
			continue
		}
		if n := len(want); n > 0 && want[n-1].To == i {
			want[n-1].To++
		} else {
			want = append(want, extent.Run{From: i, To: i + 1})
		}
	}
	if !slices.Equal(s, want) {
		t.Fatalf("%s = %v, want %v", what, s, want)
	}
}

// wantNumbers looks whether a set has exactly these numbers.
func wantNumbers(t *testing.T, what string, s extent.Set, want ...int) {
	t.Helper()
	wantSet(t, what, s, func(i int) bool { return slices.Contains(want, i) })
}

// wantRuns looks whether a set has exactly these runs, given by their ends.
func wantRuns(t *testing.T, what string, s extent.Set, ends ...int) {
	t.Helper()
	var want extent.Set
	for i := 0; i+1 < len(ends); i += 2 {
		want = append(want, extent.Run{From: ends[i], To: ends[i+1]})
	}
	if !slices.Equal(s, want) {
		t.Errorf("%s = %v, want %v", what, s, want)
	}
}

// dice yields numbers that look mixed, the same ones for each seed.
type dice uint64

// next is a number from 0 on, below n.
func (d *dice) next(n int) int {
	*d = *d*6364136223846793005 + 1442695040888963407
	return int(uint64(*d) >> 33 % uint64(n))
}

// block is up to 32 bytes, most of them small, so that some blocks are alike.
func (d *dice) block() []byte {
	b := make([]byte, d.next(3)*16)
	for i := range b {
		b[i] = byte(d.next(6) / 5)
	}
	return b
}

// model is an image with a block at about one of every so many numbers.
func (d *dice) model() *model {
	var m model
	some := 1 + d.next(20)
	for i := range m {
		if d.next(some) == 0 {
			m[i] = full(d.block()...)
		}
	}
	return &m
}

// P9.1, P9.2: the chapter's example.
func TestExample(t *testing.T) {
	m := image.New()
	put(t, m, 3, []byte{7})
	wantRuns(t, "Blocks()", m.Blocks(), 3, 4)
	if b := m.Bytes(); !bytes.Equal(b, append([]byte{35, 1, 3, 1, 7}, make([]byte, 31)...)) {
		t.Errorf("Bytes() = %v", b)
	}
}

// P9.1: a new image is one of holes, and another one each time.
func TestNew(t *testing.T) {
	a, b := image.New(), image.New()
	wantHoles(t, a)
	put(t, a, 0, []byte{1})
	wantHoles(t, b)
	wantHoles(t, image.New())
	wantImage(t, a, &model{0: full(1)})
}

// P9.1: Put of each number of bytes, at each number.
func TestPut(t *testing.T) {
	b := make([]byte, api.Block)
	for i := range b {
		b[i] = byte(200 + i)
	}
	m, want := image.New(), &model{}
	for i := range api.MaxImage {
		n := i % (api.Block + 1)
		put(t, m, i, b[:n])
		want[i] = full(b[:n]...)
	}
	wantImage(t, m, want)
	for _, i := range []int{0, 1, 100, 254, 255} {
		for n := range api.Block + 1 {
			m := image.New()
			put(t, m, i, b[:n])
			wantImage(t, m, one(i, full(b[:n]...)))
		}
	}
}

// P9.1: a block of no byte is one of bytes 0, and no hole.
func TestPutOfNoByte(t *testing.T) {
	for _, b := range [][]byte{nil, {}, {0}, make([]byte, api.Block)} {
		m := image.New()
		put(t, m, 9, b)
		wantImage(t, m, &model{9: full()})
	}
}

// P9.1: Put over a block leaves nothing of it.
func TestPutOverABlock(t *testing.T) {
	long := bytes.Repeat([]byte{9}, api.Block)
	for _, i := range []int{0, 77, 255} {
		for _, b := range [][]byte{nil, {1}, {1, 2, 3}, long[:31], long, bytes.Repeat([]byte{8}, api.Block)} {
			m := image.New()
			put(t, m, i, long)
			put(t, m, i, b)
			wantImage(t, m, one(i, full(b...)))
			put(t, m, i, long)
			wantImage(t, m, one(i, long))
		}
	}
}

// P9.1: Put beside blocks leaves them as they are.
func TestPutBesideBlocks(t *testing.T) {
	m, want := imageOf(t, 0, 4, 6, 255), modelOf(0, 4, 6, 255)
	for _, i := range []int{5, 1, 254, 100} {
		put(t, m, i, []byte{byte(i)})
		want[i] = full(byte(i))
		wantImage(t, m, want)
	}
}

// P9.1: ErrArg of a number that isn't from 0 to 255, and of more than 32 bytes;
// then nothing is put.
func TestPutOfWrong(t *testing.T) {
	m, want := imageOf(t, 0, 3, 255), modelOf(0, 3, 255)
	for _, i := range outside {
		for _, n := range []int{0, 1, 32, 33, 1000} {
			if e := m.Put(i, make([]byte, n)); e != api.ErrArg {
				t.Errorf("Put(%d, %d bytes) = %d", i, n, e)
			}
		}
		if e := m.Put(i, nil); e != api.ErrArg {
			t.Errorf("Put(%d, nil) = %d", i, e)
		}
	}
	for _, i := range []int{0, 1, 3, 4, 128, 254, 255} {
		for _, n := range []int{33, 34, 64, 256, 9216, 100000} {
			if e := m.Put(i, make([]byte, n)); e != api.ErrArg {
				t.Errorf("Put(%d, %d bytes) = %d", i, n, e)
			}
		}
	}
	wantImage(t, m, want)
}

// P9.1: Clear makes a block a hole, and leaves the others.
func TestClear(t *testing.T) {
	all := upTo(api.MaxImage)
	m, want := imageOf(t, all...), modelOf(all...)
	for _, i := range []int{0, 255, 100, 101, 99, 1} {
		clearAt(t, m, i)
		want[i] = nil
		wantImage(t, m, want)
	}
	for i := range api.MaxImage {
		clearAt(t, m, i)
	}
	wantHoles(t, m)
}

// P9.1: Clear of a hole leaves it one; a block can be put there again.
func TestClearOfAHole(t *testing.T) {
	m := image.New()
	for _, i := range []int{0, 9, 255} {
		clearAt(t, m, i)
		wantHoles(t, m)
		put(t, m, i, bytes.Repeat([]byte{9}, api.Block))
		clearAt(t, m, i)
		clearAt(t, m, i)
		wantHoles(t, m)
		put(t, m, i, []byte{1})
		wantImage(t, m, one(i, full(1)))
		clearAt(t, m, i)
	}
}

// P9.1: ErrArg of a number that isn't from 0 to 255; then nothing is cleared.
func TestClearOfWrong(t *testing.T) {
	all := upTo(api.MaxImage)
	m := imageOf(t, all...)
	for _, i := range outside {
		if e := m.Clear(i); e != api.ErrArg {
			t.Errorf("Clear(%d) = %d", i, e)
		}
		if e := image.New().Clear(i); e != api.ErrArg {
			t.Errorf("of a new image: Clear(%d) = %d", i, e)
		}
	}
	wantImage(t, m, modelOf(all...))
}

// P9.1: Get of each kind of number, in images that lack all or nothing.
func TestGet(t *testing.T) {
	all := upTo(api.MaxImage)
	for _, m := range []*model{{}, modelOf(all...), modelOf(0), modelOf(255), modelOf(7, 8, 200), {3: full()}} {
		wantImage(t, m.image(t), m)
	}
}

// P9.1: Clone is the same image, and a change of either isn't one of the other.
func TestClone(t *testing.T) {
	for _, numbers := range [][]int{nil, {0}, {3, 4, 9, 255}, upTo(api.MaxImage)} {
		want := modelOf(numbers...)
		a := want.image(t)
		b := a.Clone()
		wantImage(t, b, want)
		wantImage(t, a, want)
		put(t, a, 3, []byte{1})
		clearAt(t, a, 9)
		wantImage(t, b, want)
		c := b.Clone()
		put(t, b, 4, []byte{2})
		put(t, b, 100, []byte{2})
		clearAt(t, b, 255)
		clearAt(t, b, 0)
		wantImage(t, c, want)
		changed := want.clone()
		changed[3], changed[9] = full(1), nil
		wantImage(t, a, changed)
		changed = want.clone()
		changed[4], changed[100], changed[255], changed[0] = full(2), full(2), nil, nil
		wantImage(t, b, changed)
	}
}

// P9.1: Blocks, in runs that are as few as possible.
func TestBlocks(t *testing.T) {
	for _, c := range []struct {
		numbers, ends []int
	}{
		{nil, nil},
		{[]int{0}, []int{0, 1}},
		{[]int{9}, []int{9, 10}},
		{[]int{255}, []int{255, 256}},
		{[]int{3, 4}, []int{3, 5}},
		{[]int{3, 5}, []int{3, 4, 5, 6}},
		{[]int{9, 7, 8, 0, 255, 20, 254}, []int{0, 1, 7, 10, 20, 21, 254, 256}},
		{upTo(api.MaxImage), []int{0, 256}},
	} {
		m := imageOf(t, c.numbers...)
		wantRuns(t, "Blocks()", m.Blocks(), c.ends...)
		if n := m.Blocks().Len(); n != len(c.numbers) {
			t.Errorf("Blocks().Len() = %d, want %d", n, len(c.numbers))
		}
	}
}

// P9.1: Blocks counts a block of bytes 0, and no hole that was a block.
func TestBlocksOfZeros(t *testing.T) {
	m := image.New()
	put(t, m, 5, nil)
	put(t, m, 6, nil)
	clearAt(t, m, 6)
	clearAt(t, m, 7)
	wantRuns(t, "Blocks()", m.Blocks(), 5, 6)
}

// P9.1: both results of Diff.
func TestDiff(t *testing.T) {
	zero := &model{5: full()}
	for _, c := range []struct {
		what      string
		m, base   *model
		put, gone []int
	}{
		{"both empty", modelOf(), modelOf(), nil, nil},
		{"an empty base", modelOf(1, 2, 9), modelOf(), []int{1, 2, 9}, nil},
		{"empty itself", modelOf(), modelOf(1, 2, 9), nil, []int{1, 2, 9}},
		{"the same", modelOf(1, 2, 9), modelOf(1, 2, 9), nil, nil},
		{"others", modelOf(1, 3), modelOf(2, 4, 255), []int{1, 3}, []int{2, 4, 255}},
		{"more", modelOf(0, 1, 2, 9, 255), modelOf(1, 2), []int{0, 9, 255}, nil},
		{"fewer", modelOf(1, 2), modelOf(0, 1, 2, 9, 255), nil, []int{0, 9, 255}},
		{"some of both", modelOf(1, 2, 3), modelOf(2, 3, 4), []int{1}, []int{4}},
		{"another block", &model{1: full(1), 2: full(2)}, &model{1: full(1), 2: full(3)}, []int{2}, nil},
		{"other blocks", &model{1: full(1), 2: full(2)}, &model{1: full(2), 2: full(1)}, []int{1, 2}, nil},
		{"zeros against a hole", zero, modelOf(), []int{5}, nil},
		{"a hole against zeros", modelOf(), zero, nil, []int{5}},
		{"zeros against zeros", zero, zero, nil, nil},
		{"zeros against a block", zero, &model{5: full(1)}, []int{5}, nil},
		{"a block against zeros", &model{5: full(1)}, zero, []int{5}, nil},
		{"all", modelOf(upTo(256)...), modelOf(), upTo(256), nil},
		{"all gone", modelOf(), modelOf(upTo(256)...), nil, upTo(256)},
	} {
		m, base := c.m.image(t), c.base.image(t)
		put, gone := m.Diff(base)
		wantNumbers(t, c.what+": what is put", put, c.put...)
		wantNumbers(t, c.what+": what is gone", gone, c.gone...)
		wantImage(t, m, c.m)
		wantImage(t, base, c.base)
	}
}

// P9.1: a block is different if any of its bytes, or bits, is.
func TestDiffOfEachBit(t *testing.T) {
	for at := range api.Block {
		for bit := range 8 {
			b := bytes.Repeat([]byte{0xa5}, api.Block)
			a := model{7: bytes.Clone(b), 8: bytes.Clone(b)}
			b[at] ^= 1 << bit
			m, other := a.image(t), (&model{7: a[7], 8: b}).image(t)
			put, gone := m.Diff(other)
			wantNumbers(t, "what is put", put, 8)
			wantNumbers(t, "what is gone", gone)
			if image.Same(m, other) || m.Digest() == other.Digest() {
				t.Fatalf("byte %d, bit %d: the same", at, bit)
			}
		}
	}
}

// P9.1: of an image with itself, and with its clone.
func TestDiffWithItself(t *testing.T) {
	d := dice(1)
	for range 50 {
		m := d.model().image(t)
		for _, base := range []*image.Image{m, m.Clone()} {
			put, gone := m.Diff(base)
			if len(put) != 0 || len(gone) != 0 || !image.Same(m, base) {
				t.Errorf("%v: Diff = %v, %v, Same = %t", m.Blocks(), put, gone, image.Same(m, base))
			}
		}
	}
}

// wantCompared looks whether Diff and Same tell of two images what the models do.
func wantCompared(t *testing.T, a, b *image.Image, m, base *model) {
	t.Helper()
	same := true
	put, gone := a.Diff(b)
	wantSet(t, "what is put", put, func(i int) bool { return m[i] != nil && !bytes.Equal(m[i], base[i]) })
	wantSet(t, "what is gone", gone, func(i int) bool { return m[i] == nil && base[i] != nil })
	for i := range m {
		same = same && bytes.Equal(m[i], base[i])
	}
	if image.Same(a, b) != same || image.Same(b, a) != same {
		t.Fatalf("Same = %t, and the other way %t, want %t", image.Same(a, b), image.Same(b, a), same)
	}
	if (a.Digest() == b.Digest()) != same {
		t.Fatalf("the digests %v and %v, want them the same: %t", a.Digest(), b.Digest(), same)
	}
}

// P9.1: of many mixed images.
func TestDiffAndSameOfMixedImages(t *testing.T) {
	d := dice(2)
	for range 150 {
		m, base := d.model(), d.model()
		wantCompared(t, m.image(t), base.image(t), m, base)
		for range 3 {
			base = m.clone()
			i := d.next(api.MaxImage)
			base[i] = [][]byte{nil, full(), full(1), full(0, 1)}[d.next(4)]
			wantCompared(t, m.image(t), base.image(t), m, base)
			wantCompared(t, base.image(t), m.image(t), base, m)
		}
	}
}

// P9.1: what is put and gone makes the image of its base.
func TestDiffMakesTheImage(t *testing.T) {
	d := dice(3)
	for range 100 {
		want := d.model()
		m, base := want.image(t), d.model().image(t)
		put, gone := m.Diff(base)
		for i := range gone.All {
			clearAt(t, base, i)
		}
		for i := range put.All {
			b, ok := m.Get(i)
			if !ok {
				t.Fatalf("%d is put, but a hole", i)
			}
			base.Put(i, b)
		}
		wantImage(t, base, want)
	}
}

// P9.1: Same of equal and of different images.
func TestSame(t *testing.T) {
	for _, c := range []struct {
		what string
		a, b *model
		want bool
	}{
		{"both empty", modelOf(), modelOf(), true},
		{"the same block", modelOf(3), modelOf(3), true},
		{"the same blocks", modelOf(0, 3, 255), modelOf(0, 3, 255), true},
		{"all", modelOf(upTo(256)...), modelOf(upTo(256)...), true},
		{"a block more", modelOf(0, 3, 255), modelOf(0, 255), false},
		{"against none", modelOf(3), modelOf(), false},
		{"elsewhere", &model{3: full(1)}, &model{4: full(1)}, false},
		{"another block", &model{3: full(1)}, &model{3: full(2)}, false},
		{"another last byte", &model{3: append(make([]byte, 31), 1)}, &model{3: full()}, false},
		{"zeros against a hole", &model{3: full()}, modelOf(), false},
		{"zeros", &model{3: full()}, &model{3: full()}, true},
	} {
		a, b := c.a.image(t), c.b.image(t)
		if image.Same(a, b) != c.want || image.Same(b, a) != c.want {
			t.Errorf("%s: Same = %t, and the other way %t, want %t", c.what, image.Same(a, b), image.Same(b, a), c.want)
		}
	}
}

// P9.1: in which way an image became what it is doesn't matter.
func TestSameInEachWay(t *testing.T) {
	a, b := image.New(), image.New()
	for _, i := range []int{5, 200, 0} {
		put(t, a, i, []byte{byte(i)})
	}
	for _, i := range []int{0, 9, 5, 200} {
		put(t, b, i, bytes.Repeat([]byte{7}, api.Block))
		put(t, b, i, append([]byte{byte(i)}, 0, 0))
	}
	clearAt(t, b, 9)
	if !image.Same(a, b) || !bytes.Equal(a.Bytes(), b.Bytes()) || a.Digest() != b.Digest() {
		t.Errorf("%x and %x aren't the same", a.Bytes(), b.Bytes())
	}
}

// P9.2: the bytes, written out.
func TestBytes(t *testing.T) {
	x, y, z := full(1, 2, 3), bytes.Repeat([]byte{255}, api.Block), full()
	join := func(l ...[]byte) []byte { return bytes.Join(l, nil) }
	var all [][]byte
	full256 := &model{}
	for i := range full256 {
		full256[i] = full(byte(i))
		all = append(all, full(byte(i)))
	}
	for _, c := range []struct {
		what string
		m    *model
		want []byte
	}{
		{"holes", &model{}, []byte{1, 0}},
		{"block 0", &model{0: x}, join([]byte{35, 1, 0, 1}, x)},
		{"block 255", &model{255: y}, join([]byte{36, 1, 255, 1, 1}, y)},
		{"zeros", &model{1: z}, join([]byte{35, 1, 1, 1}, z)},
		{"two that touch", &model{7: x, 8: y}, join([]byte{67, 1, 7, 2}, x, y)},
		{"two that don't", &model{7: x, 9: y}, join([]byte{69, 2, 7, 1, 1, 1}, x, y)},
		{"four", &model{0: y, 2: x, 3: z, 200: x}, join([]byte{136, 1, 3, 0, 1, 1, 2, 196, 1, 1}, y, x, z, x)},
		{"all", full256, join([]byte{132, 64, 1, 0, 128, 2}, join(all...))},
	} {
		b := c.m.image(t).Bytes()
		if !bytes.Equal(b, c.want) {
			t.Errorf("%s: Bytes() = %v, want %v", c.what, b, c.want)
		}
		if !bytes.Equal(c.m.bytes(), c.want) {
			t.Errorf("%s: the model's bytes are %v, want %v", c.what, c.m.bytes(), c.want)
		}
	}
}

// P9.2: the order in which blocks are put is nothing to the bytes.
func TestBytesInEachOrder(t *testing.T) {
	all := upTo(api.MaxImage)
	want := modelOf(all...)
	for step := 1; step < api.MaxImage; step += 24 {
		m := image.New()
		for i := range all {
			at := i * step % api.MaxImage
			put(t, m, at, want[at])
		}
		if !bytes.Equal(m.Bytes(), want.bytes()) {
			t.Errorf("with a step of %d: other bytes", step)
		}
	}
}

// read reads an image from bytes, and looks at the error.
func read(t *testing.T, b []byte, want api.Errno) (*image.Image, *varint.Reader) {
	t.Helper()
	r := varint.Open(b)
	m, e := image.Read(r)
	if e != want {
		t.Fatalf("Read of %x: error %d, want %d", b, e, want)
	}
	if (m == nil) != (e != api.OK) {
		t.Fatalf("Read of %x: image %v beside error %d", b, m, e)
	}
	return m, r
}

// wantLeft looks whether a reader has no error, and exactly these bytes.
func wantLeft(t *testing.T, r *varint.Reader, want []byte) {
	t.Helper()
	if e := r.Failed(); e != api.OK {
		t.Fatalf("the reader has error %d", e)
	}
	// A number that can't be read is what is left if it ends there.
	for len(want) > 0 {
		n, size, e := varint.Next(want)
		if got := r.Number(math.MaxUint64); got != n || r.Failed() != e {
			t.Fatalf("left is %d, %d, want %d, %d", got, r.Failed(), n, e)
		}
		if e != api.OK {
			return
		}
		want = want[size:]
	}
	if e := r.End(); e != api.OK {
		t.Fatalf("the reader's end: %d", e)
	}
}

// modelsToRead is images of many kinds.
func modelsToRead() []*model {
	l := []*model{{}, {0: full()}, {255: full(1)}, modelOf(3), modelOf(3, 4), modelOf(3, 5), modelOf(upTo(256)...)}
	var odd []int
	for i := 1; i < api.MaxImage; i += 2 {
		odd = append(odd, i)
	}
	l = append(l, modelOf(odd...))
	d := dice(4)
	for range 40 {
		l = append(l, d.model())
	}
	return l
}

// P9.3: the bytes of an image are read as that image; the reader is behind them, and
// what comes there stays.
func TestReadOfBytes(t *testing.T) {
	for _, want := range modelsToRead() {
		x := want.image(t)
		for _, behind := range []string{"", "\x07", "\x00\x01", "\x80", "\x01\x00"} {
			m, r := read(t, append(x.Bytes(), behind...), api.OK)
			wantImage(t, m, want)
			if !image.Same(m, x) || m.Digest() != x.Digest() {
				t.Fatalf("%x is read as another image", x.Bytes())
			}
			wantLeft(t, r, []byte(behind))
		}
	}
}

// P9.2: images one behind the other are read one behind the other.
func TestReadOfSeveralImages(t *testing.T) {
	var b []byte
	for _, m := range modelsToRead() {
		b = append(b, m.image(t).Bytes()...)
		b = varint.Put(b, 12345)
	}
	r := varint.Open(b)
	for _, want := range modelsToRead() {
		m, e := image.Read(r)
		if e != api.OK {
			t.Fatalf("error %d", e)
		}
		wantImage(t, m, want)
		if n := r.Number(12345); n != 12345 {
			t.Fatalf("behind the image: %d", n)
		}
	}
	if e := r.End(); e != api.OK {
		t.Errorf("the end: %d", e)
	}
}

// P9.1, P9.2: what is read is an image like each other one.
func TestWhatIsReadCanBeChanged(t *testing.T) {
	for _, want := range modelsToRead() {
		m, _ := read(t, want.bytes(), api.OK)
		changed := want.clone()
		put(t, m, 3, []byte{1})
		clearAt(t, m, 4)
		changed[3], changed[4] = full(1), nil
		wantImage(t, m, changed)
	}
}

// str is the bytes of a string of these parts.
func str(l ...[]byte) []byte {
	return varint.Bytes(nil, bytes.Join(l, nil))
}

// P9.2: layer 1's errors of the string.
func TestReadOfNoString(t *testing.T) {
	for _, c := range []struct {
		what string
		b    []byte
		e    api.Errno
	}{
		{"nothing", nil, api.ErrCut},
		{"half of a length", []byte{128}, api.ErrCut},
		{"a length alone", []byte{1}, api.ErrCut},
		{"a string without its last byte", []byte{2, 0}, api.ErrCut},
		{"a length of 9216 alone", varint.Put(nil, 9216), api.ErrCut},
		{"a length of 9217 alone", varint.Put(nil, 9217), api.ErrLong},
		{"2^64 - 1", varint.Put(nil, math.MaxUint64), api.ErrLong},
		{"2^63", varint.Put(nil, 1<<63), api.ErrLong},
		{"2^32", varint.Put(nil, 1<<32), api.ErrLong},
		{"no number", []byte{128, 0}, api.ErrForm},
		{"no number, of ten bytes", append(bytes.Repeat([]byte{255}, 9), 2), api.ErrForm},
		{"no number, of eleven", append(bytes.Repeat([]byte{255}, 10), 1), api.ErrForm},
		{"a length that is too long by a byte 0", []byte{129, 0, 0}, api.ErrForm},
	} {
		_, r := read(t, c.b, c.e)
		if r.Failed() != c.e {
			t.Errorf("%s: the reader's error: %d, want %d", c.what, r.Failed(), c.e)
		}
	}
}

// P9.2: a string of 9216 bytes is taken, and is none of an image; one more is ErrLong,
// whatever is in it.
func TestReadOfTheLongestString(t *testing.T) {
	for _, head := range [][]byte{{0}, {1, 0, 128, 2}, {1, 255, 1, 1}} {
		long := append(bytes.Clone(head), make([]byte, 9216-len(head))...)
		_, r := read(t, append(str(long), 7), api.ErrForm)
		wantLeft(t, r, []byte{7})
		_, r = read(t, append(str(long, []byte{0}), 7), api.ErrLong)
		if r.Failed() != api.ErrLong {
			t.Errorf("the reader's error: %d", r.Failed())
		}
	}
	// A set's error tells that the string was read.
	wrong := append([]byte{1, 0, 0}, make([]byte, 9213)...)
	read(t, str(wrong), api.ErrForm)
	wrong[0], wrong[1] = 129, 2
	read(t, str(wrong), api.ErrLong)
	read(t, str(bytes.Repeat([]byte{128}, 9216)), api.ErrForm)
	read(t, str(bytes.Repeat([]byte{128}, 9217)), api.ErrLong)
}

// setErrors is bytes that are no set of numbers below 256, and their errors.
func setErrors() []struct {
	what string
	b    []byte
	e    api.Errno
} {
	return []struct {
		what string
		b    []byte
		e    api.Errno
	}{
		{"nothing", nil, api.ErrCut},
		{"half of a number of runs", []byte{128}, api.ErrCut},
		{"no number of runs", []byte{128, 0}, api.ErrForm},
		{"256 runs and none", []byte{128, 2}, api.ErrCut},
		{"257 runs", []byte{129, 2}, api.ErrLong},
		{"2^64 - 1 runs", varint.Put(nil, math.MaxUint64), api.ErrLong},
		{"a run without its numbers", []byte{1}, api.ErrCut},
		{"a run without its second number", []byte{1, 3}, api.ErrCut},
		{"a run whose first number is none", []byte{1, 128, 0}, api.ErrForm},
		{"a run whose second number is none", []byte{1, 0, 128, 0}, api.ErrForm},
		{"a run from 256 on, without a number", []byte{1, 128, 2, 0}, api.ErrForm},
		{"a run from 256 on", []byte{1, 128, 2, 1}, api.ErrLong},
		{"a run from 257 on", []byte{1, 129, 2, 1}, api.ErrLong},
		{"257 numbers", []byte{1, 0, 129, 2}, api.ErrLong},
		{"256 numbers from 1 on", []byte{1, 1, 128, 2}, api.ErrLong},
		{"255 to 257", []byte{1, 255, 1, 2}, api.ErrLong},
		{"a second run behind 255", []byte{2, 254, 1, 1, 1, 1}, api.ErrLong},
		{"a second run from 257 on", []byte{2, 254, 1, 1, 2, 1}, api.ErrLong},
		{"a run without numbers", []byte{1, 3, 0}, api.ErrForm},
		{"a run that touches another one", []byte{2, 3, 1, 0, 1}, api.ErrForm},
		{"a second run that is cut", []byte{2, 3, 1, 2}, api.ErrCut},
	}
}

// P9.2: layer 8's errors of the set; the string is consumed then, and the reader
// goes on.
func TestReadOfNoSet(t *testing.T) {
	for _, c := range setErrors() {
		_, r := read(t, append(str(c.b), 7), c.e)
		wantLeft(t, r, []byte{7})
		// The set is read from the string alone, not from what comes behind it.
		_, r = read(t, append(str(c.b), bytes.Repeat([]byte{1}, 40)...), c.e)
		wantLeft(t, r, bytes.Repeat([]byte{1}, 40))
	}
}

// P9.2: the set's error comes also if blocks are behind it, as few or many as may be.
func TestErrorOfTheSetComesAheadOfTheBlocks(t *testing.T) {
	for _, c := range setErrors() {
		if c.e == api.ErrCut {
			continue
		}
		for _, n := range []int{0, 1, 31, 32, 33, 64, 8192, 9000} {
			read(t, str(c.b, make([]byte, n)), c.e)
		}
	}
	// 256 runs, each of which takes its numbers from what could be blocks.
	read(t, str([]byte{128, 2}, bytes.Repeat([]byte{1}, 600)), api.ErrLong)
}

// P9.2: the string's error comes ahead of the set's.
func TestErrorOfTheStringComesFirst(t *testing.T) {
	for _, c := range setErrors() {
		b := str(c.b, make([]byte, 3))
		read(t, b[:len(b)-1], api.ErrCut)
		read(t, append(varint.Put(nil, 9217), c.b...), api.ErrLong)
		read(t, append([]byte{128, 0}, c.b...), api.ErrForm)
	}
}

// P9.2: numbers up to 255 are taken.
func TestReadOfTheGreatestNumbers(t *testing.T) {
	x := full(9)
	m, _ := read(t, str([]byte{1, 255, 1, 1}, x), api.OK)
	wantImage(t, m, &model{255: x})
	m, _ = read(t, str([]byte{1, 254, 1, 2}, x, full()), api.OK)
	wantImage(t, m, &model{254: x, 255: full()})
	m, _ = read(t, str([]byte{2, 0, 1, 254, 1, 1}, full(1), x), api.OK)
	wantImage(t, m, &model{0: full(1), 255: x})
	m, _ = read(t, str([]byte{1, 0, 128, 2}, make([]byte, 8192)), api.OK)
	zeros := &model{}
	for i := range zeros {
		zeros[i] = full()
	}
	wantImage(t, m, zeros)
}

// P9.2: ErrForm if what is left isn't exactly that many blocks.
func TestReadOfWrongBlocks(t *testing.T) {
	for _, c := range []struct {
		set    []byte
		blocks int
	}{
		{[]byte{0}, 0}, {[]byte{1, 0, 1}, 1}, {[]byte{1, 3, 1}, 1}, {[]byte{1, 3, 2}, 2}, {[]byte{2, 3, 1, 1, 1}, 2},
		{[]byte{3, 3, 1, 1, 7, 200, 1, 3}, 11}, {[]byte{1, 0, 128, 2}, 256}, {[]byte{1, 0, 255, 1}, 255},
	} {
		right := c.blocks * api.Block
		for _, by := range []int{-8192, -64, -33, -32, -31, -16, -1, 1, 2, 31, 32, 33, 64, 255, 256, 1000} {
			if right+by < 0 {
				continue
			}
			_, r := read(t, append(str(c.set, make([]byte, right+by)), 7), api.ErrForm)
			wantLeft(t, r, []byte{7})
		}
		_, r := read(t, append(str(c.set, make([]byte, right)), 7), api.OK)
		wantLeft(t, r, []byte{7})
	}
}

// P9.2: no bytes behind the string stand in for blocks that it lacks.
func TestReadTakesNoBlocksFromBehindTheString(t *testing.T) {
	behind := full(1, 2, 3)
	_, r := read(t, append(str([]byte{1, 3, 1}), behind...), api.ErrForm)
	wantLeft(t, r, behind)
	_, r = read(t, append(str([]byte{1, 3, 2}, full()), behind...), api.ErrForm)
	wantLeft(t, r, behind)
}

// P9.2: bytes that end too early, after each byte.
func TestReadOfCutBytes(t *testing.T) {
	for _, m := range modelsToRead() {
		b := m.bytes()
		// Short ones at each place, long ones at some.
		for n := 0; n < len(b); n += 1 + len(b)/400 {
			_, r := read(t, b[:n], api.ErrCut)
			if r.Failed() != api.ErrCut {
				t.Errorf("%x: the reader's error: %d", b[:n], r.Failed())
			}
		}
		read(t, b[:len(b)-1], api.ErrCut)
	}
}

// P9.2: a string that ends too early, after each byte.
func TestReadOfCutStrings(t *testing.T) {
	for _, c := range []struct {
		s   []byte
		set int
	}{
		{[]byte{0}, 1},
		{append([]byte{1, 3, 1}, full(1)...), 3},
		{append([]byte{2, 3, 1, 250, 1, 1}, make([]byte, 64)...), 6},
	} {
		for n := range c.s {
			want := api.ErrForm
			if n < c.set {
				want = api.ErrCut
			}
			read(t, str(c.s[:n]), want)
		}
		read(t, str(c.s), api.OK)
	}
}

// P9.2: an error that the reader had before the call, which stays the reader's.
func TestReadOfAReaderWithAnError(t *testing.T) {
	good := modelOf(3).bytes()
	for _, c := range []struct {
		b string
		e api.Errno
	}{{"\x80", api.ErrCut}, {"\x80\x00", api.ErrForm}, {"\x01", api.ErrLong}} {
		b := []byte(c.b)
		if c.e != api.ErrCut {
			b = append(b, good...)
		}
		r := varint.Open(b)
		r.Number(0)
		for range 3 {
			if m, e := image.Read(r); m != nil || e != c.e || r.Failed() != c.e {
				t.Errorf("Read = %v, %d, the reader's error: %d, want %d", m, e, r.Failed(), c.e)
			}
		}
	}
}

// P9.2: the first error of the reader stays that of each later call.
func TestReadAgainBehindAnError(t *testing.T) {
	_, r := read(t, append(varint.Put(nil, 9217), modelOf(3).bytes()...), api.ErrLong)
	for range 3 {
		if m, e := image.Read(r); m != nil || e != api.ErrLong {
			t.Errorf("Read again = %v, %d", m, e)
		}
	}
}

// P9.2: behind a wrong image of a right string, the next one is read.
func TestReadBehindAWrongImage(t *testing.T) {
	for _, c := range setErrors() {
		_, r := read(t, append(str(c.b), modelOf(3).bytes()...), c.e)
		m, e := image.Read(r)
		if e != api.OK {
			t.Fatalf("%s: then error %d", c.what, e)
		}
		wantImage(t, m, modelOf(3))
	}
}

// P9.2: a nil reader's error is layer 1's.
func TestReadOfANilReader(t *testing.T) {
	if m, e := image.Read(nil); m != nil || e != api.ErrArg {
		t.Errorf("Read(nil) = %v, %d", m, e)
	}
}

// modelRead reads an image from bytes without a reader: it, the error, and how many
// bytes were consumed, if the reader has no error.
func modelRead(b []byte) (*model, api.Errno, int) {
	n, size, e := varint.Next(b)
	if e != api.OK {
		return nil, e, -1
	}
	if n > 9216 {
		return nil, api.ErrLong, -1
	}
	if n > uint64(len(b)-size) {
		return nil, api.ErrCut, -1
	}
	end := size + int(n)
	numbers, used, e := modelSet(b[size:end])
	if e != api.OK {
		return nil, e, end
	}
	blocks := b[size+used : end]
	if len(blocks) != api.Block*len(numbers) {
		return nil, api.ErrForm, end
	}
	var m model
	for i, at := range numbers {
		m[at] = bytes.Clone(blocks[api.Block*i : api.Block*(i+1)])
	}
	return &m, api.OK, end
}

// modelSet reads the numbers of a set, and tells how many bytes it has.
func modelSet(b []byte) (numbers []int, used int, e api.Errno) {
	next := func(bound int) int {
		if e != api.OK {
			return 0
		}
		n, size, bad := varint.Next(b[used:])
		if e = bad; e == api.OK && n > uint64(bound) {
			e = api.ErrLong
		}
		if e != api.OK {
			return 0
		}
		used += size
		return int(n)
	}
	last := 0
	for i := range next(api.MaxImage) {
		apart := next(api.MaxImage - last)
		from := last + apart
		size := next(api.MaxImage - from)
		if e == api.OK && (size == 0 || i > 0 && apart == 0) {
			e = api.ErrForm
		}
		if e != api.OK {
			return nil, 0, e
		}
		last = from + size
		for n := from; n < last; n++ {
			numbers = append(numbers, n)
		}
	}
	return numbers, used, e
}

// wantReadLike compares Read with the model.
func wantReadLike(t *testing.T, b []byte) {
	t.Helper()
	want, wantE, used := modelRead(b)
	m, r := read(t, b, wantE)
	if used < 0 {
		if r.Failed() != wantE {
			t.Fatalf("%x: the reader's error: %d, want %d", b, r.Failed(), wantE)
		}
		return
	}
	wantLeft(t, r, b[used:])
	if wantE != api.OK {
		return
	}
	wantImage(t, m, want)
	if again := m.Bytes(); !bytes.Equal(again, b[:used]) {
		t.Fatalf("%x is read as an image whose bytes are %x", b[:used], again)
	}
}

// P9.2: each few small numbers as a string, and no blocks, one, or two behind them.
func TestReadOfEachSmallString(t *testing.T) {
	for n := range 6 {
		b := make([]byte, n)
		for code := range 1 << (2 * n) {
			for i := range b {
				b[i] = byte(code >> (2 * i) & 3)
			}
			wantReadLike(t, b)
			for _, blocks := range []int{0, 32, 64} {
				wantReadLike(t, append(str(b, make([]byte, blocks)), 7))
			}
		}
	}
}

// P9.2: bytes of images in which one byte is another one.
func TestReadOfChangedBytes(t *testing.T) {
	for _, m := range []*model{{}, modelOf(0), modelOf(3, 4), modelOf(3, 5), modelOf(100, 254), modelOf(upTo(5)...), modelOf(upTo(256)...)} {
		b := m.bytes()
		for i := range min(len(b), 12) {
			for c := range 256 {
				changed := bytes.Clone(b)
				changed[i] = byte(c)
				wantReadLike(t, changed)
			}
		}
	}
}

// P9.2: many mixed bytes.
func TestReadOfMixedBytes(t *testing.T) {
	d := dice(5)
	for range 20000 {
		b := make([]byte, d.next(12))
		for k := range b {
			b[k] = byte(d.next(4))
			if d.next(12) == 0 {
				b[k] = byte(d.next(256))
			}
		}
		wantReadLike(t, b)
		wantReadLike(t, str(b, make([]byte, d.next(4)*32)))
	}
}

// P9.2: the digest is that of the bytes.
func TestDigest(t *testing.T) {
	for _, m := range modelsToRead() {
		if d := m.image(t).Digest(); d != digest.Of(m.bytes()) {
			t.Errorf("Digest() = %v, want that of %x", d, m.bytes())
		}
	}
	// Of 1 0: the Sums 2, and 2 times Base and 1.
	if d := image.New().Digest(); d != (digest.Digest{Len: 2, Sum: 2*digest.Base + 1}) {
		t.Errorf("of holes: Digest() = %v", d)
	}
}

// P9.2: nothing can be put into a nil image.
func TestPutIntoANilImage(t *testing.T) {
	var m *image.Image
	for _, i := range append([]int{0, 3, 255}, outside...) {
		for _, b := range [][]byte{nil, {1}, make([]byte, 32), make([]byte, 33)} {
			if e := m.Put(i, b); e != api.ErrArg {
				t.Errorf("Put(%d, %x) = %d", i, b, e)
			}
		}
	}
	wantHoles(t, m)
}

// P9.2: a nil image is one of holes.
func TestNilImage(t *testing.T) {
	var m *image.Image
	wantHoles(t, m)
	for _, i := range []int{0, 3, 255} {
		clearAt(t, m, i)
	}
	for _, i := range outside {
		if e := m.Clear(i); e != api.ErrArg {
			t.Errorf("Clear(%d) = %d", i, e)
		}
	}
	if m.Digest() != image.New().Digest() {
		t.Errorf("Digest() = %v", m.Digest())
	}
	x, _ := read(t, m.Bytes(), api.OK)
	wantHoles(t, x)
}

// P9.2: a nil image, beside others.
func TestNilImageBesideOthers(t *testing.T) {
	var m *image.Image
	for _, c := range []struct {
		what  string
		other *image.Image
		has   []int
	}{
		{"nil", nil, nil}, {"new", image.New(), nil}, {"a block of zeros", (&model{3: full()}).image(t), []int{3}},
		{"blocks", imageOf(t, 0, 7, 8, 255), []int{0, 7, 8, 255}},
	} {
		put, gone := m.Diff(c.other)
		wantNumbers(t, c.what+": what nil puts", put)
		wantNumbers(t, c.what+": what of it is gone", gone, c.has...)
		put, gone = c.other.Diff(m)
		wantNumbers(t, c.what+": what it puts", put, c.has...)
		wantNumbers(t, c.what+": what of nil is gone", gone)
		same := len(c.has) == 0
		if image.Same(m, c.other) != same || image.Same(c.other, m) != same {
			t.Errorf("%s: Same isn't %t", c.what, same)
		}
	}
}

// P9.1, P9.2: a nil image's clone is an image of its own, of holes.
func TestCloneOfANilImage(t *testing.T) {
	var m *image.Image
	a, b := m.Clone(), m.Clone()
	wantHoles(t, a)
	put(t, a, 3, []byte{1})
	wantImage(t, a, &model{3: full(1)})
	wantHoles(t, b)
	wantHoles(t, m)
}

// P1: an image that New didn't make is one of holes too.
func TestImageWithoutNew(t *testing.T) {
	wantHoles(t, &image.Image{})
	wantHoles(t, (&image.Image{}).Clone())
	if !image.Same(&image.Image{}, image.New()) || !image.Same(nil, &image.Image{}) {
		t.Error("it isn't the same")
	}
	m := &image.Image{}
	clearAt(t, m, 3)
	put(t, m, 3, []byte{1})
	wantImage(t, m, &model{3: full(1)})
}

// Rule 3: Put neither changes nor keeps the bytes, and writes nothing beyond them.
func TestBytesThatArePutAreNeitherKeptNorChanged(t *testing.T) {
	for n := range api.Block + 1 {
		whole := bytes.Repeat([]byte{5}, 2*api.Block)
		before := bytes.Clone(whole)
		m := image.New()
		put(t, m, 3, whole[:n])
		if !bytes.Equal(whole, before) {
			t.Errorf("the bytes became %x", whole)
		}
		clear(whole)
		wantImage(t, m, &model{3: full(before[:n]...)})
		put(t, m, 3, []byte{7})
		if !bytes.Equal(whole, make([]byte, 2*api.Block)) {
			t.Errorf("another Put wrote %x", whole)
		}
	}
	whole := bytes.Repeat([]byte{5}, 2*api.Block)
	image.New().Put(3, whole[:33])
	image.New().Put(-1, whole[:3])
	if !bytes.Equal(whole, bytes.Repeat([]byte{5}, 2*api.Block)) {
		t.Errorf("a wrong Put wrote %x", whole)
	}
}

// spoil writes over bytes, and all that they could grow into.
func spoil(b []byte) {
	b = b[:cap(b)]
	for i := range b {
		b[i] ^= 0xff
	}
}

// spoilSet writes over a set, and all that it could grow into.
func spoilSet(s extent.Set) {
	s = s[:cap(s)]
	for i := range s {
		s[i] = extent.Run{From: 70, To: 99}
	}
}

// Rule 3: what is returned shares no memory with an image, its clone, or a result.
func TestResultsAreNotShared(t *testing.T) {
	for _, want := range []*model{modelOf(3), modelOf(3, 4, 9, 255), modelOf(upTo(256)...)} {
		m := want.image(t)
		c := m.Clone()
		base := &model{3: full(77), 100: full(1)}
		other := base.image(t)
		first, _ := m.Get(3)
		second, _ := m.Get(3)
		ofClone, _ := c.Get(3)
		spoil(first)
		if !bytes.Equal(second, want[3]) || !bytes.Equal(ofClone, want[3]) {
			t.Fatalf("blocks share memory: %x, %x", second, ofClone)
		}
		b, again := m.Bytes(), m.Bytes()
		spoil(b)
		if !bytes.Equal(again, want.bytes()) {
			t.Fatalf("bytes share memory: %x", again)
		}
		s, blocks := m.Blocks(), m.Blocks()
		spoilSet(s)
		wantSet(t, "Blocks()", blocks, func(i int) bool { return want[i] != nil })
		put, gone := m.Diff(other)
		spoilSet(put)
		wantSet(t, "what is gone", gone, func(i int) bool { return want[i] == nil && base[i] != nil })
		spoilSet(gone)
		wantImage(t, m, want)
		wantImage(t, c, want)
		wantImage(t, other, base)
		wantCompared(t, m, other, want, base)
	}
}

// Rule 3: a block that was got stays as it was when the image changes.
func TestBlocksThatWereGotStay(t *testing.T) {
	m := imageOf(t, 3)
	b, _ := m.Get(3)
	all := m.Bytes()
	put(t, m, 3, bytes.Repeat([]byte{9}, api.Block))
	clearAt(t, m, 3)
	if !bytes.Equal(b, modelOf(3)[3]) || !bytes.Equal(all, modelOf(3).bytes()) {
		t.Errorf("the block became %x, the bytes %x", b, all)
	}
	put(t, m, 4, b)
	spoil(b)
	wantImage(t, m, &model{4: modelOf(3)[3]})
}

// Rule 3: what is read shares no memory with the bytes, the reader, or another one.
func TestReadResultsAreNew(t *testing.T) {
	want := modelOf(3, 4, 200)
	b := append(want.bytes(), want.bytes()...)
	before := bytes.Clone(b)
	r := varint.Open(b)
	first, _ := image.Read(r)
	if !bytes.Equal(b, before) {
		t.Fatalf("the bytes became %x", b)
	}
	for i := range api.MaxImage {
		put(t, first, i, []byte{99})
	}
	spoil(b)
	second, e := image.Read(r)
	if e != api.OK {
		t.Fatalf("error %d", e)
	}
	wantImage(t, second, want)
}

// Rule 3: bytes beyond the length of what a reader was opened with aren't read.
func TestReadTakesNothingBeyond(t *testing.T) {
	b := modelOf(3).bytes()
	r := varint.Open(b[:len(b)-1])
	if m, e := image.Read(r); m != nil || e != api.ErrCut {
		t.Errorf("Read = %v, %d", m, e)
	}
}

// step makes one mixed change of an image and of its model.
func step(t *testing.T, d *dice, m *image.Image, want *model) {
	t.Helper()
	i := d.next(api.MaxImage+8) - 4
	inside := i >= 0 && i < api.MaxImage
	wantE := api.OK
	switch d.next(3) {
	case 0:
		if !inside {
			wantE = api.ErrArg
		} else {
			want[i] = nil
		}
		if e := m.Clear(i); e != wantE {
			t.Fatalf("Clear(%d) = %d, want %d", i, e, wantE)
		}
	default:
		b := d.block()
		if d.next(9) == 0 {
			b = make([]byte, 30+d.next(6))
		}
		if !inside || len(b) > api.Block {
			wantE = api.ErrArg
		} else {
			want[i] = full(b...)
		}
		if e := m.Put(i, b); e != wantE {
			t.Fatalf("Put(%d, %x) = %d, want %d", i, b, e, wantE)
		}
	}
}

// P9.1 to P9.3: many mixed calls on several images, compared with models.
func TestMixedCalls(t *testing.T) {
	d := dice(6)
	images, models := []*image.Image{image.New()}, []*model{{}}
	for n := range 20000 {
		i := d.next(len(images))
		step(t, &d, images[i], models[i])
		if n%100 > 0 {
			continue
		}
		wantImage(t, images[i], models[i])
		k := d.next(len(images))
		wantCompared(t, images[i], images[k], models[i], models[k])
		next := images[i].Clone()
		if d.next(2) == 0 {
			next, _ = read(t, images[i].Bytes(), api.OK)
		}
		if len(images) < 8 {
			images, models = append(images, next), append(models, models[i].clone())
		} else {
			images[k], models[k] = next, models[i].clone()
		}
	}
	for i := range images {
		wantImage(t, images[i], models[i])
	}
}

// P2: the same calls have the same results, whatever came between, and however often
// the order of a map is another one.
func TestSameCallsAgain(t *testing.T) {
	for _, want := range modelsToRead() {
		m, base := want.image(t), imageOf(t, 1, 5, 200)
		b, s := m.Bytes(), m.Blocks()
		put, gone := m.Diff(base)
		for range 5 {
			imageOf(t, 9).Bytes()
			image.Read(varint.Open([]byte{3, 1}))
			putAgain, goneAgain := m.Diff(base)
			if !bytes.Equal(m.Bytes(), b) || !slices.Equal(m.Blocks(), s) || !slices.Equal(putAgain, put) || !slices.Equal(goneAgain, gone) {
				t.Fatalf("%x: other results when called again", b)
			}
		}
	}
}

// FuzzCalls makes changes that bytes tell: three bytes for each.
func FuzzCalls(f *testing.F) {
	f.Add([]byte{})
	f.Add([]byte{1, 3, 7, 0, 3, 1, 255, 40, 1, 254, 32})
	f.Fuzz(func(t *testing.T, b []byte) {
		m, want := image.New(), &model{}
		for len(b) >= 3 {
			kind, i, n := b[0], int(b[1]), int(b[2])%40
			b = b[3:]
			switch {
			case kind%4 == 0:
				clearAt(t, m, i)
				want[i] = nil
			case n > api.Block:
				if e := m.Put(i, make([]byte, n)); e != api.ErrArg {
					t.Fatalf("Put of %d bytes = %d", n, e)
				}
			default:
				x := bytes.Repeat([]byte{kind}, n)
				put(t, m, i, x)
				want[i] = full(x...)
			}
		}
		wantImage(t, m, want)
		again, _ := read(t, m.Bytes(), api.OK)
		wantImage(t, again, want)
		wantCompared(t, again, m, want, want)
	})
}

// FuzzRead reads any bytes.
func FuzzRead(f *testing.F) {
	f.Add([]byte{})
	f.Add([]byte{1, 0})
	f.Add([]byte{4, 1, 0, 1, 0})
	f.Add(modelOf(3, 5).bytes())
	f.Fuzz(func(t *testing.T, b []byte) {
		wantReadLike(t, b)
		wantReadLike(t, str(b))
		wantReadLike(t, str(b, make([]byte, 32)))
	})
}

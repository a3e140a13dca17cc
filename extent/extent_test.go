package extent_test

import (
	"bytes"
	"math"
	"slices"
	"testing"

	"revenant/api"
	"revenant/extent"
	"revenant/varint"
)

// far is the greatest number, and less it the least one.
const far = 1 << 40

func run(from, to int) extent.Run { return extent.Run{From: from, To: to} }

// of is the set of runs that are given by their ends.
func of(ends ...int) extent.Set { return extent.Of(runsOf(ends)...) }

// runsOf is runs from each first number up to each second one.
func runsOf(ends []int) []extent.Run {
	var l []extent.Run
	for i := 0; i+1 < len(ends); i += 2 {
		l = append(l, run(ends[i], ends[i+1]))
	}
	return l
}

// wantRuns looks whether a set has exactly these runs.
func wantRuns(t *testing.T, what string, s extent.Set, ends ...int) {
	t.Helper()
	if want := runsOf(ends); !slices.Equal([]extent.Run(s), want) {
		t.Errorf("%s = %v, want %v", what, s, want)
	}
}

// wantForm looks whether the runs have numbers, rise, and are as few as possible.
func wantForm(t *testing.T, s extent.Set) {
	t.Helper()
	for i, r := range s {
		if r.From >= r.To {
			t.Fatalf("%v: run %d has no numbers", s, i)
		}
		if i > 0 && s[i-1].To >= r.From {
			t.Fatalf("%v: run %d doesn't lie apart from the one before it", s, i)
		}
	}
}

// wantNumbers looks at each number from low to high, whether it is where in says,
// and whether the set has the right form and no other numbers.
func wantNumbers(t *testing.T, what string, s extent.Set, low, high int, in func(n int) bool) {
	t.Helper()
	wantForm(t, s)
	n := 0
	for x := low; x <= high; x++ {
		listed := slices.ContainsFunc(s, func(r extent.Run) bool { return r.From <= x && x < r.To })
		if listed != in(x) || s.Has(x) != in(x) {
			t.Fatalf("%s = %v, Has(%d) = %t, want %t", what, s, x, s.Has(x), in(x))
		}
		if in(x) {
			n++
		}
	}
	if s.Len() != n {
		t.Fatalf("%s = %v, Len() = %d, want %d", what, s, s.Len(), n)
	}
}

// inRuns tells whether a number is in one of the runs.
func inRuns(l []extent.Run, n int) bool {
	for _, r := range l {
		if n >= r.From && n < r.To {
			return true
		}
	}
	return false
}

// dice yields numbers that look mixed, the same ones for each seed.
type dice uint64

// next is a number from 0 on, below n.
func (d *dice) next(n int) int {
	*d = *d*6364136223846793005 + 1442695040888963407
	return int(uint64(*d) >> 33 % uint64(n))
}

// mixedRuns is runs between low and high, some of them without numbers.
func (d *dice) mixedRuns(n, low, high int) []extent.Run {
	l := make([]extent.Run, n)
	for i := range l {
		l[i].From = low + d.next(high-low+1)
		l[i].To = min(l[i].From+d.next(9)-1, high)
	}
	return l
}

// P8.1: the chapter's example.
func TestExample(t *testing.T) {
	wantRuns(t, "Of 1 to 3 and 2 to 5", extent.Of(run(1, 3), run(2, 5)), 1, 5)
}

// P8.1: Of, in each way in which runs lie to each other.
func TestOf(t *testing.T) {
	for _, c := range []struct {
		what       string
		ends, want []int
	}{
		{"no run", nil, nil},
		{"one run", []int{3, 7}, []int{3, 7}},
		{"one number", []int{3, 4}, []int{3, 4}},
		{"from 0", []int{0, 2}, []int{0, 2}},
		{"overlapping", []int{1, 5, 3, 9}, []int{1, 9}},
		{"overlapping by one", []int{1, 5, 4, 9}, []int{1, 9}},
		{"touching", []int{1, 5, 5, 9}, []int{1, 9}},
		{"one apart", []int{1, 5, 6, 9}, []int{1, 5, 6, 9}},
		{"far apart", []int{1, 5, 600, 900}, []int{1, 5, 600, 900}},
		{"within", []int{1, 9, 3, 5}, []int{1, 9}},
		{"within, at its beginning", []int{1, 9, 1, 5}, []int{1, 9}},
		{"within, at its end", []int{1, 9, 5, 9}, []int{1, 9}},
		{"two within, apart", []int{1, 9, 2, 3, 5, 6}, []int{1, 9}},
		{"within, and behind that one more", []int{1, 9, 3, 5, 9, 10}, []int{1, 10}},
		{"twice", []int{1, 5, 1, 5}, []int{1, 5}},
		{"thrice, and another one", []int{1, 5, 8, 9, 1, 5, 1, 5}, []int{1, 5, 8, 9}},
		{"falling", []int{20, 25, 10, 12, 1, 2}, []int{1, 2, 10, 12, 20, 25}},
		{"a gap filled", []int{1, 3, 5, 7, 3, 5}, []int{1, 7}},
		{"a chain", []int{4, 6, 2, 4, 6, 8, 0, 2}, []int{0, 8}},
		{"below 0", []int{-5, -3}, []int{-5, -3}},
		{"around 0", []int{-5, 3}, []int{-5, 3}},
		{"touching at 0", []int{0, 3, -5, 0}, []int{-5, 3}},
		{"on both sides of 0", []int{1, 3, -5, 0}, []int{-5, 0, 1, 3}},
		{"touching below 0", []int{-2, -1, -4, -2}, []int{-4, -1}},
	} {
		wantRuns(t, c.what, of(c.ends...), c.want...)
	}
}

// P8.1: a run whose To isn't greater than its From has no numbers, and joins none.
func TestOfRunsWithoutNumbers(t *testing.T) {
	for _, c := range []struct {
		ends, want []int
	}{
		{[]int{3, 3}, nil},
		{[]int{0, 0}, nil},
		{[]int{4, 3}, nil},
		{[]int{9, 2}, nil},
		{[]int{-3, -3}, nil},
		{[]int{-3, -4}, nil},
		{[]int{5, -5}, nil},
		{[]int{far, -far}, nil},
		{[]int{9, 2, 8, 1}, nil},
		{[]int{9, 2, 4, 5}, []int{4, 5}},
		{[]int{1, 3, 3, 3, 4, 6}, []int{1, 3, 4, 6}},
		{[]int{1, 3, 4, 3, 4, 6}, []int{1, 3, 4, 6}},
		{[]int{1, 9, 5, 5}, []int{1, 9}},
		{[]int{1, 9, 7, 3}, []int{1, 9}},
		{[]int{7, 3, 1, 9, 9, 1}, []int{1, 9}},
		{[]int{1, 3, 6, 0, 8, 9}, []int{1, 3, 8, 9}},
	} {
		wantRuns(t, "the set", of(c.ends...), c.want...)
	}
}

// each calls f with the list in each order.
func each[T any](l []T, f func([]T)) {
	var from func(i int)
	from = func(i int) {
		if i == len(l) {
			f(l)
		}
		for j := i; j < len(l); j++ {
			l[i], l[j] = l[j], l[i]
			from(i + 1)
			l[i], l[j] = l[j], l[i]
		}
	}
	from(0)
}

// P8.1: the order of the runs is free.
func TestOfInEachOrder(t *testing.T) {
	each([]extent.Run{run(-4, -2), run(1, 3), run(3, 3), run(2, 6), run(6, 8), run(9, 10)}, func(l []extent.Run) {
		wantRuns(t, "the set", extent.Of(l...), -4, -2, 1, 8, 9, 10)
	})
}

// P8.1: Of each three runs between -3 and 3, number by number.
func TestOfEachThreeRuns(t *testing.T) {
	var all []extent.Run
	for from := -3; from <= 3; from++ {
		for to := -3; to <= 3; to++ {
			all = append(all, run(from, to))
		}
	}
	for _, a := range all {
		for _, b := range all {
			for _, c := range all {
				l := []extent.Run{a, b, c}
				wantNumbers(t, "Of", extent.Of(l...), -5, 5, func(n int) bool { return inRuns(l, n) })
			}
		}
	}
}

// P8.1: Of many mixed runs, number by number.
func TestOfMixedRuns(t *testing.T) {
	d := dice(1)
	for i := range 400 {
		l := d.mixedRuns(i%40, -60, 60)
		wantNumbers(t, "Of", extent.Of(l...), -65, 65, func(n int) bool { return inRuns(l, n) })
	}
}

// P8.1: Of what a set consists of is that set.
func TestOfItsOwnRuns(t *testing.T) {
	d := dice(2)
	for range 200 {
		s := extent.Of(d.mixedRuns(12, -60, 60)...)
		if again := extent.Of(s...); !slices.Equal(s, again) {
			t.Errorf("%v became %v", s, again)
		}
	}
}

// P8.1: Has at the ends of each run, and beside them.
func TestHas(t *testing.T) {
	for _, s := range []extent.Set{
		of(3, 4), of(0, 1), of(0, 5), of(1, 3, 5, 9), of(1, 2, 3, 4, 5, 6, 7, 8), of(-9, -7, -5, -1), of(-4, 4),
		of(-4, 0, 1, 4), of(-far, far), of(-far, -far+2, far-2, far), of(-1, 0, 5, 6, 100, 200, 300, 301, far-1, far),
	} {
		for i, r := range s {
			for _, n := range []int{r.From, r.To - 1} {
				if !s.Has(n) {
					t.Errorf("%v: Has(%d) = false", s, n)
				}
			}
			// No run touches another one, so what is beside it is in none.
			for _, n := range []int{r.From - 1, r.To} {
				if s.Has(n) {
					t.Errorf("%v: run %d: Has(%d) = true", s, i, n)
				}
			}
			if s.Has(r.To+1) != inRuns(s, r.To+1) {
				t.Errorf("%v: run %d: Has(%d) = %t", s, i, r.To+1, s.Has(r.To+1))
			}
		}
	}
}

// P8.1: the empty set has no number.
func TestHasOfTheEmptySet(t *testing.T) {
	for _, s := range []extent.Set{nil, {}, of(), of(3, 3)} {
		for _, n := range []int{0, 1, -1, 3, far, -far, math.MaxInt, math.MinInt} {
			if s.Has(n) {
				t.Errorf("%v: Has(%d) = true", s, n)
			}
		}
	}
}

// P8.1: Len of a run.
func TestLenOfARun(t *testing.T) {
	for _, c := range []struct{ from, to, want int }{
		{0, 0, 0}, {0, 1, 1}, {3, 7, 4}, {3, 3, 0}, {3, 2, 0}, {7, -7, 0}, {-7, 7, 14}, {-7, -5, 2}, {-5, -7, 0}, {-1, 0, 1}, {0, -1, 0},
		{-far, far, 2 * far}, {far, -far, 0}, {far, far, 0}, {far - 1, far, 1}, {-far, 1 - far, 1}, {-far, far + 1, 2*far + 1},
		{math.MaxInt, math.MinInt, 0},
	} {
		if n := run(c.from, c.to).Len(); n != c.want {
			t.Errorf("Len of %d to %d = %d, want %d", c.from, c.to, n, c.want)
		}
	}
}

// P8.1: Len of a set is of its numbers, not of its runs.
func TestLenOfASet(t *testing.T) {
	for _, c := range []struct {
		s    extent.Set
		want int
	}{
		{nil, 0}, {extent.Set{}, 0}, {of(), 0}, {of(3, 3), 0}, {of(0, 1), 1}, {of(3, 7), 4}, {of(3, 7, 7, 9), 6}, {of(3, 7, 5, 9), 6},
		{of(1, 2, 4, 8, 20, 30), 15}, {of(-8, -4, -2, 3), 9}, {of(-far, far), 2 * far}, {of(-far, 0, 1, far), 2*far - 1},
	} {
		if n := c.s.Len(); n != c.want {
			t.Errorf("%v: Len() = %d, want %d", c.s, n, c.want)
		}
	}
}

// numbers is those of a list of runs, by going through all from low to high.
func numbers(l []extent.Run, low, high int) []int {
	var out []int
	for n := low; n <= high; n++ {
		if inRuns(l, n) {
			out = append(out, n)
		}
	}
	return out
}

// P8.1: All yields each number once, in increasing order.
func TestAll(t *testing.T) {
	for _, s := range []extent.Set{
		nil, {}, of(), of(3, 3), of(0, 1), of(3, 7), of(1, 2, 4, 6, 20, 21), of(-8, -4, -2, 3, 5, 6), of(-3, -2), of(20, 25, 1, 3, 9, 10),
	} {
		var got []int
		s.All(func(n int) bool {
			got = append(got, n)
			return true
		})
		if want := numbers(s, -30, 30); !slices.Equal(got, want) {
			t.Errorf("%v: All yields %v, want %v", s, got, want)
		}
	}
}

// P8.1: All calls yield until it returns false, and not again.
func TestAllUntilFalse(t *testing.T) {
	for _, s := range []extent.Set{of(0, 1), of(3, 7), of(1, 2, 4, 6, 20, 23), of(-8, -6, -2, 2)} {
		want := numbers(s, -30, 30)
		for stop := range want {
			var got []int
			s.All(func(n int) bool {
				got = append(got, n)
				return len(got) <= stop
			})
			if !slices.Equal(got, want[:stop+1]) {
				t.Errorf("%v: All yields %v, want %v", s, got, want[:stop+1])
			}
		}
	}
}

// Ways: the numbers of a set are an iterator, for a range or for what collects.
func TestAllIsAnIterator(t *testing.T) {
	s := of(-3, -1, 4, 9)
	if got := slices.Collect(s.All); !slices.Equal(got, []int{-3, -2, 4, 5, 6, 7, 8}) {
		t.Errorf("collected: %v", got)
	}
	var got []int
	for n := range s.All {
		if n == -2 {
			continue
		}
		if n == 6 {
			break
		}
		got = append(got, n)
	}
	if !slices.Equal(got, []int{-3, 4, 5}) {
		t.Errorf("up to a break: %v", got)
	}
}

// P8.1: All of a great set begins with its least numbers, and ends at once if asked.
func TestAllOfAGreatSet(t *testing.T) {
	var got []int
	for n := range of(-far, far).All {
		got = append(got, n)
		if len(got) == 3 {
			break
		}
	}
	if !slices.Equal(got, []int{-far, -far + 1, -far + 2}) {
		t.Errorf("the first three: %v", got)
	}
	got = slices.Collect(of(far-2, far, -far, -far+2).All)
	if !slices.Equal(got, []int{-far, -far + 1, far - 2, far - 1}) {
		t.Errorf("the four at the ends: %v", got)
	}
}

// P1: there is nothing to call.
func TestAllOfNoFunction(t *testing.T) {
	of(1, 5).All(nil)
	of().All(nil)
}

// P8.1: Or, And and Minus of one other set.
func TestOrAndMinus(t *testing.T) {
	for _, c := range []struct {
		what                 string
		a, b, or, and, minus []int
	}{
		{"both empty", nil, nil, nil, nil, nil},
		{"of the empty one", nil, []int{1, 5}, []int{1, 5}, nil, nil},
		{"with the empty one", []int{1, 5}, nil, []int{1, 5}, nil, []int{1, 5}},
		{"the same", []int{1, 5, 7, 9}, []int{1, 5, 7, 9}, []int{1, 5, 7, 9}, []int{1, 5, 7, 9}, nil},
		{"overlapping", []int{1, 5}, []int{3, 9}, []int{1, 9}, []int{3, 5}, []int{1, 3}},
		{"overlapping below", []int{3, 9}, []int{1, 5}, []int{1, 9}, []int{3, 5}, []int{5, 9}},
		{"touching", []int{1, 5}, []int{5, 9}, []int{1, 9}, nil, []int{1, 5}},
		{"touching below", []int{5, 9}, []int{1, 5}, []int{1, 9}, nil, []int{5, 9}},
		{"apart", []int{1, 4}, []int{5, 9}, []int{1, 4, 5, 9}, nil, []int{1, 4}},
		{"within", []int{1, 9}, []int{3, 5}, []int{1, 9}, []int{3, 5}, []int{1, 3, 5, 9}},
		{"around", []int{3, 5}, []int{1, 9}, []int{1, 9}, []int{3, 5}, nil},
		{"at its beginning", []int{1, 9}, []int{1, 5}, []int{1, 9}, []int{1, 5}, []int{5, 9}},
		{"at its end", []int{1, 9}, []int{5, 9}, []int{1, 9}, []int{5, 9}, []int{1, 5}},
		{"one number of it", []int{1, 9}, []int{4, 5}, []int{1, 9}, []int{4, 5}, []int{1, 4, 5, 9}},
		{"its gap", []int{1, 3, 6, 8}, []int{3, 6}, []int{1, 8}, nil, []int{1, 3, 6, 8}},
		{"over its gap", []int{1, 4, 6, 9}, []int{2, 8}, []int{1, 9}, []int{2, 4, 6, 8}, []int{1, 2, 8, 9}},
		{"many of it", []int{0, 10}, []int{1, 2, 3, 4, 5, 6}, []int{0, 10}, []int{1, 2, 3, 4, 5, 6}, []int{0, 1, 2, 3, 4, 5, 6, 10}},
		{"in turn", []int{0, 1, 2, 3, 4, 5}, []int{1, 2, 3, 4}, []int{0, 5}, nil, []int{0, 1, 2, 3, 4, 5}},
		{"below 0", []int{-9, -3}, []int{-5, -1}, []int{-9, -1}, []int{-5, -3}, []int{-9, -5}},
		{"around 0", []int{-9, 9}, []int{-1, 1}, []int{-9, 9}, []int{-1, 1}, []int{-9, -1, 1, 9}},
		{"the greatest", []int{-far, far}, []int{0, 1}, []int{-far, far}, []int{0, 1}, []int{-far, 0, 1, far}},
		{"its ends", []int{-far, far}, []int{-far, -far + 1, far - 1, far}, []int{-far, far}, []int{-far, -far + 1, far - 1, far}, []int{-far + 1, far - 1}},
		{"both halves", []int{-far, 0}, []int{0, far}, []int{-far, far}, nil, []int{-far, 0}},
		{"2^40 itself", []int{far, far + 1}, []int{-far, far}, []int{-far, far + 1}, nil, []int{far, far + 1}},
	} {
		a, b := of(c.a...), of(c.b...)
		wantRuns(t, c.what+": Or", a.Or(b), c.or...)
		wantRuns(t, c.what+": Or, the other way", b.Or(a), c.or...)
		wantRuns(t, c.what+": And", a.And(b), c.and...)
		wantRuns(t, c.what+": And, the other way", b.And(a), c.and...)
		wantRuns(t, c.what+": Minus", a.Minus(b), c.minus...)
	}
}

// P8.1: Or, And and Minus of no other set, and of the set itself.
func TestOfNoOtherAndOfItself(t *testing.T) {
	for _, ends := range [][]int{nil, {0, 1}, {1, 5}, {1, 5, 6, 9, 20, 30}, {-9, -5, -4, 4}, {-far, far}} {
		s := of(ends...)
		wantRuns(t, "Or()", s.Or(), ends...)
		wantRuns(t, "And()", s.And(), ends...)
		wantRuns(t, "Minus()", s.Minus(), ends...)
		wantRuns(t, "Or of itself", s.Or(s), ends...)
		wantRuns(t, "And of itself", s.And(s), ends...)
		wantRuns(t, "Minus of itself", s.Minus(s))
		wantRuns(t, "Or of itself, thrice", s.Or(s, s, s), ends...)
		wantRuns(t, "And of itself, thrice", s.And(s, s, s), ends...)
		wantRuns(t, "Minus of itself, thrice", s.Minus(s, s, s))
	}
}

// P8.1: Or, And and Minus of several others, empty ones among them.
func TestOfSeveralOthers(t *testing.T) {
	s := of(0, 10, 20, 30)
	for _, c := range []struct {
		what           string
		l              []extent.Set
		or, and, minus []int
	}{
		{"two", []extent.Set{of(5, 22), of(8, 25)}, []int{0, 30}, []int{8, 10, 20, 22}, []int{0, 5, 25, 30}},
		{"two that touch", []extent.Set{of(5, 12), of(12, 25)}, []int{0, 30}, nil, []int{0, 5, 25, 30}},
		{"two apart", []extent.Set{of(2, 4), of(12, 14)}, []int{0, 10, 12, 14, 20, 30}, nil, []int{0, 2, 4, 10, 20, 30}},
		{"the same twice", []extent.Set{of(2, 4), of(2, 4)}, []int{0, 10, 20, 30}, []int{2, 4}, []int{0, 2, 4, 10, 20, 30}},
		{"three", []extent.Set{of(-5, 25), of(1, 29), of(3, 5, 24, 26)}, []int{-5, 30}, []int{3, 5, 24, 25}, []int{29, 30}},
		{"an empty one first", []extent.Set{nil, of(5, 25)}, []int{0, 30}, nil, []int{0, 5, 25, 30}},
		{"an empty one last", []extent.Set{of(5, 25), of()}, []int{0, 30}, nil, []int{0, 5, 25, 30}},
		{"empty ones", []extent.Set{nil, of(), {}}, []int{0, 10, 20, 30}, nil, []int{0, 10, 20, 30}},
		{"itself and another one", []extent.Set{s, of(9, 21)}, []int{0, 30}, []int{9, 10, 20, 21}, nil},
		{"below 0", []extent.Set{of(-9, 1), of(-4, 2)}, []int{-9, 10, 20, 30}, []int{0, 1}, []int{2, 10, 20, 30}},
	} {
		each(c.l, func(l []extent.Set) {
			wantRuns(t, c.what+": Or", s.Or(l...), c.or...)
			wantRuns(t, c.what+": And", s.And(l...), c.and...)
			wantRuns(t, c.what+": Minus", s.Minus(l...), c.minus...)
		})
	}
	wantRuns(t, "Or of the empty set", of().Or(of(2, 4), of(1, 3)), 1, 4)
	wantRuns(t, "And of the empty set", of().And(of(2, 4), of(1, 3)))
	wantRuns(t, "Minus of the empty set", of().Minus(of(2, 4), of(1, 3)))
}

// small is the set of the numbers from -3 on whose bits are set.
func small(bits int) extent.Set {
	var l []extent.Run
	for i := range 8 {
		if bits>>i&1 == 1 {
			l = append(l, run(i-3, i-2))
		}
	}
	return extent.Of(l...)
}

// P8.1: each two sets of eight numbers, from -3 on, number by number.
func TestEachTwoSmallSets(t *testing.T) {
	sets := make([]extent.Set, 256)
	for i := range sets {
		sets[i] = small(i)
	}
	for i, a := range sets {
		wantNumbers(t, "the set", a, -6, 8, func(n int) bool { return bit(i, n) })
		for j, b := range sets {
			if !slices.Equal(a.Or(b), sets[i|j]) || !slices.Equal(a.And(b), sets[i&j]) || !slices.Equal(a.Minus(b), sets[i&^j]) {
				t.Fatalf("%v and %v: Or %v, And %v, Minus %v", a, b, a.Or(b), a.And(b), a.Minus(b))
			}
		}
	}
}

// bit tells whether a number is in small of bits.
func bit(bits, n int) bool { return n >= -3 && n < 5 && bits>>(n+3)&1 == 1 }

// P8.1: each three sets of five numbers.
func TestEachThreeSmallSets(t *testing.T) {
	sets := make([]extent.Set, 32)
	for i := range sets {
		sets[i] = small(i)
	}
	for i, a := range sets {
		for j, b := range sets {
			for k, c := range sets {
				if !slices.Equal(a.Or(b, c), sets[i|j|k]) || !slices.Equal(a.And(b, c), sets[i&j&k]) || !slices.Equal(a.Minus(b, c), sets[i&^j&^k]) {
					t.Fatalf("%v, %v and %v: Or %v, And %v, Minus %v", a, b, c, a.Or(b, c), a.And(b, c), a.Minus(b, c))
				}
			}
		}
	}
}

// wantJoined compares Or, And and Minus of sets of runs number by number.
func wantJoined(t *testing.T, low, high int, first []extent.Run, others [][]extent.Run) {
	t.Helper()
	s := extent.Of(first...)
	var l []extent.Set
	for _, runs := range others {
		l = append(l, extent.Of(runs...))
	}
	count := func(n int) int {
		c := 0
		for _, runs := range others {
			if inRuns(runs, n) {
				c++
			}
		}
		return c
	}
	wantNumbers(t, "Or", s.Or(l...), low, high, func(n int) bool { return inRuns(first, n) || count(n) > 0 })
	wantNumbers(t, "And", s.And(l...), low, high, func(n int) bool { return inRuns(first, n) && count(n) == len(others) })
	wantNumbers(t, "Minus", s.Minus(l...), low, high, func(n int) bool { return inRuns(first, n) && count(n) == 0 })
}

// P8.1: many mixed sets, number by number, around 0 and at both ends.
func TestMixedSets(t *testing.T) {
	d := dice(3)
	for i := range 300 {
		for _, middle := range []int{0, -far + 60, far - 60} {
			low, high := middle-60, middle+60
			others := make([][]extent.Run, i%6)
			for k := range others {
				others[k] = d.mixedRuns(d.next(40), low, high)
			}
			wantJoined(t, low-3, high+3, d.mixedRuns(d.next(40), low, high), others)
		}
	}
}

// P1: calls end also for many runs, and many sets.
func TestManyRunsAndSets(t *testing.T) {
	const n = 100000
	l := make([]extent.Run, n)
	sets := make([]extent.Set, n)
	for i := range n {
		l[i] = run(3*(n-i), 3*(n-i)+2)
		sets[i] = of(-1, 3*i, 3*i+1, 3*n)
	}
	s := extent.Of(l...)
	if len(s) != n || s.Len() != 2*n {
		t.Errorf("Of: %d runs, Len() = %d", len(s), s.Len())
	}
	if again, e := extent.Read(varint.Open(s.Bytes()), 3*n+2); e != api.OK || !slices.Equal(again, s) {
		t.Errorf("Read: %d runs, error %d", len(again), e)
	}
	for i := range 3 * n {
		if s.Has(i+3) != (i%3 < 2) {
			t.Fatalf("Has(%d) = %t", i+3, s.Has(i+3))
		}
	}
	if all := of(0, 3*n).And(sets...); len(all) != n || all.Len() != 2*n {
		t.Errorf("And of many: %d runs, Len() = %d", len(all), all.Len())
	}
	wantRuns(t, "Or of many", of().Or(sets...), -1, 3*n)
	wantRuns(t, "Minus of many", of(-9, 3*n+1).Minus(sets...), -9, -1, 3*n, 3*n+1)
}

// P8.2: the bytes of a set.
func TestBytes(t *testing.T) {
	for _, c := range []struct {
		ends []int
		want string
	}{
		{nil, "\x00"},
		{[]int{3, 3}, "\x00"},
		{[]int{0, 1}, "\x01\x00\x01"},
		{[]int{0, 5}, "\x01\x00\x05"},
		{[]int{3, 4}, "\x01\x03\x01"},
		{[]int{1, 2, 10, 25}, "\x02\x01\x01\x08\x0f"},
		{[]int{0, 1, 2, 3, 4, 5}, "\x03\x00\x01\x01\x01\x01\x01"},
		{[]int{127, 254}, "\x01\x7f\x7f"},
		{[]int{128, 256}, "\x01\x80\x01\x80\x01"},
		{[]int{0, 300, 600, 900}, "\x02\x00\xac\x02\xac\x02\xac\x02"},
		{[]int{0, far}, "\x01\x00\x80\x80\x80\x80\x80\x20"},
		{[]int{far, far + 1}, "\x01\x80\x80\x80\x80\x80\x20\x01"},
		{[]int{0, 1, far - 1, far}, "\x02\x00\x01\xfe\xff\xff\xff\xff\x1f\x01"},
	} {
		if b := of(c.ends...).Bytes(); string(b) != c.want {
			t.Errorf("%v: Bytes() = %x, want %x", c.ends, b, c.want)
		}
	}
	for _, s := range []extent.Set{nil, {}} {
		if b := s.Bytes(); string(b) != "\x00" {
			t.Errorf("of no runs: Bytes() = %x", b)
		}
	}
}

// bytesOf is the bytes of a set, number by number.
func bytesOf(s extent.Set) []byte {
	b := varint.Put(nil, uint64(len(s)))
	last := 0
	for _, r := range s {
		b = varint.Put(b, uint64(r.From-last))
		b = varint.Put(b, uint64(r.To-r.From))
		last = r.To
	}
	return b
}

// setsToRead is mixed sets of numbers that aren't below 0, small ones and great ones.
func setsToRead() []extent.Set {
	l := []extent.Set{
		of(), of(0, 1), of(0, 5), of(3, 4), of(1, 2, 10, 25), of(0, 1, 2, 3, 4, 5), of(0, far), of(far-1, far), of(1, 127, 128, 256),
		of(0, 1, far-1, far), of(far, far+1), of(255, 256), of(0, 300, 600, 900),
	}
	d := dice(4)
	for i := range 300 {
		runs := d.mixedRuns(i%50, 0, 200)
		for k := range runs {
			// Apart by more for each further set, for numbers of several bytes.
			runs[k].From *= 1 + i*i
			runs[k].To *= 1 + i*i
		}
		l = append(l, extent.Of(runs...))
	}
	return l
}

// P8.2: many runs: how many, then two numbers for each.
func TestBytesNumberByNumber(t *testing.T) {
	for _, s := range setsToRead() {
		if b := s.Bytes(); !bytes.Equal(b, bytesOf(s)) {
			t.Errorf("%v: Bytes() = %x, want %x", s, b, bytesOf(s))
		}
	}
}

// top is the last To of a set: the least most with which it is read.
func top(s extent.Set) int {
	if len(s) == 0 {
		return 0
	}
	return s[len(s)-1].To
}

// read reads a set from bytes, and is what the reader has behind it.
func read(t *testing.T, b string, most int, want api.Errno) (extent.Set, *varint.Reader) {
	t.Helper()
	r := varint.Open([]byte(b))
	s, e := extent.Read(r, most)
	if e != want {
		t.Errorf("Read of %x, %d: error %d, want %d", b, most, e, want)
	}
	if e != api.OK && len(s) != 0 {
		t.Errorf("Read of %x, %d: %v beside error %d", b, most, s, e)
	}
	return s, r
}

// P8.3: the bytes of a set are read as that set; the reader is behind them.
func TestReadOfBytes(t *testing.T) {
	for _, s := range setsToRead() {
		for _, behind := range []string{"", "\x07", "\x00\x01", "\x80"} {
			for _, most := range []int{max(top(s), len(s)), top(s) + 1, 2 * far, math.MaxInt} {
				got, r := read(t, string(s.Bytes())+behind, most, api.OK)
				if !slices.Equal(got, s) {
					t.Errorf("%v is read as %v", s, got)
				}
				wantLeft(t, r, behind)
			}
		}
	}
}

// wantLeft looks whether the reader is without error, and has these bytes left.
func wantLeft(t *testing.T, r *varint.Reader, want string) {
	t.Helper()
	if e := r.Failed(); e != api.OK {
		t.Errorf("the reader has error %d", e)
	}
	// A number that can't be read is what is left if it ends there.
	for len(want) > 0 {
		n, size, e := varint.Next([]byte(want))
		if got := r.Number(math.MaxUint64); got != n || r.Failed() != e {
			t.Errorf("left is %d, %d, want %d, %d", got, r.Failed(), n, e)
		}
		if e != api.OK {
			return
		}
		want = want[size:]
	}
	if e := r.End(); e != api.OK {
		t.Errorf("the reader's end: %d", e)
	}
}

// P8.2: a most that just fits, and one less.
func TestReadOfMostThatJustFits(t *testing.T) {
	for _, s := range setsToRead() {
		if len(s) == 0 {
			continue
		}
		if got, _ := read(t, string(s.Bytes()), top(s), api.OK); !slices.Equal(got, s) {
			t.Errorf("%v is read as %v", s, got)
		}
		_, r := read(t, string(s.Bytes()), top(s)-1, api.ErrLong)
		if r.Failed() != api.ErrLong {
			t.Errorf("%v: the reader's error: %d", s, r.Failed())
		}
	}
}

// P8.2: each of the three bounds, at its edge and one above it.
func TestReadBounds(t *testing.T) {
	for _, c := range []struct {
		what string
		l    []uint64
		most int
		e    api.Errno
	}{
		{"so many runs", []uint64{3, 0, 1, 1, 1, 1, 1}, 5, api.OK},
		{"the greatest number of runs, too few bytes", []uint64{5}, 5, api.ErrCut},
		{"too many runs", []uint64{6}, 5, api.ErrLong},
		{"too many runs, ahead of a run without numbers", []uint64{6, 0, 0}, 5, api.ErrLong},
		{"far too many runs", []uint64{math.MaxUint64}, 5, api.ErrLong},
		{"one run, the greatest number", []uint64{1, 0, 1}, 1, api.OK},
		{"two runs, one above it", []uint64{2, 0, 1}, 1, api.ErrLong},
		{"the greatest distance, then no numbers are left", []uint64{1, 5, 0}, 5, api.ErrForm},
		{"the greatest distance, and a number", []uint64{1, 5, 1}, 5, api.ErrLong},
		{"too great a distance", []uint64{1, 6}, 5, api.ErrLong},
		{"too great a distance, ahead of what is cut", []uint64{1, 6}, 5, api.ErrLong},
		{"far too great a distance", []uint64{1, math.MaxUint64, 1}, 5, api.ErrLong},
		{"a distance that fits", []uint64{1, 4, 1}, 5, api.OK},
		{"a second distance at its edge", []uint64{2, 1, 2, 2, 0}, 5, api.ErrForm},
		{"a second distance one above it", []uint64{2, 1, 2, 3, 0}, 5, api.ErrLong},
		{"a second distance within it", []uint64{2, 1, 2, 1, 1}, 5, api.OK},
		{"a second distance behind the last number", []uint64{2, 0, 5, 0, 0}, 5, api.ErrForm},
		{"a second distance one above that", []uint64{2, 0, 5, 1, 0}, 5, api.ErrLong},
		{"so many numbers", []uint64{1, 0, 5}, 5, api.OK},
		{"too many numbers", []uint64{1, 0, 6}, 5, api.ErrLong},
		{"so many numbers behind a distance", []uint64{1, 2, 3}, 5, api.OK},
		{"too many numbers behind a distance", []uint64{1, 2, 4}, 5, api.ErrLong},
		{"far too many numbers", []uint64{1, 2, math.MaxUint64}, 5, api.ErrLong},
		{"so many numbers of a second run", []uint64{2, 1, 2, 1, 1}, 5, api.OK},
		{"too many numbers of a second run", []uint64{2, 1, 2, 1, 2}, 5, api.ErrLong},
		{"2^63 runs", []uint64{1 << 63}, math.MaxInt, api.ErrLong},
		{"a distance of 2^63", []uint64{1, 1 << 63, 1}, math.MaxInt, api.ErrLong},
		{"2^63 numbers", []uint64{1, 0, 1 << 63}, math.MaxInt, api.ErrLong},
		{"all numbers of the greatest most", []uint64{1, 0, math.MaxInt}, math.MaxInt, api.OK},
		{"all but one of the greatest most", []uint64{1, 1, math.MaxInt}, math.MaxInt, api.ErrLong},
		{"256 blocks", []uint64{1, 0, 256}, 256, api.OK},
		{"257 blocks", []uint64{1, 0, 257}, 256, api.ErrLong},
	} {
		s, _ := read(t, string(varint.Put(nil, c.l...)), c.most, c.e)
		if c.e == api.OK && !bytes.Equal(s.Bytes(), varint.Put(nil, c.l...)) {
			t.Errorf("%s: read as %v", c.what, s)
		}
		if t.Failed() {
			t.Fatal(c.what)
		}
	}
}

// P8.2: a bound below 0 counts as 0.
func TestReadOfMostZeroAndBelow(t *testing.T) {
	for _, most := range []int{0, -1, -5, -far, math.MinInt} {
		s, r := read(t, "\x00\x07", most, api.OK)
		wantRuns(t, "no runs", s)
		wantLeft(t, r, "\x07")
		for _, b := range []string{"\x01", "\x01\x00\x00", "\x01\x00\x01", "\x05", "\x80\x01"} {
			read(t, b, most, api.ErrLong)
		}
		read(t, "", most, api.ErrCut)
		read(t, "\x80\x00", most, api.ErrForm)
	}
}

// P8.2: the first run may begin at 0, and then touches none.
func TestReadOfAFirstRunAtZero(t *testing.T) {
	s, _ := read(t, "\x01\x00\x05", 9, api.OK)
	wantRuns(t, "one run", s, 0, 5)
	s, _ = read(t, "\x02\x00\x05\x01\x01", 9, api.OK)
	wantRuns(t, "two runs", s, 0, 5, 6, 7)
}

// P8.2: ErrForm of a run without numbers, or one that touches another one; both its
// numbers are read then, none behind them, and the reader goes on.
func TestReadOfWrongRuns(t *testing.T) {
	for _, c := range []struct {
		what, b, left string
	}{
		{"without numbers, at 0", "\x01\x00\x00", ""},
		{"without numbers", "\x01\x03\x00\x07", "\x07"},
		{"without numbers, and more runs", "\x02\x03\x00\x01\x01", "\x01\x01"},
		{"the second without numbers", "\x02\x03\x01\x02\x00\x07", "\x07"},
		{"the third without numbers", "\x03\x03\x01\x02\x01\x02\x00\x07", "\x07"},
		{"touching", "\x02\x01\x01\x00\x05\x07", "\x07"},
		{"touching, behind a first one at 0", "\x02\x00\x01\x00\x01\x07", "\x07"},
		{"the third touching", "\x03\x01\x01\x01\x01\x00\x01\x07", "\x07"},
		{"touching, and without numbers", "\x02\x01\x01\x00\x00\x07", "\x07"},
		{"ahead of a run that is too long", "\x02\x03\x00\x7f\x7f", "\x7f\x7f"},
		{"ahead of numbers that are none", "\x02\x03\x00\x80\x00", "\x80\x00"},
		{"ahead of what is cut", "\x02\x03\x00", ""},
		{"touching, ahead of what is cut", "\x03\x01\x01\x00\x01", ""},
		{"touching, ahead of a run without numbers", "\x03\x01\x01\x00\x01\x01\x00", "\x01\x00"},
	} {
		_, r := read(t, c.b, 25, api.ErrForm)
		wantLeft(t, r, c.left)
		if t.Failed() {
			t.Fatal(c.what)
		}
	}
}

// P8.2: a run's second number is read, and its error comes, ahead of ErrForm.
func TestReadersErrorComesAheadOfErrForm(t *testing.T) {
	for _, c := range []struct {
		what, b string
		e       api.Errno
	}{
		{"touching, and cut", "\x02\x01\x01\x00", api.ErrCut},
		{"touching, and cut within a number", "\x02\x01\x01\x00\x80", api.ErrCut},
		{"touching, and too long", "\x02\x01\x01\x00\x18", api.ErrLong},
		{"a first one that is cut", "\x01\x00", api.ErrCut},
		{"a first one that is too long", "\x01\x00\x1a", api.ErrLong},
	} {
		_, r := read(t, c.b, 25, c.e)
		if r.Failed() != c.e {
			t.Errorf("%s: the reader's error: %d, want %d", c.what, r.Failed(), c.e)
		}
	}
	_, r := read(t, "\x02\x01\x01\x00\x80\x00", 25, api.ErrForm)
	if r.Failed() != api.ErrForm {
		t.Errorf("touching, and no number: the reader's error: %d", r.Failed())
	}
	read(t, "\x02\x01\x01\x00\x17", 25, api.ErrForm)
}

// P8.2: bytes that end too early, after each byte, and so after each number.
func TestReadOfCutBytes(t *testing.T) {
	for _, s := range setsToRead() {
		b := string(s.Bytes())
		// Short ones at each place, long ones at some.
		for n := 0; n < len(b); n += 1 + len(b)/40 {
			_, r := read(t, b[:n], max(top(s), len(s)), api.ErrCut)
			if r.Failed() != api.ErrCut {
				t.Errorf("%x: the reader's error: %d", b[:n], r.Failed())
			}
		}
	}
}

// P8.2: bytes that are no numbers, in the place of each number.
func TestReadOfNoNumbers(t *testing.T) {
	wrong := []string{"\x80\x00", "\xff\x00", "\xff\xff\xff\xff\xff\xff\xff\xff\xff\x02", "\xff\xff\xff\xff\xff\xff\xff\xff\xff\xff\xff"}
	good := "\x02\x01\x01\x08\x0f"
	for n := range len(good) {
		for _, w := range wrong {
			_, r := read(t, good[:n]+w, 25, api.ErrForm)
			if r.Failed() != api.ErrForm {
				t.Errorf("%x%x: the reader's error: %d", good[:n], w, r.Failed())
			}
		}
		_, r := read(t, good[:n]+"\xff\xff\xff\xff\xff\xff\xff\xff\xff\x01", 25, api.ErrLong)
		if r.Failed() != api.ErrLong {
			t.Errorf("%x and 2^64 - 1: the reader's error: %d", good[:n], r.Failed())
		}
	}
}

// failed is a reader of a set's bytes that has an error already.
func failed(t *testing.T, e api.Errno) *varint.Reader {
	t.Helper()
	b := map[api.Errno]string{api.ErrCut: "\x80", api.ErrForm: "\x80\x00", api.ErrLong: "\x01\x00\x01"}[e]
	r := varint.Open([]byte(b))
	r.Number(0)
	if r.Failed() != e {
		t.Fatalf("the reader's error: %d, want %d", r.Failed(), e)
	}
	return r
}

// P8.2: an error that the reader had before the call.
func TestReadOfAReaderWithAnError(t *testing.T) {
	for _, e := range []api.Errno{api.ErrCut, api.ErrForm, api.ErrLong} {
		for _, most := range []int{math.MinInt, 0, 1, 25, math.MaxInt} {
			r := failed(t, e)
			if s, got := extent.Read(r, most); got != e || len(s) != 0 {
				t.Errorf("Read(%d) = %v, %d, want error %d", most, s, got, e)
			}
			if r.Failed() != e {
				t.Errorf("the reader's error became %d, want %d", r.Failed(), e)
			}
		}
	}
}

// P8.2: the first error stays that of each later call.
func TestReadAgainBehindAnError(t *testing.T) {
	_, r := read(t, "\x01\x1a\x01\x00", 25, api.ErrLong)
	for range 3 {
		if s, e := extent.Read(r, 100); e != api.ErrLong || len(s) != 0 {
			t.Errorf("Read again = %v, %d", s, e)
		}
	}
}

// P8.2: a nil reader's error is layer 1's.
func TestReadOfANilReader(t *testing.T) {
	for _, most := range []int{math.MinInt, -1, 0, 1, 25, math.MaxInt} {
		if s, e := extent.Read(nil, most); e != api.ErrArg || len(s) != 0 {
			t.Errorf("Read(nil, %d) = %v, %d", most, s, e)
		}
	}
}

// P8.2: sets one behind the other are read one behind the other.
func TestReadOfSeveralSets(t *testing.T) {
	var b []byte
	for _, s := range setsToRead() {
		b = append(b, s.Bytes()...)
		b = varint.Put(b, 12345)
	}
	r := varint.Open(b)
	for _, s := range setsToRead() {
		if got, e := extent.Read(r, max(top(s), len(s))); e != api.OK || !slices.Equal(got, s) {
			t.Fatalf("%v is read as %v, %d", s, got, e)
		}
		if n := r.Number(12345); n != 12345 {
			t.Fatalf("behind %v: %d", s, n)
		}
	}
	if e := r.End(); e != api.OK {
		t.Errorf("the end: %d", e)
	}
}

// P1: a great number of runs needs neither time nor memory ahead of the runs.
func TestReadOfVeryManyRuns(t *testing.T) {
	for _, n := range []uint64{1 << 31, far, 1 << 62, math.MaxInt} {
		read(t, string(varint.Put(nil, n)), math.MaxInt, api.ErrCut)
		read(t, string(varint.Put(nil, n, 0, 1, 1, 1)), math.MaxInt, api.ErrCut)
		read(t, string(varint.Put(nil, n, 0, 1, 0, 1)), math.MaxInt, api.ErrForm)
	}
}

// modelRead reads a set from bytes without a reader: the runs, the error, and how
// many bytes were consumed.
func modelRead(b []byte, most int) (s extent.Set, e api.Errno, used int) {
	number := func(bound int) int {
		if e != api.OK {
			return 0
		}
		n, size, bad := varint.Next(b[used:])
		if e = bad; bad != api.OK {
			return 0
		}
		if n > uint64(max(bound, 0)) {
			e = api.ErrLong
			return 0
		}
		used += size
		return int(n)
	}
	runs := number(most)
	for i := 0; i < runs; i++ {
		apart := number(most - top(s))
		from := top(s) + apart
		size := number(most - from)
		if e == api.OK && (size == 0 || i > 0 && apart == 0) {
			e = api.ErrForm
		}
		if e != api.OK {
			return nil, e, used
		}
		s = append(s, run(from, from+size))
	}
	return s, e, used
}

// wantReadLike compares Read with the model.
func wantReadLike(t *testing.T, b []byte, most int) {
	t.Helper()
	want, wantE, used := modelRead(b, most)
	r := varint.Open(b)
	s, e := extent.Read(r, most)
	if e != wantE || !slices.Equal(s, want) {
		t.Fatalf("Read of %x, %d = %v, %d, want %v, %d", b, most, s, e, want, wantE)
	}
	if r.Failed() == api.OK {
		wantLeft(t, r, string(b[used:]))
	}
	if e != api.OK {
		return
	}
	wantForm(t, s)
	if again := s.Bytes(); !bytes.Equal(again, b[:used]) {
		t.Fatalf("%x is read as %v, whose bytes are %x", b[:used], s, again)
	}
}

// P8.2: each three, four and five small numbers, with each small most.
func TestReadOfEachSmallBytes(t *testing.T) {
	for most := -1; most <= 5; most++ {
		for n := 0; n <= 5; n++ {
			b := make([]byte, n)
			for code := 0; code < 1<<(2*n); code++ {
				for i := range b {
					b[i] = byte(code >> (2 * i) & 3)
				}
				wantReadLike(t, b, most)
			}
		}
	}
}

// P8.2: many mixed bytes.
func TestReadOfMixedBytes(t *testing.T) {
	d := dice(5)
	for i := range 60000 {
		b := make([]byte, d.next(16))
		for k := range b {
			b[k] = byte(d.next(4))
			if d.next(12) == 0 {
				b[k] = byte(d.next(256))
			}
		}
		wantReadLike(t, b, []int{0, 3, 10, 200, far, math.MaxInt}[i%6])
	}
}

// P8.2: bytes of sets in which one byte is another one.
func TestReadOfChangedBytes(t *testing.T) {
	for _, s := range setsToRead()[:60] {
		b := s.Bytes()
		for i := range b {
			for _, c := range []byte{0, 1, 2, 127, 128, 255} {
				changed := bytes.Clone(b)
				changed[i] = c
				wantReadLike(t, changed, top(s)+1)
			}
		}
	}
}

// inside is a copy of the list, of which something lies before and behind.
func inside[T any](l []T, other T) (part, whole []T) {
	whole = append([]T{other}, l...)
	whole = append(whole, other, other)
	return whole[1 : 1+len(l)], whole
}

// Rule 3: Of changes neither the runs nor what is beyond them, and keeps none.
func TestRunsAreNeitherKeptNorChanged(t *testing.T) {
	for _, l := range [][]extent.Run{
		{}, {run(1, 5)}, {run(1, 5), run(7, 9)}, {run(7, 9), run(1, 5)}, {run(3, 9), run(1, 5), run(4, 4), run(9, 2), run(9, 10)},
	} {
		part, whole := inside(l, run(-77, 99))
		before := slices.Clone(whole)
		s := extent.Of(part...)
		want := slices.Clone(s)
		if !slices.Equal(whole, before) {
			t.Errorf("the runs became %v, want %v", whole, before)
		}
		clear(whole)
		if !slices.Equal(s, want) {
			t.Errorf("the set became %v, want %v", s, want)
		}
		copy(whole, before)
		spoil(s)
		if !slices.Equal(whole, before) {
			t.Errorf("the runs became %v by the set, want %v", whole, before)
		}
	}
}

// spoil writes over a set, and all that it could grow into.
func spoil(s extent.Set) {
	s = s[:cap(s)]
	for i := range s {
		s[i] = run(-1000, -999)
	}
}

// Rule 3: Or, And and Minus change no set, keep none, and share no memory with one.
func TestSetsAreNeitherKeptNorChanged(t *testing.T) {
	calls := map[string]func(s extent.Set, l ...extent.Set) extent.Set{"Or": extent.Set.Or, "And": extent.Set.And, "Minus": extent.Set.Minus}
	lists := [][]extent.Set{
		{}, {of(0, 100)}, {of()}, {of(200, 300)}, {of(1, 5, 7, 9)}, {of(2, 3, 8, 20)}, {of(0, 4), of(3, 9)}, {of(), of(4, 8), of(0, 100)},
	}
	for name, call := range calls {
		for _, sets := range lists {
			first, wholeFirst := inside(of(1, 5, 7, 9), run(-77, 99))
			l, wholes := make([]extent.Set, len(sets)), [][]extent.Run{wholeFirst}
			for i, s := range sets {
				part, whole := inside(s, run(-77, 99))
				l[i], wholes = part, append(wholes, whole)
			}
			wantOwnMemory(t, name, wholes, func() extent.Set { return call(first, l...) })
		}
	}
}

// Rule 3: the list of the others stays as it is, and what is beyond it too.
func TestListsOfSetsAreLeft(t *testing.T) {
	calls := map[string]func(s extent.Set, l ...extent.Set) extent.Set{"Or": extent.Set.Or, "And": extent.Set.And, "Minus": extent.Set.Minus}
	for name, call := range calls {
		l, whole := inside([]extent.Set{of(8, 20), of(), of(0, 4, 6, 7), of(2, 9)}, of(50, 60))
		before := slices.Clone(whole)
		call(of(1, 5, 7, 9), l...)
		call(of(), l...)
		if !slices.EqualFunc(whole, before, slices.Equal[extent.Set]) {
			t.Errorf("%s: the list became %v, want %v", name, whole, before)
		}
	}
}

// wantOwnMemory looks whether a call leaves memory as it is, and whether its result
// has its own.
func wantOwnMemory(t *testing.T, name string, memory [][]extent.Run, call func() extent.Set) {
	t.Helper()
	var before [][]extent.Run
	for _, m := range memory {
		before = append(before, slices.Clone(m))
	}
	same := func(what string) {
		t.Helper()
		for i, m := range memory {
			if !slices.Equal(m, before[i]) {
				t.Errorf("%s: %s: %v became %v", name, what, before[i], m)
			}
		}
	}
	first, second := call(), call()
	want := slices.Clone(first)
	same("the call")
	spoil(first)
	same("the result's memory")
	if !slices.Equal(second, want) {
		t.Errorf("%s: two results share memory", name)
	}
	for _, m := range memory {
		clear(m)
	}
	if !slices.Equal(second, want) {
		t.Errorf("%s: the result %v became %v", name, want, second)
	}
}

// Rule 3: what only looks at a set changes nothing of it, nor beyond it.
func TestLookingLeavesTheSet(t *testing.T) {
	s, whole := inside(of(1, 5, 7, 9), run(-77, 99))
	set := extent.Set(s)
	before := slices.Clone(whole)
	first, second := set.Bytes(), set.Bytes()
	clear(first[:cap(first)])
	if !bytes.Equal(second, of(1, 5, 7, 9).Bytes()) {
		t.Errorf("two results of Bytes share memory: %x", second)
	}
	for n := range 12 {
		if set.Has(n) != of(1, 5, 7, 9).Has(n) {
			t.Errorf("Has(%d) = %t", n, set.Has(n))
		}
	}
	if got := slices.Collect(set.All); !slices.Equal(got, []int{1, 2, 3, 4, 7, 8}) || set.Len() != 6 {
		t.Errorf("All yields %v, Len() = %d", got, set.Len())
	}
	if !slices.Equal(whole, before) {
		t.Errorf("the runs became %v, want %v", whole, before)
	}
}

// Rule 3: what is read has its own memory, each time.
func TestReadResultsAreNew(t *testing.T) {
	b := []byte("\x02\x01\x01\x08\x0f\x02\x01\x01\x08\x0f")
	r := varint.Open(b)
	first, _ := extent.Read(r, 25)
	spoil(first)
	second, e := extent.Read(r, 25)
	if e != api.OK {
		t.Errorf("error %d", e)
	}
	wantRuns(t, "the second set", second, 1, 2, 10, 25)
	if string(b) != "\x02\x01\x01\x08\x0f\x02\x01\x01\x08\x0f" {
		t.Errorf("the bytes became %x", b)
	}
}

// P2: the same calls have the same results, whatever came between.
func TestSameCallsAgain(t *testing.T) {
	d := dice(6)
	for range 100 {
		runs := d.mixedRuns(20, -50, 50)
		s, other := extent.Of(runs...), extent.Of(d.mixedRuns(20, -50, 50)...)
		or, and, minus := s.Or(other), s.And(other), s.Minus(other)
		extent.Of(d.mixedRuns(9, -50, 50)...).Or(s)
		extent.Read(varint.Open([]byte("\x01\x02")), 9)
		if !slices.Equal(s, extent.Of(runs...)) || !slices.Equal(or, s.Or(other)) || !slices.Equal(and, s.And(other)) || !slices.Equal(minus, s.Minus(other)) {
			t.Errorf("%v and %v: other results when called again", s, other)
		}
	}
}

// runsFrom makes runs of bytes: two bytes for each.
func runsFrom(b []byte) []extent.Run {
	var l []extent.Run
	for i := 0; i+1 < len(b); i += 2 {
		from := int(int8(b[i]))
		l = append(l, run(from, from+int(b[i+1])%16-2))
	}
	return l
}

// FuzzSets joins the sets of the runs of three lists of bytes.
func FuzzSets(f *testing.F) {
	f.Add([]byte{}, []byte{}, []byte{})
	f.Add([]byte{1, 5, 9, 7}, []byte{3, 5}, []byte{250, 15, 0, 2})
	f.Fuzz(func(t *testing.T, a, b, c []byte) {
		all := append(append(runsFrom(a), runsFrom(b)...), runsFrom(c)...)
		wantNumbers(t, "Of", extent.Of(all...), -140, 150, func(n int) bool { return inRuns(all, n) })
		wantJoined(t, -140, 150, runsFrom(a), [][]extent.Run{runsFrom(b), runsFrom(c)})
	})
}

// FuzzRead reads any bytes.
func FuzzRead(f *testing.F) {
	f.Add([]byte("\x02\x01\x01\x08\x0f"), 25)
	f.Add([]byte("\x01\x00\x80\x80\x01"), math.MaxInt)
	f.Add([]byte{}, -1)
	f.Fuzz(func(t *testing.T, b []byte, most int) { wantReadLike(t, b, most) })
}

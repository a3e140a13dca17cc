package power_test

import (
	"math"
	"testing"

	"revenant/api"
	"revenant/power"
)

// write is one call of Write, and what it has to return.
type write struct {
	n    int
	want int
	e    api.Errno
}

func wantWrites(t *testing.T, p *power.Power, l ...write) {
	t.Helper()
	for i, w := range l {
		if n, e := p.Write(w.n); n != w.want || e != w.e {
			t.Errorf("write %d: Write(%d) = %d, %d, want %d, %d", i, w.n, n, e, w.want, w.e)
		}
	}
}

func wantState(t *testing.T, p *power.Power, on bool, count int) {
	t.Helper()
	if p.On() != on || p.Count() != count {
		t.Errorf("On() = %t, Count() = %d, want %t, %d", p.On(), p.Count(), on, count)
	}
}

// fallen is power that is off, after one write of 0 bytes.
func fallen(t *testing.T) *power.Power {
	t.Helper()
	p := power.New()
	p.Plan(0, 0)
	wantWrites(t, p, write{0, 0, api.ErrDown})
	wantState(t, p, false, 1)
	return p
}

func TestNewIsOnWithoutPlan(t *testing.T) {
	p := power.New()
	wantState(t, p, true, 0)
	for i := range 1000 {
		wantWrites(t, p, write{i, i, api.OK})
		wantState(t, p, true, i+1)
	}
}

func TestEachNewIsItsOwn(t *testing.T) {
	p, q := power.New(), power.New()
	if p == q {
		t.Fatal("New returned the same power twice")
	}
	p.Plan(0, 1)
	wantWrites(t, q, write{5, 5, api.OK})
	wantWrites(t, p, write{5, 1, api.ErrDown})
	wantState(t, p, false, 1)
	wantState(t, q, true, 1)
}

func TestExample(t *testing.T) {
	p := power.New()
	p.Plan(1, 3)
	wantWrites(t, p, write{9, 9, api.OK}, write{9, 3, api.ErrDown})
	wantState(t, p, false, 2)
}

func TestFailsBehindSoManyWrites(t *testing.T) {
	for after := range 20 {
		p := power.New()
		wantWrites(t, p, write{4, 4, api.OK})
		p.Plan(after, 3)
		wantState(t, p, true, 1)
		for i := range after {
			wantWrites(t, p, write{8, 8, api.OK})
			wantState(t, p, true, i+2)
		}
		wantWrites(t, p, write{8, 3, api.ErrDown})
		wantState(t, p, false, after+2)
	}
}

func TestPlanOfNoWrites(t *testing.T) {
	p := power.New()
	p.Plan(0, 2)
	wantState(t, p, true, 0)
	wantWrites(t, p, write{5, 2, api.ErrDown})
	wantState(t, p, false, 1)
}

func TestOffNothingIsWritten(t *testing.T) {
	p := fallen(t)
	for _, n := range []int{0, 1, 7, math.MaxInt} {
		wantWrites(t, p, write{n, 0, api.ErrDown})
		wantState(t, p, false, 1)
	}
}

func TestUpTurnsOnWithoutPlan(t *testing.T) {
	p := fallen(t)
	p.Up()
	wantState(t, p, true, 1)
	for i := range 100 {
		wantWrites(t, p, write{7, 7, api.OK})
		wantState(t, p, true, i+2)
	}
}

func TestUpRemovesPlanWhileOn(t *testing.T) {
	for _, after := range []int{0, 1, 5} {
		p := power.New()
		p.Plan(after, 2)
		p.Up()
		wantState(t, p, true, 0)
		for range 10 {
			wantWrites(t, p, write{6, 6, api.OK})
		}
		wantState(t, p, true, 10)
	}
}

func TestUpAgainChangesNothing(t *testing.T) {
	p := power.New()
	wantWrites(t, p, write{3, 3, api.OK})
	p.Up()
	p.Up()
	wantState(t, p, true, 1)
	wantWrites(t, p, write{3, 3, api.OK})
	wantState(t, p, true, 2)
}

func TestPlanWhileOffIsRemovedByUp(t *testing.T) {
	for _, after := range []int{-1, 0, 1, 3} {
		p := fallen(t)
		p.Plan(after, 2)
		wantState(t, p, false, 1)
		for range 5 {
			wantWrites(t, p, write{6, 0, api.ErrDown})
		}
		p.Up()
		for range 10 {
			wantWrites(t, p, write{6, 6, api.OK})
		}
		wantState(t, p, true, 11)
	}
}

func TestPlanBehindUpHolds(t *testing.T) {
	p := fallen(t)
	p.Up()
	p.Plan(1, 4)
	wantWrites(t, p, write{6, 6, api.OK}, write{6, 4, api.ErrDown}, write{6, 0, api.ErrDown})
	wantState(t, p, false, 3)
	p.Up()
	p.Plan(0, 1)
	wantWrites(t, p, write{6, 1, api.ErrDown})
	wantState(t, p, false, 4)
}

func TestLaterPlanReplacesEarlier(t *testing.T) {
	for _, first := range []int{0, 1, 9} {
		p := power.New()
		p.Plan(first, 1)
		p.Plan(2, 5)
		wantWrites(t, p, write{8, 8, api.OK}, write{8, 8, api.OK}, write{8, 5, api.ErrDown})
	}
}

func TestPlanReplacedMidway(t *testing.T) {
	p := power.New()
	p.Plan(2, 1)
	wantWrites(t, p, write{8, 8, api.OK})
	p.Plan(2, 5)
	wantWrites(t, p, write{8, 8, api.OK}, write{8, 8, api.OK}, write{8, 5, api.ErrDown})
}

func TestAfterBelowZeroIsNoPlan(t *testing.T) {
	for _, after := range []int{-1, -2, math.MinInt} {
		p := power.New()
		p.Plan(after, 3)
		for range 10 {
			wantWrites(t, p, write{5, 5, api.OK})
		}
		wantState(t, p, true, 10)
	}
}

func TestAfterBelowZeroRemovesEarlierPlan(t *testing.T) {
	for _, earlier := range []int{0, 1, 4} {
		for _, after := range []int{-1, -2, math.MinInt} {
			p := power.New()
			p.Plan(earlier, 3)
			p.Plan(after, 3)
			wantState(t, p, true, 0)
			for range 10 {
				wantWrites(t, p, write{5, 5, api.OK})
			}
			wantState(t, p, true, 10)
		}
	}
}

func TestTornIsLimited(t *testing.T) {
	for _, c := range []struct{ torn, n, want int }{
		{math.MinInt, 5, 0}, {-4, 5, 0}, {-1, 5, 0},
		{0, 5, 0}, {1, 5, 1}, {3, 5, 3}, {4, 5, 4}, {5, 5, 5},
		{6, 5, 5}, {1000, 5, 5}, {math.MaxInt, 5, 5},
		{-1, 0, 0}, {0, 0, 0}, {1, 0, 0}, {math.MinInt, 0, 0}, {math.MaxInt, 0, 0},
		{0, math.MaxInt, 0}, {-1, math.MaxInt, 0}, {math.MinInt, math.MaxInt, 0},
		{math.MaxInt - 1, math.MaxInt, math.MaxInt - 1},
		{math.MaxInt, math.MaxInt, math.MaxInt}, {math.MaxInt, math.MaxInt - 1, math.MaxInt - 1},
	} {
		p := power.New()
		p.Plan(0, c.torn)
		wantWrites(t, p, write{c.n, c.want, api.ErrDown})
		wantState(t, p, false, 1)
	}
}

func TestEmptyWriteCounts(t *testing.T) {
	p := power.New()
	wantWrites(t, p, write{0, 0, api.OK})
	wantState(t, p, true, 1)
	p.Plan(1, 2)
	wantWrites(t, p, write{0, 0, api.OK})
	wantState(t, p, true, 2)
	wantWrites(t, p, write{0, 0, api.ErrDown})
	wantState(t, p, false, 3)
}

func TestGreatestNumbers(t *testing.T) {
	p := power.New()
	wantWrites(t, p, write{math.MaxInt, math.MaxInt, api.OK})
	p.Plan(math.MaxInt, math.MaxInt)
	for range 100 {
		wantWrites(t, p, write{math.MaxInt, math.MaxInt, api.OK})
	}
	wantState(t, p, true, 101)
	p.Plan(0, math.MaxInt)
	wantWrites(t, p, write{math.MaxInt, math.MaxInt, api.ErrDown})
	wantState(t, p, false, 102)
}

func TestBelowZeroIsNoWrite(t *testing.T) {
	for _, n := range []int{-1, -7, math.MinInt} {
		bad := write{n, 0, api.ErrArg}

		p := power.New()
		wantWrites(t, p, bad)
		wantState(t, p, true, 0)

		p.Plan(1, 2)
		wantWrites(t, p, bad, bad, write{5, 5, api.OK}, bad)
		wantState(t, p, true, 1)

		p.Plan(0, 2)
		wantWrites(t, p, bad)
		wantState(t, p, true, 1)
		wantWrites(t, p, write{5, 2, api.ErrDown})
		wantState(t, p, false, 2)

		wantWrites(t, p, bad)
		wantState(t, p, false, 2)
		p.Up()
		wantWrites(t, p, bad, write{5, 5, api.OK})
		wantState(t, p, true, 3)
	}
}

func TestOnlyWritesCount(t *testing.T) {
	p := power.New()
	p.Plan(3, 1)
	p.On()
	p.Count()
	p.Plan(-1, 0)
	p.Up()
	wantState(t, p, true, 0)

	p.Plan(1, 1)
	wantWrites(t, p, write{2, 2, api.OK}, write{-1, 0, api.ErrArg}, write{2, 1, api.ErrDown})
	wantState(t, p, false, 2)
	wantWrites(t, p, write{2, 0, api.ErrDown}, write{-1, 0, api.ErrArg})
	p.Plan(0, 0)
	p.Up()
	wantState(t, p, true, 2)
	wantWrites(t, p, write{0, 0, api.OK})
	wantState(t, p, true, 3)
}

func TestNil(t *testing.T) {
	var p *power.Power
	for range 2 {
		wantState(t, p, false, 0)
		wantWrites(t, p,
			write{0, 0, api.ErrDown}, write{5, 0, api.ErrDown}, write{math.MaxInt, 0, api.ErrDown},
			write{-1, 0, api.ErrArg}, write{math.MinInt, 0, api.ErrArg})
		wantState(t, p, false, 0)
		p.Plan(0, 3)
		p.Plan(-1, 3)
		p.Up()
		wantState(t, p, false, 0)
	}
}

// supply follows the chapter's words by a list: what each of the next writes
// lets through, and an empty list where nothing is planned.
type supply struct {
	off   bool
	next  []int
	count int
}

const whole = -1

func (s *supply) plan(after, torn int) {
	s.next = nil
	if after < 0 {
		return
	}
	for range after {
		s.next = append(s.next, whole)
	}
	s.next = append(s.next, max(torn, 0))
}

func (s *supply) up() { *s = supply{count: s.count} }

func (s *supply) write(n int) (int, api.Errno) {
	switch {
	case n < 0:
		return 0, api.ErrArg
	case s.off:
		return 0, api.ErrDown
	}
	s.count++
	if len(s.next) == 0 {
		return n, api.OK
	}
	through := s.next[0]
	s.next = s.next[1:]
	if through == whole {
		return n, api.OK
	}
	s.off = true
	return min(through, n), api.ErrDown
}

// run makes a call of each three bytes, and compares it with a supply.
func run(t *testing.T, p *power.Power, calls []byte) {
	t.Helper()
	var s supply
	for ; len(calls) >= 3; calls = calls[3:] {
		a, b := int(int8(calls[1])), int(int8(calls[2]))
		switch calls[0] % 8 {
		case 0:
			p.Plan(a%8, b)
			s.plan(a%8, b)
		case 1:
			p.Up()
			s.up()
		default:
			n, e := s.write(a)
			wantWrites(t, p, write{a, n, e})
		}
		wantState(t, p, !s.off, s.count)
	}
}

// calls is n calls without a plain pattern, the same ones each time.
func calls(n int, seed uint32) []byte {
	b := make([]byte, 3*n)
	for i := range b {
		seed = seed*1664525 + 1013904223
		b[i] = byte(seed >> 24)
	}
	return b
}

func TestManyCalls(t *testing.T) {
	for seed := range uint32(50) {
		run(t, power.New(), calls(300, seed))
	}
}

// The results depend on the earlier calls on the same power alone (P2).
func TestSameCallsAgain(t *testing.T) {
	other := power.New()
	for range 3 {
		run(t, power.New(), calls(200, 4))
		other.Plan(0, 1)
		other.Write(1)
	}
}

func FuzzCalls(f *testing.F) {
	f.Add(calls(20, 1))
	f.Add([]byte{0, 1, 3, 2, 9, 0, 2, 9, 0, 1, 0, 0, 2, 9, 0})
	f.Fuzz(func(t *testing.T, b []byte) { run(t, power.New(), b) })
}

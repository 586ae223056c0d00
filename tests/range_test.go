package tests

import (
	"math"
	"slices"
	"testing"

	"loop.example/sedge/impl"
)

const (
	low  = impl.NumMin
	high = impl.NumMax
)

// rangeCase is what RangeDo must tell.
type rangeCase struct {
	op     int
	a, b   impl.Range
	made   impl.Range
	faults []int
}

func checkRangeDo(t *testing.T, cases []rangeCase) {
	t.Helper()
	for _, c := range cases {
		made, faults := impl.RangeDo(c.op, c.a, c.b)
		if made != c.made || !slices.Equal(faults, c.faults) {
			t.Errorf("RangeDo(%d, %v, %v) is %v and %v, not %v and %v", c.op, c.a, c.b, made, faults, c.made, c.faults)
		}
	}
}

var (
	over  = []int{impl.FaOver}
	zero  = []int{impl.FaZero}
	shift = []int{impl.FaShift}
)

func TestRangeOk(t *testing.T) {
	ok := slices.Concat([]impl.Range{noRange(), allNumbers(), rg(low, low), rg(high, high), rg(0, 0), rg(1, 1), rg(0, 1), rg(-1, 0)}, smallRanges(), manyRanges())
	for _, a := range ok {
		if !impl.RangeOk(a) {
			t.Errorf("RangeOk(%v) is false", a)
		}
	}
	for _, a := range wrongRanges() {
		if impl.RangeOk(a) {
			t.Errorf("RangeOk(%v) is true", a)
		}
	}
}

func TestRangeHas(t *testing.T) {
	cases := []struct {
		a   impl.Range
		v   int
		has bool
	}{
		{rg(-3, 5), -4, false}, {rg(-3, 5), -3, true}, {rg(-3, 5), 0, true}, {rg(-3, 5), 5, true}, {rg(-3, 5), 6, false},
		{rg(7, 7), 6, false}, {rg(7, 7), 7, true}, {rg(7, 7), 8, false},
		{allNumbers(), low, true}, {allNumbers(), high, true}, {allNumbers(), low - 1, false}, {allNumbers(), high + 1, false},
		{allNumbers(), math.MinInt, false}, {allNumbers(), math.MaxInt, false}, {allNumbers(), word, false},
		{noRange(), 0, false}, {noRange(), 1, false}, {noRange(), 2, false}, {noRange(), -1, false},
		{rg(low-1, 5), 0, false}, {rg(0, high+1), 0, false}, {rg(0, high+1), high + 1, false}, {rg(math.MinInt, math.MaxInt), 0, false},
		{rg(5, 4), 4, false}, {rg(5, 4), 5, false},
	}
	for _, c := range cases {
		if impl.RangeHas(c.a, c.v) != c.has {
			t.Errorf("RangeHas(%v, %d) is %v", c.a, c.v, !c.has)
		}
	}
}

func TestRangeIn(t *testing.T) {
	cases := []struct {
		a, b impl.Range
		in   bool
	}{
		{rg(0, 3), rg(0, 3), true}, {rg(1, 2), rg(0, 3), true}, {rg(0, 3), rg(1, 3), false}, {rg(0, 3), rg(0, 2), false},
		{rg(0, 3), rg(1, 2), false}, {rg(4, 5), rg(0, 3), false}, {rg(-2, -1), rg(0, 3), false}, {rg(2, 4), rg(0, 3), false},
		{noRange(), noRange(), true}, {noRange(), rg(5, 5), true}, {noRange(), allNumbers(), true},
		{rg(0, 0), noRange(), false}, {rg(1, 1), noRange(), false}, {rg(0, 1), noRange(), false}, {allNumbers(), noRange(), false},
		{allNumbers(), allNumbers(), true}, {rg(low, low), allNumbers(), true}, {allNumbers(), rg(low, high-1), false},
		{allNumbers(), rg(low+1, high), false},
	}
	for _, c := range cases {
		if impl.RangeIn(c.a, c.b) != c.in {
			t.Errorf("RangeIn(%v, %v) is %v", c.a, c.b, !c.in)
		}
	}
	for _, wrong := range wrongRanges() {
		for _, other := range slices.Concat([]impl.Range{noRange(), allNumbers(), rg(0, 0), wrong}, wrongRanges()) {
			if impl.RangeIn(wrong, other) || impl.RangeIn(other, wrong) {
				t.Errorf("RangeIn of %v and %v is true", wrong, other)
			}
		}
	}
}

func TestRangeJoinAndMeet(t *testing.T) {
	cases := []struct{ a, b, join, meet impl.Range }{
		{rg(0, 3), rg(2, 9), rg(0, 9), rg(2, 3)}, {rg(0, 3), rg(3, 9), rg(0, 9), rg(3, 3)}, {rg(0, 3), rg(4, 9), rg(0, 9), noRange()},
		{rg(0, 3), rg(7, 9), rg(0, 9), noRange()}, {rg(0, 9), rg(2, 3), rg(0, 9), rg(2, 3)}, {rg(0, 9), rg(0, 9), rg(0, 9), rg(0, 9)},
		{rg(-5, -2), rg(-3, 1), rg(-5, 1), rg(-3, -2)}, {rg(0, 0), rg(1, 1), rg(0, 1), noRange()},
		{rg(low, low), rg(high, high), allNumbers(), noRange()}, {allNumbers(), rg(low, low), allNumbers(), rg(low, low)},
		{allNumbers(), rg(high, high), allNumbers(), rg(high, high)}, {allNumbers(), allNumbers(), allNumbers(), allNumbers()},
		{noRange(), rg(5, 8), rg(5, 8), noRange()}, {noRange(), rg(-8, -5), rg(-8, -5), noRange()}, {noRange(), rg(0, 1), rg(0, 1), noRange()},
		{noRange(), allNumbers(), allNumbers(), noRange()}, {noRange(), noRange(), noRange(), noRange()},
	}
	for _, c := range cases {
		for _, p := range [][2]impl.Range{{c.a, c.b}, {c.b, c.a}} {
			if join := impl.RangeJoin(p[0], p[1]); join != c.join {
				t.Errorf("RangeJoin(%v, %v) is %v, not %v", p[0], p[1], join, c.join)
			}
			if meet := impl.RangeMeet(p[0], p[1]); meet != c.meet {
				t.Errorf("RangeMeet(%v, %v) is %v, not %v", p[0], p[1], meet, c.meet)
			}
		}
	}
}

func TestRangeWiden(t *testing.T) {
	steps := []int{10, -7, 20, 10, 3, 0, -7}
	cases := []struct {
		a, b  impl.Range
		steps []int
		wide  impl.Range
	}{
		{rg(0, 3), rg(1, 2), nil, rg(0, 3)}, {rg(0, 3), rg(0, 3), nil, rg(0, 3)}, {rg(0, 3), rg(0, 4), nil, rg(0, high)},
		{rg(0, 3), rg(-1, 3), nil, rg(low, 3)}, {rg(0, 3), rg(-1, 4), nil, allNumbers()}, {rg(0, 3), rg(9, 9), nil, rg(0, high)},
		{rg(0, 3), rg(-9, -9), nil, rg(low, 3)}, {rg(0, 3), rg(0, 4), []int{}, rg(0, high)},

		{rg(1, 2), rg(1, 3), steps, rg(1, 3)}, {rg(1, 2), rg(1, 4), steps, rg(1, 10)}, {rg(1, 2), rg(1, 9), steps, rg(1, 10)},
		{rg(1, 2), rg(1, 10), steps, rg(1, 10)}, {rg(1, 2), rg(1, 11), steps, rg(1, 20)}, {rg(1, 2), rg(1, 20), steps, rg(1, 20)},
		{rg(1, 2), rg(1, 21), steps, rg(1, high)}, {rg(1, 2), rg(30, 40), steps, rg(1, high)},
		{rg(1, 2), rg(0, 2), steps, rg(0, 2)}, {rg(1, 2), rg(-1, 2), steps, rg(-7, 2)}, {rg(1, 2), rg(-6, 2), steps, rg(-7, 2)},
		{rg(1, 2), rg(-7, 2), steps, rg(-7, 2)}, {rg(1, 2), rg(-8, 2), steps, rg(low, 2)}, {rg(1, 2), rg(-7, 20), steps, rg(-7, 20)},
		{rg(1, 2), rg(1, 1), steps, rg(1, 2)}, {rg(5, 6), rg(5, 5), steps, rg(5, 6)}, {rg(5, 6), rg(4, 6), steps, rg(3, 6)},
		// An end that stays is not moved, wherever the steps lie.
		{rg(5, 6), rg(5, 7), steps, rg(5, 10)}, {rg(4, 21), rg(2, 21), steps, rg(0, 21)}, {rg(4, 21), rg(2, 22), steps, rg(0, high)},

		{rg(0, 3), rg(-1, 4), []int{low - 1, high + 1, math.MinInt, math.MaxInt, -word, word}, allNumbers()},
		{rg(0, 3), rg(-1, 4), []int{math.MaxInt, 8, high + 1, low - 1, -8, math.MinInt}, rg(-8, 8)},
		{rg(0, 3), rg(-1, 4), []int{low, high}, allNumbers()}, {rg(0, 3), rg(-1, 4), []int{low + 1, high - 1}, rg(low+1, high-1)},
		{rg(0, 3), rg(low, high), []int{low + 1, high - 1}, allNumbers()}, {rg(0, 3), rg(low+1, high-1), []int{low + 1, high - 1}, rg(low+1, high-1)},
		{allNumbers(), rg(0, 3), steps, allNumbers()}, {rg(high, high), rg(high-1, high), []int{low + 5}, rg(low+5, high)},

		{noRange(), rg(1, 2), nil, rg(1, 2)}, {noRange(), rg(1, 2), steps, rg(1, 2)}, {rg(1, 2), noRange(), nil, rg(1, 2)},
		{rg(1, 2), noRange(), steps, rg(1, 2)}, {rg(-2, -1), noRange(), steps, rg(-2, -1)}, {noRange(), rg(-2, 5), steps, rg(-2, 5)},
		{noRange(), noRange(), steps, noRange()}, {noRange(), allNumbers(), steps, allNumbers()},
	}
	for _, c := range cases {
		if wide := impl.RangeWiden(c.a, c.b, c.steps); wide != c.wide {
			t.Errorf("RangeWiden(%v, %v, %v) is %v, not %v", c.a, c.b, c.steps, wide, c.wide)
		}
	}
}

// What is not ok leaves nothing of what stands beside it.
func TestRangeWrongSides(t *testing.T) {
	for _, wrong := range wrongRanges() {
		for _, v := range []int{low, -1, 0, 1, 2, high, wrong.Lo, wrong.Hi} {
			if impl.RangeHas(wrong, v) {
				t.Errorf("RangeHas(%v, %d) is true", wrong, v)
			}
		}
		for _, other := range slices.Concat([]impl.Range{noRange(), allNumbers(), rg(0, 1), rg(low, low), rg(high, high), wrong}, wrongRanges()) {
			checkWrongSides(t, wrong, other)
			checkWrongSides(t, other, wrong)
		}
	}
}

func checkWrongSides(t *testing.T, a, b impl.Range) {
	t.Helper()
	if got := impl.RangeJoin(a, b); got != noRange() {
		t.Errorf("RangeJoin(%v, %v) is %v", a, b, got)
	}
	if got := impl.RangeMeet(a, b); got != noRange() {
		t.Errorf("RangeMeet(%v, %v) is %v", a, b, got)
	}
	for _, steps := range [][]int{nil, {0, 5, -5}} {
		if got := impl.RangeWiden(a, b, steps); got != noRange() {
			t.Errorf("RangeWiden(%v, %v, %v) is %v", a, b, steps, got)
		}
	}
	checkNothing(t, a, b)
}

// checkNothing asks for none of all operators and comparisons.
func checkNothing(t *testing.T, a, b impl.Range) {
	t.Helper()
	for _, op := range append(allOps(), wrongOps()...) {
		if made, faults := impl.RangeDo(op, a, b); made != noRange() || len(faults) != 0 {
			t.Errorf("RangeDo(%d, %v, %v) is %v and %v", op, a, b, made, faults)
		}
	}
	for _, cmp := range append(allCmps(), wrongCmps()...) {
		if x, y := impl.RangeCmp(cmp, a, b); x != noRange() || y != noRange() {
			t.Errorf("RangeCmp(%d, %v, %v) is %v and %v", cmp, a, b, x, y)
		}
	}
}

// By 0 and by 40 there would be a fault, if none were let through.
func TestRangeNoneMakesNothing(t *testing.T) {
	for _, other := range []impl.Range{noRange(), rg(0, 0), rg(0, 1), rg(1, 1), rg(40, 40), allNumbers(), rg(low, low), rg(high, high)} {
		checkNothing(t, noRange(), other)
		checkNothing(t, other, noRange())
	}
}

func TestRangeNoOperator(t *testing.T) {
	for _, op := range wrongOps() {
		for _, b := range []impl.Range{rg(0, 0), rg(40, 40), rg(1, 1), allNumbers()} {
			if made, faults := impl.RangeDo(op, allNumbers(), b); made != noRange() || len(faults) != 0 {
				t.Errorf("RangeDo(%d, all, %v) is %v and %v", op, b, made, faults)
			}
		}
	}
}

func TestRangeSumsAndProducts(t *testing.T) {
	checkRangeDo(t, []rangeCase{
		{impl.OpAdd, rg(1, 5), rg(-2, 3), rg(-1, 8), nil}, {impl.OpAdd, rg(7, 7), rg(-9, -9), rg(-2, -2), nil},
		{impl.OpAdd, rg(0, high), rg(0, 0), rg(0, high), nil}, {impl.OpAdd, rg(0, high), rg(0, 1), rg(0, high), over},
		{impl.OpAdd, rg(low, 0), rg(0, 0), rg(low, 0), nil}, {impl.OpAdd, rg(low, 0), rg(-1, 0), rg(low, 0), over},
		{impl.OpAdd, rg(high, high), rg(1, 1), noRange(), over}, {impl.OpAdd, rg(low, low), rg(-9, -1), noRange(), over},
		{impl.OpAdd, rg(high-1, high), rg(1, 2), rg(high, high), over}, {impl.OpAdd, rg(low, low+1), rg(-2, -1), rg(low, low), over},
		{impl.OpAdd, allNumbers(), allNumbers(), allNumbers(), over}, {impl.OpAdd, rg(low, low), rg(high, high), rg(-1, -1), nil},
		{impl.OpSub, rg(1, 5), rg(-2, 3), rg(-2, 7), nil}, {impl.OpSub, rg(7, 7), rg(-9, -9), rg(16, 16), nil},
		{impl.OpSub, rg(low, 0), rg(1, 1), rg(low, -1), over}, {impl.OpSub, rg(low, low), rg(1, 5), noRange(), over},
		{impl.OpSub, rg(-1, -1), rg(low, low), rg(high, high), nil}, {impl.OpSub, rg(-1, 0), rg(low, low), rg(high, high), over},
		{impl.OpSub, rg(0, 0), rg(low, low), noRange(), over}, {impl.OpSub, rg(0, 0), allNumbers(), rg(-high, high), over},
		{impl.OpSub, allNumbers(), allNumbers(), allNumbers(), over},
		{impl.OpMul, rg(-3, 2), rg(-5, 4), rg(-12, 15), nil}, {impl.OpMul, rg(2, 3), rg(4, 5), rg(8, 15), nil},
		{impl.OpMul, rg(-3, -2), rg(4, 5), rg(-15, -8), nil}, {impl.OpMul, rg(-3, -2), rg(-5, -4), rg(8, 15), nil},
		{impl.OpMul, rg(0, 0), allNumbers(), rg(0, 0), nil}, {impl.OpMul, rg(1, 1), allNumbers(), allNumbers(), nil},
		{impl.OpMul, rg(-1, -1), allNumbers(), rg(-high, high), over}, {impl.OpMul, rg(-1, -1), rg(low+1, high), rg(-high, high), nil},
		{impl.OpMul, rg(65536, 65536), rg(-32768, 32767), rg(low, 2147418112), nil},
		{impl.OpMul, rg(65536, 65536), rg(-32768, 32768), allNumbers(), over}, {impl.OpMul, rg(65536, 65536), rg(32768, 32768), noRange(), over},
		{impl.OpMul, rg(low, low), rg(low, low), noRange(), over}, {impl.OpMul, allNumbers(), allNumbers(), allNumbers(), over},
	})
}

func TestRangeQuotients(t *testing.T) {
	checkRangeDo(t, []rangeCase{
		{impl.OpDiv, rg(7, 20), rg(2, 3), rg(2, 10), nil}, {impl.OpDiv, rg(7, 20), rg(-3, -2), rg(-10, -2), nil},
		{impl.OpDiv, rg(-20, -7), rg(2, 3), rg(-10, -2), nil}, {impl.OpDiv, rg(-20, -7), rg(-3, -2), rg(2, 10), nil},
		{impl.OpDiv, rg(-7, 9), rg(2, 3), rg(-3, 4), nil}, {impl.OpDiv, rg(-7, 9), rg(-3, -2), rg(-4, 3), nil},
		{impl.OpDiv, rg(1, 2), rg(3, 5), rg(0, 0), nil}, {impl.OpDiv, rg(7, 7), rg(-2, -2), rg(-3, -3), nil},
		// Of numbers on both sides of 0, with 0 at an end or within, or 0 alone.
		{impl.OpDiv, rg(-7, 9), rg(-2, 3), rg(-9, 9), zero}, {impl.OpDiv, rg(6, 9), rg(-2, 3), rg(-9, 9), zero},
		{impl.OpDiv, rg(6, 9), rg(-3, 0), rg(-9, -2), zero}, {impl.OpDiv, rg(6, 9), rg(0, 3), rg(2, 9), zero},
		{impl.OpDiv, rg(6, 9), rg(-1, 0), rg(-9, -6), zero}, {impl.OpDiv, rg(6, 9), rg(0, 1), rg(6, 9), zero},
		{impl.OpDiv, rg(6, 9), rg(-100, 100), rg(-9, 9), zero}, {impl.OpDiv, rg(1, 2), rg(0, 0), noRange(), zero},
		{impl.OpDiv, rg(0, 0), rg(0, 0), noRange(), zero}, {impl.OpDiv, rg(low, high), rg(0, 0), noRange(), zero},
		{impl.OpDiv, rg(0, 0), rg(-5, 5), rg(0, 0), zero},
		// Of NumMin by -1.
		{impl.OpDiv, rg(low, low), rg(-1, -1), noRange(), over}, {impl.OpDiv, rg(low, 0), rg(-1, -1), rg(0, high), over},
		{impl.OpDiv, rg(low, low+5), rg(-1, -1), rg(high-4, high), over}, {impl.OpDiv, rg(low+1, 0), rg(-1, -1), rg(0, high), nil},
		{impl.OpDiv, rg(low, low), rg(-2, -1), rg(1073741824, high), over}, {impl.OpDiv, rg(low, low), rg(-3, -2), rg(715827882, 1073741824), nil},
		{impl.OpDiv, rg(low, low), rg(-1, 0), noRange(), []int{impl.FaOver, impl.FaZero}},
		{impl.OpDiv, rg(low, low), rg(-5, 0), rg(429496729, high), []int{impl.FaOver, impl.FaZero}},
		{impl.OpDiv, rg(low, 7), rg(-1, 0), rg(-7, high), []int{impl.FaOver, impl.FaZero}},
		{impl.OpDiv, rg(low, low), rg(0, 1), rg(low, low), zero}, {impl.OpDiv, rg(low, low), rg(1, 2), rg(low, -1073741824), nil},
		// The corner beyond the end is one of all, though nothing comes of it by itself.
		{impl.OpDiv, rg(low, low), rg(-1, 1), allNumbers(), []int{impl.FaOver, impl.FaZero}},
		{impl.OpDiv, rg(low, low), rg(-1, 2), allNumbers(), []int{impl.FaOver, impl.FaZero}},
		{impl.OpDiv, allNumbers(), allNumbers(), allNumbers(), []int{impl.FaOver, impl.FaZero}},
		{impl.OpDiv, allNumbers(), rg(low, low), rg(0, 1), nil}, {impl.OpDiv, rg(low+1, high), rg(low, low), rg(0, 0), nil},
	})
}

func TestRangeRests(t *testing.T) {
	checkRangeDo(t, []rangeCase{
		// One number each.
		{impl.OpRem, rg(17, 17), rg(-5, -5), rg(2, 2), nil}, {impl.OpRem, rg(-17, -17), rg(5, 5), rg(-2, -2), nil},
		{impl.OpRem, rg(3, 3), rg(5, 5), rg(3, 3), nil}, {impl.OpRem, rg(low, low), rg(-1, -1), rg(0, 0), nil},
		{impl.OpRem, rg(high, high), rg(low, low), rg(high, high), nil}, {impl.OpRem, rg(low, low), rg(low, low), rg(0, 0), nil},
		{impl.OpRem, rg(5, 5), rg(0, 0), noRange(), zero}, {impl.OpRem, rg(0, 0), rg(0, 0), noRange(), zero},
		// One number on one side alone.
		{impl.OpRem, rg(17, 17), rg(5, 6), rg(0, 5), nil}, {impl.OpRem, rg(17, 18), rg(5, 5), rg(0, 4), nil},
		{impl.OpRem, rg(17, 17), rg(-6, -5), rg(0, 5), nil}, {impl.OpRem, rg(17, 17), rg(30, 40), rg(17, 17), nil},
		// Smaller than what divides: just so, and no more.
		{impl.OpRem, rg(0, 3), rg(5, 9), rg(0, 3), nil}, {impl.OpRem, rg(2, 4), rg(5, 9), rg(2, 4), nil},
		{impl.OpRem, rg(2, 5), rg(5, 9), rg(0, 5), nil}, {impl.OpRem, rg(-4, -2), rg(5, 9), rg(-4, -2), nil},
		{impl.OpRem, rg(-5, -2), rg(5, 9), rg(-5, 0), nil}, {impl.OpRem, rg(-4, 4), rg(5, 9), rg(-4, 4), nil},
		{impl.OpRem, rg(2, 4), rg(-9, -5), rg(2, 4), nil}, {impl.OpRem, rg(2, 5), rg(-9, -5), rg(0, 5), nil},
		{impl.OpRem, rg(-4, -2), rg(-9, -5), rg(-4, -2), nil}, {impl.OpRem, rg(-5, -2), rg(-9, -5), rg(-5, 0), nil},
		{impl.OpRem, rg(0, 0), rg(1, 9), rg(0, 0), nil}, {impl.OpRem, rg(0, 0), rg(-9, -1), rg(0, 0), nil},
		// Greater, on either side of 0.
		{impl.OpRem, rg(10, 30), rg(4, 7), rg(0, 6), nil}, {impl.OpRem, rg(-20, -10), rg(4, 7), rg(-6, 0), nil},
		{impl.OpRem, rg(-20, 30), rg(4, 7), rg(-6, 6), nil}, {impl.OpRem, rg(-20, 30), rg(-7, -4), rg(-6, 6), nil},
		{impl.OpRem, rg(-2, 30), rg(4, 7), rg(-2, 6), nil}, {impl.OpRem, rg(-20, 2), rg(4, 7), rg(-6, 2), nil},
		{impl.OpRem, rg(5, 30), rg(1, 1), rg(0, 0), nil}, {impl.OpRem, rg(-5, 30), rg(-1, -1), rg(0, 0), nil},
		// Divided by numbers on both sides of 0, with 0 at an end or within, or 0 alone.
		{impl.OpRem, rg(2, 30), rg(-4, 7), rg(0, 6), zero}, {impl.OpRem, rg(-30, 30), rg(-9, 7), rg(-8, 8), zero},
		{impl.OpRem, rg(2, 30), rg(0, 7), rg(0, 6), zero}, {impl.OpRem, rg(2, 30), rg(-7, 0), rg(0, 6), zero},
		{impl.OpRem, rg(2, 30), rg(0, 1), rg(0, 0), zero}, {impl.OpRem, rg(2, 30), rg(-1, 0), rg(0, 0), zero},
		{impl.OpRem, rg(2, 30), rg(0, 0), noRange(), zero}, {impl.OpRem, rg(2, 3), rg(-1, 9), rg(0, 3), zero},
		{impl.OpRem, rg(2, 3), rg(-1, 1), rg(0, 0), zero}, {impl.OpRem, rg(7, 7), rg(-1, 1), rg(0, 0), zero},
		// At the ends of numbers.
		{impl.OpRem, rg(low, low), rg(-1, 0), rg(0, 0), zero}, {impl.OpRem, rg(low, low+1), rg(-1, -1), rg(0, 0), nil},
		{impl.OpRem, allNumbers(), rg(low, low), rg(-high, high), nil}, {impl.OpRem, rg(low+1, high), rg(low, low), rg(low+1, high), nil},
		{impl.OpRem, allNumbers(), rg(high, high), rg(1-high, high-1), nil}, {impl.OpRem, allNumbers(), allNumbers(), rg(-high, high), zero},
		{impl.OpRem, rg(low, low), rg(low, low+1), rg(-high, 0), nil}, {impl.OpRem, rg(high, high), rg(high-1, high), rg(0, high-1), nil},
	})
}

func TestRangeShifts(t *testing.T) {
	checkRangeDo(t, []rangeCase{
		{impl.OpShl, rg(1, 3), rg(0, 2), rg(1, 12), nil}, {impl.OpShl, rg(-3, 3), rg(1, 2), rg(-12, 12), nil},
		{impl.OpShl, rg(-3, -1), rg(1, 2), rg(-12, -2), nil}, {impl.OpShl, rg(5, 5), rg(2, 2), rg(20, 20), nil},
		{impl.OpShl, rg(0, 0), rg(0, 31), rg(0, 0), nil}, {impl.OpShl, rg(1, 1), rg(0, 30), rg(1, 1073741824), nil},
		{impl.OpShl, rg(1, 1), rg(0, 31), rg(1, high), over}, {impl.OpShl, rg(-1, -1), rg(0, 31), rg(low, -1), nil},
		{impl.OpShl, rg(-2, -1), rg(31, 31), rg(low, low), over}, {impl.OpShl, rg(1, 2), rg(31, 31), noRange(), over},
		{impl.OpShl, allNumbers(), rg(0, 0), allNumbers(), nil}, {impl.OpShl, allNumbers(), rg(31, 31), allNumbers(), over},
		{impl.OpShl, rg(1, 3), rg(-1, 2), rg(1, 12), shift}, {impl.OpShl, rg(1, 3), rg(-7, 0), rg(1, 3), shift},
		{impl.OpShl, rg(-1, 0), rg(31, 32), rg(low, 0), shift}, {impl.OpShl, rg(-1, 0), rg(30, 99), rg(low, 0), shift},
		{impl.OpShl, rg(0, 1), rg(30, 32), rg(0, high), []int{impl.FaOver, impl.FaShift}},
		{impl.OpShl, rg(1, 1), allNumbers(), rg(1, high), []int{impl.FaOver, impl.FaShift}},
		{impl.OpShl, rg(high, high), rg(1, 32), noRange(), []int{impl.FaOver, impl.FaShift}},
		{impl.OpShl, allNumbers(), rg(-2, -1), noRange(), shift}, {impl.OpShl, allNumbers(), rg(32, 33), noRange(), shift},
		{impl.OpShl, rg(1, 1), rg(-1, -1), noRange(), shift}, {impl.OpShl, rg(1, 1), rg(32, 32), noRange(), shift},
		{impl.OpShl, rg(1, 1), rg(low, low), noRange(), shift}, {impl.OpShl, rg(1, 1), rg(high, high), noRange(), shift},
		{impl.OpShr, rg(-8, 8), rg(0, 1), rg(-8, 8), nil}, {impl.OpShr, rg(-8, 8), rg(1, 2), rg(-4, 4), nil},
		{impl.OpShr, rg(5, 9), rg(1, 2), rg(1, 4), nil}, {impl.OpShr, rg(-9, -5), rg(1, 2), rg(-5, -2), nil},
		{impl.OpShr, rg(-5, -5), rg(1, 1), rg(-3, -3), nil}, {impl.OpShr, allNumbers(), rg(31, 31), rg(-1, 0), nil},
		{impl.OpShr, allNumbers(), rg(0, 31), allNumbers(), nil}, {impl.OpShr, rg(low, low), rg(31, 31), rg(-1, -1), nil},
		{impl.OpShr, rg(-8, 8), rg(1, 40), rg(-4, 4), shift}, {impl.OpShr, rg(7, 8), rg(-4, 1), rg(3, 8), shift},
		{impl.OpShr, rg(7, 8), rg(31, 32), rg(0, 0), shift}, {impl.OpShr, rg(-8, -7), rg(31, 99), rg(-1, -1), shift},
		{impl.OpShr, allNumbers(), allNumbers(), allNumbers(), shift}, {impl.OpShr, allNumbers(), rg(32, high), noRange(), shift},
		{impl.OpShr, allNumbers(), rg(low, -1), noRange(), shift}, {impl.OpShr, rg(0, 0), rg(32, 32), noRange(), shift},
	})
}

func TestRangeWraps(t *testing.T) {
	checkRangeDo(t, []rangeCase{
		{impl.OpWrapAdd, rg(1, 5), rg(-2, 3), rg(-1, 8), nil}, {impl.OpWrapAdd, rg(high, high), rg(0, 0), rg(high, high), nil},
		// All beyond the end, and on both sides of it.
		{impl.OpWrapAdd, rg(high, high), rg(1, 1), rg(low, low), nil}, {impl.OpWrapAdd, rg(high, high), rg(1, 2), rg(low, low+1), nil},
		{impl.OpWrapAdd, rg(high-1, high), rg(1, 1), allNumbers(), nil}, {impl.OpWrapAdd, rg(high, high), rg(0, 1), allNumbers(), nil},
		{impl.OpWrapAdd, rg(low, low+1), rg(-2, -2), rg(high-1, high), nil}, {impl.OpWrapAdd, rg(low, low+1), rg(-1, -1), allNumbers(), nil},
		{impl.OpWrapAdd, rg(0, high), rg(0, high), allNumbers(), nil},
		// Apart by 4294967294, 4294967295 and more.
		{impl.OpWrapAdd, rg(low+1, high), rg(0, 0), rg(low+1, high), nil}, {impl.OpWrapAdd, allNumbers(), rg(0, 0), allNumbers(), nil},
		{impl.OpWrapAdd, allNumbers(), rg(1, 1), allNumbers(), nil}, {impl.OpWrapAdd, allNumbers(), rg(0, 1), allNumbers(), nil},
		{impl.OpWrapAdd, allNumbers(), rg(0, 5), allNumbers(), nil}, {impl.OpWrapAdd, allNumbers(), allNumbers(), allNumbers(), nil},
		{impl.OpWrapSub, rg(1, 5), rg(-2, 3), rg(-2, 7), nil}, {impl.OpWrapSub, rg(0, 0), rg(low, low), rg(low, low), nil},
		{impl.OpWrapSub, rg(0, 1), rg(low, low), rg(low, low+1), nil}, {impl.OpWrapSub, rg(-1, 0), rg(low, low), allNumbers(), nil},
		{impl.OpWrapSub, rg(low, low), rg(1, 3), rg(high-2, high), nil}, {impl.OpWrapSub, rg(low, low), rg(0, 3), allNumbers(), nil},
		{impl.OpWrapSub, allNumbers(), allNumbers(), allNumbers(), nil}, {impl.OpWrapSub, rg(0, 0), rg(low+1, high), rg(-high, high), nil},
		{impl.OpWrapMul, rg(-3, 2), rg(-5, 4), rg(-12, 15), nil}, {impl.OpWrapMul, rg(65536, 65536), rg(65536, 65536), rg(0, 0), nil},
		{impl.OpWrapMul, rg(65536, 65536), rg(32768, 32769), rg(low, low+65536), nil}, {impl.OpWrapMul, rg(65536, 65536), rg(32767, 32768), allNumbers(), nil},
		{impl.OpWrapMul, rg(low, low), rg(-1, -1), rg(low, low), nil}, {impl.OpWrapMul, rg(low, low), rg(low, low), rg(0, 0), nil},
		// 0 to 4294967296, and 0 to 4294967297: both wrapped ends alone would leave too little.
		{impl.OpWrapMul, rg(0, 65536), rg(0, 65536), allNumbers(), nil}, {impl.OpWrapMul, rg(0, 1), rg(0, 7), rg(0, 7), nil},
		{impl.OpWrapMul, rg(0, 641), rg(0, 6700417), allNumbers(), nil}, {impl.OpWrapMul, rg(-2, 2), rg(0, high), allNumbers(), nil},
		{impl.OpWrapMul, allNumbers(), allNumbers(), allNumbers(), nil}, {impl.OpWrapMul, rg(low, low), allNumbers(), allNumbers(), nil},
		{impl.OpWrapMul, rg(high, high), rg(high, high), rg(1, 1), nil}, {impl.OpWrapMul, rg(2, 2), rg(1073741824, 1073741825), rg(low, low+2), nil},
	})
}

func TestRangeBits(t *testing.T) {
	checkRangeDo(t, []rangeCase{
		// One number each.
		{impl.OpAnd, rg(12, 12), rg(10, 10), rg(8, 8), nil}, {impl.OpOr, rg(12, 12), rg(10, 10), rg(14, 14), nil},
		{impl.OpXor, rg(12, 12), rg(10, 10), rg(6, 6), nil}, {impl.OpAnd, rg(-4, -4), rg(-6, -6), rg(-8, -8), nil},
		{impl.OpOr, rg(-8, -8), rg(3, 3), rg(-5, -5), nil}, {impl.OpXor, rg(-1, -1), rg(low, low), rg(high, high), nil},
		{impl.OpAnd, rg(0, 0), rg(0, 0), rg(0, 0), nil}, {impl.OpOr, rg(0, 0), rg(0, 0), rg(0, 0), nil}, {impl.OpXor, rg(7, 7), rg(7, 7), rg(0, 0), nil},
		// Neither below 0.
		{impl.OpAnd, rg(4, 5), rg(6, 6), rg(0, 5), nil}, {impl.OpAnd, rg(4, 4), rg(4, 9), rg(0, 4), nil}, {impl.OpAnd, rg(0, high), rg(3, 7), rg(0, 7), nil},
		{impl.OpAnd, rg(0, 0), rg(0, high), rg(0, 0), nil}, {impl.OpOr, rg(1, 5), rg(2, 9), rg(2, 15), nil}, {impl.OpOr, rg(3, 5), rg(2, 2), rg(3, 7), nil},
		{impl.OpXor, rg(1, 5), rg(2, 9), rg(0, 15), nil}, {impl.OpXor, rg(8, 8), rg(0, 1), rg(0, 15), nil},
		// The greater Hi at a power of two less 1, and just above it.
		{impl.OpOr, rg(0, 0), rg(0, 1), rg(0, 1), nil}, {impl.OpOr, rg(0, 2), rg(1, 1), rg(1, 3), nil}, {impl.OpOr, rg(0, 7), rg(3, 3), rg(3, 7), nil},
		{impl.OpOr, rg(0, 8), rg(3, 3), rg(3, 15), nil}, {impl.OpXor, rg(0, 7), rg(3, 3), rg(0, 7), nil}, {impl.OpXor, rg(3, 3), rg(0, 8), rg(0, 15), nil},
		{impl.OpXor, rg(0, 1), rg(0, 1), rg(0, 1), nil}, {impl.OpXor, rg(0, 0), rg(0, 2), rg(0, 3), nil}, {impl.OpOr, rg(6, 7), rg(8, 8), rg(8, 15), nil},
		{impl.OpOr, rg(0, 1073741823), rg(5, 5), rg(5, 1073741823), nil}, {impl.OpOr, rg(0, 1073741824), rg(5, 5), rg(5, high), nil},
		{impl.OpXor, rg(0, high), rg(0, high), rg(0, high), nil}, {impl.OpOr, rg(high-1, high), rg(0, 0), rg(high-1, high), nil},
		// One of them below 0, by one number or by all.
		{impl.OpAnd, rg(-9, 9), rg(0, 6), rg(0, 6), nil}, {impl.OpAnd, rg(0, 6), rg(-9, -8), rg(0, 6), nil}, {impl.OpAnd, rg(5, 5), rg(-1, 0), rg(0, 5), nil},
		{impl.OpAnd, rg(-1, 3), rg(9, 9), rg(0, 9), nil}, {impl.OpAnd, allNumbers(), rg(0, high), rg(0, high), nil},
		{impl.OpOr, rg(-1, 3), rg(9, 9), allNumbers(), nil}, {impl.OpOr, rg(9, 9), rg(-9, -8), allNumbers(), nil},
		{impl.OpXor, rg(-1, 1), rg(0, 1), allNumbers(), nil}, {impl.OpXor, rg(0, 1), rg(-2, -1), allNumbers(), nil},
		// Both below 0.
		{impl.OpAnd, rg(-9, -8), rg(-3, -3), allNumbers(), nil}, {impl.OpAnd, rg(-1, 9), rg(-1, 9), allNumbers(), nil},
		{impl.OpOr, rg(-9, -8), rg(-3, -3), allNumbers(), nil}, {impl.OpXor, rg(-2, -1), rg(-1, -1), allNumbers(), nil},
		{impl.OpXor, allNumbers(), allNumbers(), allNumbers(), nil},
	})
}

func TestRangeCmp(t *testing.T) {
	cases := []struct {
		cmp        int
		a, b, x, y impl.Range
	}{
		{impl.CmpEq, rg(0, 9), rg(5, 12), rg(5, 9), rg(5, 9)}, {impl.CmpEq, rg(0, 9), rg(9, 12), rg(9, 9), rg(9, 9)},
		{impl.CmpEq, rg(0, 9), rg(10, 12), noRange(), noRange()}, {impl.CmpEq, rg(0, 9), rg(3, 4), rg(3, 4), rg(3, 4)},
		{impl.CmpEq, allNumbers(), allNumbers(), allNumbers(), allNumbers()}, {impl.CmpEq, rg(low, low), rg(high, high), noRange(), noRange()},
		// An end is taken away by one number alone, on either side.
		{impl.CmpNe, rg(3, 5), rg(3, 3), rg(4, 5), rg(3, 3)}, {impl.CmpNe, rg(3, 5), rg(5, 5), rg(3, 4), rg(5, 5)},
		{impl.CmpNe, rg(3, 3), rg(3, 5), rg(3, 3), rg(4, 5)}, {impl.CmpNe, rg(5, 5), rg(3, 5), rg(5, 5), rg(3, 4)},
		{impl.CmpNe, rg(3, 5), rg(4, 4), rg(3, 5), rg(4, 4)}, {impl.CmpNe, rg(3, 5), rg(3, 4), rg(3, 5), rg(3, 4)},
		{impl.CmpNe, rg(3, 5), rg(7, 7), rg(3, 5), rg(7, 7)}, {impl.CmpNe, rg(3, 5), rg(3, 5), rg(3, 5), rg(3, 5)},
		{impl.CmpNe, rg(3, 4), rg(3, 3), rg(4, 4), rg(3, 3)}, {impl.CmpNe, rg(3, 4), rg(4, 4), rg(3, 3), rg(4, 4)},
		{impl.CmpNe, rg(3, 3), rg(4, 4), rg(3, 3), rg(4, 4)}, {impl.CmpNe, rg(3, 3), rg(3, 3), noRange(), noRange()},
		{impl.CmpNe, allNumbers(), rg(low, low), rg(low+1, high), rg(low, low)}, {impl.CmpNe, allNumbers(), rg(high, high), rg(low, high-1), rg(high, high)},
		{impl.CmpNe, rg(low, low), rg(low, low), noRange(), noRange()}, {impl.CmpNe, rg(high, high), rg(high, high), noRange(), noRange()},

		{impl.CmpLt, rg(0, 9), rg(-5, 5), rg(0, 4), rg(1, 5)}, {impl.CmpLt, rg(0, 9), rg(20, 30), rg(0, 9), rg(20, 30)},
		{impl.CmpLt, rg(0, 9), rg(9, 10), rg(0, 9), rg(9, 10)}, {impl.CmpLt, rg(0, 9), rg(9, 9), rg(0, 8), rg(9, 9)},
		{impl.CmpLt, rg(3, 3), rg(0, 9), rg(3, 3), rg(4, 9)}, {impl.CmpLt, rg(5, 9), rg(0, 5), noRange(), noRange()},
		{impl.CmpLt, rg(5, 9), rg(0, 6), rg(5, 5), rg(6, 6)}, {impl.CmpLt, rg(5, 5), rg(5, 5), noRange(), noRange()},
		{impl.CmpLt, allNumbers(), allNumbers(), rg(low, high-1), rg(low+1, high)}, {impl.CmpLt, allNumbers(), rg(low, low), noRange(), noRange()},
		{impl.CmpLt, rg(high, high), allNumbers(), noRange(), noRange()}, {impl.CmpLt, rg(low, low), rg(high, high), rg(low, low), rg(high, high)},

		{impl.CmpLe, rg(0, 9), rg(-5, 5), rg(0, 5), rg(0, 5)}, {impl.CmpLe, rg(0, 9), rg(9, 9), rg(0, 9), rg(9, 9)},
		{impl.CmpLe, rg(5, 9), rg(0, 5), rg(5, 5), rg(5, 5)}, {impl.CmpLe, rg(5, 9), rg(0, 4), noRange(), noRange()},
		{impl.CmpLe, allNumbers(), rg(low, low), rg(low, low), rg(low, low)}, {impl.CmpLe, rg(high, high), allNumbers(), rg(high, high), rg(high, high)},
		{impl.CmpLe, allNumbers(), allNumbers(), allNumbers(), allNumbers()}, {impl.CmpLe, rg(0, 3), rg(5, 6), rg(0, 3), rg(5, 6)},

		{impl.CmpGt, rg(-5, 5), rg(0, 9), rg(1, 5), rg(0, 4)}, {impl.CmpGt, rg(0, 5), rg(5, 9), noRange(), noRange()},
		{impl.CmpGt, rg(0, 9), rg(9, 9), noRange(), noRange()}, {impl.CmpGt, rg(0, 9), rg(8, 9), rg(9, 9), rg(8, 8)},
		{impl.CmpGt, allNumbers(), allNumbers(), rg(low+1, high), rg(low, high-1)}, {impl.CmpGt, allNumbers(), rg(high, high), noRange(), noRange()},
		{impl.CmpGt, rg(20, 30), rg(0, 9), rg(20, 30), rg(0, 9)}, {impl.CmpGt, rg(low, low), allNumbers(), noRange(), noRange()},

		{impl.CmpGe, rg(-5, 5), rg(0, 9), rg(0, 5), rg(0, 5)}, {impl.CmpGe, rg(0, 5), rg(5, 9), rg(5, 5), rg(5, 5)},
		{impl.CmpGe, rg(0, 1), rg(2, 3), noRange(), noRange()}, {impl.CmpGe, rg(low, low), allNumbers(), rg(low, low), rg(low, low)},
		{impl.CmpGe, allNumbers(), rg(high, high), rg(high, high), rg(high, high)}, {impl.CmpGe, rg(20, 30), rg(0, 9), rg(20, 30), rg(0, 9)},
	}
	for _, c := range cases {
		if x, y := impl.RangeCmp(c.cmp, c.a, c.b); x != c.x || y != c.y {
			t.Errorf("RangeCmp(%d, %v, %v) is %v and %v, not %v and %v", c.cmp, c.a, c.b, x, y, c.x, c.y)
		}
	}
}

func TestRangeNoComparison(t *testing.T) {
	for _, cmp := range wrongCmps() {
		for _, b := range []impl.Range{rg(0, 0), rg(5, 9), allNumbers()} {
			if x, y := impl.RangeCmp(cmp, allNumbers(), b); x != noRange() || y != noRange() {
				t.Errorf("RangeCmp(%d, all, %v) is %v and %v", cmp, b, x, y)
			}
		}
	}
}

// What is told is new memory each time, and steps are only read, spare room included.
func TestRangeMemory(t *testing.T) {
	ask := func() []int {
		_, faults := impl.RangeDo(impl.OpDiv, allNumbers(), allNumbers())
		return faults
	}
	first, second := ask(), ask()
	for _, faults := range [][]int{first, second} {
		for i := range faults[:cap(faults)] {
			faults[:cap(faults)][i] = 99
		}
		if third := ask(); !slices.Equal(third, []int{impl.FaOver, impl.FaZero}) {
			t.Errorf("RangeDo tells %v behind what was written into its answers", third)
		}
		first[0] = 98
	}
	if second[0] != 99 {
		t.Error("two answers of RangeDo share memory")
	}
	room := []int{10, -7, 10, word, 3, 77, 78}
	impl.RangeWiden(rg(0, 1), rg(-5, 5), room[:5])
	if !slices.Equal(room, []int{10, -7, 10, word, 3, 77, 78}) {
		t.Errorf("RangeWiden wrote into its steps: %v", room)
	}
}

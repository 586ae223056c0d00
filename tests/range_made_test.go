package tests

import (
	"math"
	"math/big"
	"slices"
	"testing"

	"loop.example/sedge/impl"
)

// eachRangePair hands each two ranges of a list over.
func eachRangePair(list []impl.Range, f func(a, b impl.Range)) {
	for _, a := range list {
		for _, b := range list {
			f(a, b)
		}
	}
}

// boundOps are the operators of which each fault that is told comes of some numbers.
func boundOps() []int {
	return []int{impl.OpAdd, impl.OpSub, impl.OpMul, impl.OpDiv, impl.OpRem, impl.OpShl, impl.OpShr}
}

// faultsOf are the faults that NumDo tells of some numbers of each list, ascending.
func faultsOf(op int, as, bs []int) []int {
	var list []int
	for _, x := range as {
		for _, y := range bs {
			if _, fault := impl.NumDo(op, x, y); fault != 0 && !slices.Contains(list, fault) {
				list = append(list, fault)
			}
		}
	}
	slices.Sort(list)
	return list
}

func TestRangeDoSecondReading(t *testing.T) {
	for _, list := range [][]impl.Range{smallRanges(), manyRanges()} {
		eachRangePair(list, func(a, b impl.Range) {
			for _, op := range allOps() {
				made, faults := impl.RangeDo(op, a, b)
				if want, wantFaults := judgeRangeDo(op, a, b); made != want || !slices.Equal(faults, wantFaults) {
					t.Errorf("RangeDo(%d, %v, %v) is %v and %v, not %v and %v", op, a, b, made, faults, want, wantFaults)
				}
			}
		})
	}
}

// What is reckoned of all numbers reaches just from the least to the greatest corner.
func TestRangeDoOfAllNumbersOfSmallRanges(t *testing.T) {
	ops := []int{impl.OpAdd, impl.OpSub, impl.OpMul, impl.OpDiv, impl.OpShl, impl.OpShr}
	eachRangePair(smallRanges(), func(a, b impl.Range) {
		for _, op := range ops {
			var list []*big.Int
			for _, x := range numbersOf(a) {
				for _, y := range numbersOf(b) {
					if v, fault := exact(op, x, y); fault == 0 {
						list = append(list, v)
					}
				}
			}
			if made, _ := impl.RangeDo(op, a, b); made != hull(list) {
				t.Errorf("RangeDo(%d, %v, %v) is %v, not %v", op, a, b, made, hull(list))
			}
		}
	})
}

// checkHeld asks that each number that an operator makes of these is in its range, and each fault among those told.
func checkHeld(t *testing.T, op int, a, b impl.Range, as, bs []int) {
	t.Helper()
	made, faults := impl.RangeDo(op, a, b)
	if !impl.RangeOk(made) {
		t.Errorf("RangeDo(%d, %v, %v) is %v, which is not ok", op, a, b, made)
	}
	if !slices.IsSorted(faults) || len(slices.Compact(slices.Clone(faults))) != len(faults) {
		t.Errorf("RangeDo(%d, %v, %v) tells %v, which do not ascend", op, a, b, faults)
	}
	for _, x := range as {
		for _, y := range bs {
			v, fault := impl.NumDo(op, x, y)
			if fault != 0 && !slices.Contains(faults, fault) {
				t.Errorf("RangeDo(%d, %v, %v) tells %v, but %d and %d have the fault %d", op, a, b, faults, x, y, fault)
			}
			if fault == 0 && !impl.RangeHas(made, v) {
				t.Errorf("RangeDo(%d, %v, %v) is %v, but %d and %d make %d", op, a, b, made, x, y, v)
			}
		}
	}
}

func TestPromise22WhatAnOperatorMakesIsInTheRange(t *testing.T) {
	eachRangePair(smallRanges(), func(a, b impl.Range) {
		for _, op := range allOps() {
			checkHeld(t, op, a, b, numbersOf(a), numbersOf(b))
		}
	})
	list := manyRanges()
	d := newDice()
	for range 6000 {
		a, b := pick(d, list), pick(d, list)
		for _, op := range allOps() {
			checkHeld(t, op, a, b, someOf(a), someOf(b))
		}
	}
}

func TestPromise23FaultsComeOfNumbers(t *testing.T) {
	met := map[int]int{}
	eachRangePair(smallRanges(), func(a, b impl.Range) {
		for _, op := range boundOps() {
			_, faults := impl.RangeDo(op, a, b)
			met[len(faults)]++
			if want := faultsOf(op, numbersOf(a), numbersOf(b)); !slices.Equal(faults, want) {
				t.Errorf("RangeDo(%d, %v, %v) tells %v, but their numbers %v", op, a, b, faults, want)
			}
		}
	})
	if met[0] == 0 || met[1] == 0 || met[2] == 0 {
		t.Errorf("how many faults are told, so often: %v", met)
	}
}

// Of wide ranges the faults come of their ends, or of -1, 0 and 31 among them.
func TestPromise23FaultsOfWideRanges(t *testing.T) {
	ends := func(a impl.Range) []int {
		return slices.DeleteFunc([]int{a.Lo, a.Hi, -1, 0, 31}, func(v int) bool { return v < a.Lo || v > a.Hi })
	}
	eachRangePair(manyRanges(), func(a, b impl.Range) {
		for _, op := range boundOps() {
			_, faults := impl.RangeDo(op, a, b)
			if want := faultsOf(op, ends(a), ends(b)); !slices.Equal(faults, want) {
				t.Errorf("RangeDo(%d, %v, %v) tells %v, but their numbers %v", op, a, b, faults, want)
			}
		}
	})
}

func TestPromise23OneNumberEach(t *testing.T) {
	eachPair(allOps(), func(op, a, b int) {
		made, faults := impl.RangeDo(op, rg(a, a), rg(b, b))
		v, fault := impl.NumDo(op, a, b)
		want, wantFaults := rg(v, v), []int{}
		if fault != 0 {
			want, wantFaults = noRange(), []int{fault}
		}
		if made != want || !slices.Equal(faults, wantFaults) {
			t.Errorf("RangeDo(%d, %d, %d) is %v and %v, but NumDo %d and %d", op, a, b, made, faults, v, fault)
		}
	})
}

// someNumbers lie around the ends of small ranges.
func someNumbers() []int {
	list := numSamples()
	for _, a := range []impl.Range{rg(-7, 7), rg(impl.NumMin, impl.NumMin+4), rg(impl.NumMax-4, impl.NumMax), rg(28, 34)} {
		list = append(list, numbersOf(a)...)
	}
	return append(list, wrongNumbers()...)
}

func TestPromise24JoinAndMeet(t *testing.T) {
	numbers := someNumbers()
	eachRangePair(append(smallRanges(), noRange()), func(a, b impl.Range) {
		join, meet := impl.RangeJoin(a, b), impl.RangeMeet(a, b)
		for _, v := range numbers {
			inA, inB := a.Lo <= v && v <= a.Hi, b.Lo <= v && v <= b.Hi
			if (inA || inB) && !impl.RangeHas(join, v) {
				t.Errorf("RangeJoin(%v, %v) is %v, without %d", a, b, join, v)
			}
			if (inA && inB) != impl.RangeHas(meet, v) {
				t.Errorf("RangeMeet(%v, %v) is %v: %d", a, b, meet, v)
			}
			if impl.RangeHas(a, v) != inA {
				t.Errorf("RangeHas(%v, %d) is %v", a, v, !inA)
			}
		}
		if join != impl.RangeJoin(b, a) || meet != impl.RangeMeet(b, a) {
			t.Errorf("%v and %v do not make the same either way round", a, b)
		}
		if !impl.RangeIn(a, join) || !impl.RangeIn(b, join) || !impl.RangeIn(meet, a) || !impl.RangeIn(meet, b) {
			t.Errorf("%v and %v join as %v, meet as %v", a, b, join, meet)
		}
		if impl.RangeIn(a, b) != (join == b) || impl.RangeIn(a, b) != (meet == a) {
			t.Errorf("RangeIn(%v, %v) is %v", a, b, impl.RangeIn(a, b))
		}
	})
}

// The least range that has both: each end is one of theirs.
func TestPromise24JoinIsTheLeast(t *testing.T) {
	eachRangePair(manyRanges(), func(a, b impl.Range) {
		join := impl.RangeJoin(a, b)
		if join != rg(slices.Min([]int{a.Lo, b.Lo}), slices.Max([]int{a.Hi, b.Hi})) {
			t.Errorf("RangeJoin(%v, %v) is %v", a, b, join)
		}
	})
}

// stepLists are steps for widening: none, few, at the ends, beyond them, unsorted and twice the same.
func stepLists() [][]int {
	return [][]int{
		nil, {0}, {3, -3}, {2, 2, -4, 2, -4}, {5, -1, 4, 0, -5, 1}, {impl.NumMin, impl.NumMax}, {impl.NumMin + 1, impl.NumMax - 1, 0},
		{impl.NumMin - 1, impl.NumMax + 1}, {math.MaxInt, 30, math.MinInt, 7, word, -word}, {32, 31, 8, 7, 6, -2, -46341, 65536, impl.NumMax - 2, impl.NumMin + 2},
	}
}

func TestPromise24Widening(t *testing.T) {
	for _, list := range [][]impl.Range{smallRanges(), manyRanges()} {
		eachRangePair(list, func(a, b impl.Range) {
			for _, steps := range stepLists() {
				wide := impl.RangeWiden(a, b, steps)
				if !impl.RangeIn(a, wide) || !impl.RangeIn(b, wide) {
					t.Errorf("RangeWiden(%v, %v, %v) is %v", a, b, steps, wide)
				}
				if wide.Lo != a.Lo && wide.Lo != impl.NumMin && !slices.Contains(steps, wide.Lo) ||
					wide.Hi != a.Hi && wide.Hi != impl.NumMax && !slices.Contains(steps, wide.Hi) {
					t.Errorf("RangeWiden(%v, %v, %v) moves to no step: %v", a, b, steps, wide)
				}
				if want := judgeRangeWiden(a, b, steps); wide != want {
					t.Errorf("RangeWiden(%v, %v, %v) is %v, not %v", a, b, steps, wide, want)
				}
			}
		})
	}
}

func TestPromise24WideningOfNone(t *testing.T) {
	for _, a := range append(smallRanges(), noRange()) {
		for _, steps := range stepLists() {
			if x, y := impl.RangeWiden(a, noRange(), steps), impl.RangeWiden(noRange(), a, steps); x != a || y != a {
				t.Errorf("%v and none widen to %v, none and it to %v", a, x, y)
			}
		}
	}
}

// What is left has just the ends of those numbers of which the comparison holds.
func TestPromise25WhatAComparisonLeaves(t *testing.T) {
	met := map[bool]int{}
	eachRangePair(smallRanges(), func(a, b impl.Range) {
		for _, cmp := range allCmps() {
			var as, bs []*big.Int
			for _, x := range numbersOf(a) {
				for _, y := range numbersOf(b) {
					if impl.NumCmp(cmp, x, y) {
						as, bs = append(as, big.NewInt(int64(x))), append(bs, big.NewInt(int64(y)))
					}
				}
			}
			x, y := impl.RangeCmp(cmp, a, b)
			met[x == noRange()]++
			if x != hull(as) || y != hull(bs) {
				t.Errorf("RangeCmp(%d, %v, %v) is %v and %v, not %v and %v", cmp, a, b, x, y, hull(as), hull(bs))
			}
		}
	})
	if met[true] == 0 || met[false] == 0 {
		t.Errorf("nothing is left, so often: %v", met)
	}
}

func TestPromise25OfWideRanges(t *testing.T) {
	eachRangePair(manyRanges(), func(a, b impl.Range) {
		for _, cmp := range allCmps() {
			x, y := impl.RangeCmp(cmp, a, b)
			if !impl.RangeIn(x, a) || !impl.RangeIn(y, b) || (x == noRange()) != (y == noRange()) {
				t.Errorf("RangeCmp(%d, %v, %v) leaves %v and %v", cmp, a, b, x, y)
			}
			if turnedY, turnedX := impl.RangeCmp(impl.CmpTurn(cmp), b, a); turnedX != x || turnedY != y {
				t.Errorf("RangeCmp(%d, %v, %v) turned about leaves %v and %v", cmp, a, b, turnedX, turnedY)
			}
			for _, v := range []int{a.Lo, a.Lo + 1, 0, a.Hi - 1, a.Hi} {
				for _, u := range []int{b.Lo, b.Lo + 1, 0, b.Hi - 1, b.Hi} {
					if impl.RangeHas(a, v) && impl.RangeHas(b, u) && impl.NumCmp(cmp, v, u) && (!impl.RangeHas(x, v) || !impl.RangeHas(y, u)) {
						t.Errorf("RangeCmp(%d, %v, %v) leaves %v and %v, without %d or %d", cmp, a, b, x, y, v, u)
					}
				}
			}
		}
	})
}

// greaterRanges are the ranges with one end moved to the next of the ends; by such steps each greater range is met.
func greaterRanges(a impl.Range, ends []int) []impl.Range {
	var list []impl.Range
	if at := slices.Index(ends, a.Lo); at > 0 {
		list = append(list, rg(ends[at-1], a.Hi))
	}
	if at := slices.Index(ends, a.Hi); at >= 0 && at < len(ends)-1 {
		list = append(list, rg(a.Lo, ends[at+1]))
	}
	return list
}

// checkNoLess asks that what is told of greater ranges has what is told of ranges.
func checkNoLess(t *testing.T, op int, a, b, moreA, moreB impl.Range) {
	t.Helper()
	made, faults := impl.RangeDo(op, a, b)
	more, moreFaults := impl.RangeDo(op, moreA, moreB)
	missing := func(fault int) bool { return !slices.Contains(moreFaults, fault) }
	if !impl.RangeIn(made, more) || slices.ContainsFunc(faults, missing) {
		t.Errorf("RangeDo(%d, %v, %v) is %v and %v, but of %v and %v %v and %v", op, a, b, made, faults, moreA, moreB, more, moreFaults)
	}
}

func TestPromise26KnowingLessNeverTellsLess(t *testing.T) {
	fine := slices.Concat([]int{impl.NumMin, impl.NumMin + 1, -46341, -46340}, numbersOf(rg(-9, 9)), []int{30, 31, 32, 65535, 65536, impl.NumMax - 1, impl.NumMax})
	for _, ends := range [][]int{numbersOf(rg(-5, 5)), numbersOf(rg(27, 34)), rangeEnds(), fine} {
		var list []impl.Range
		for i, lo := range ends {
			for _, hi := range ends[i:] {
				list = append(list, rg(lo, hi))
			}
		}
		eachRangePair(list, func(a, b impl.Range) {
			for _, op := range allOps() {
				for _, more := range greaterRanges(a, ends) {
					checkNoLess(t, op, a, b, more, b)
				}
				for _, more := range greaterRanges(b, ends) {
					checkNoLess(t, op, a, b, a, more)
				}
			}
		})
	}
}

func TestPromise26OfNone(t *testing.T) {
	for _, a := range smallRanges() {
		for _, op := range allOps() {
			checkNoLess(t, op, noRange(), a, a, a)
			checkNoLess(t, op, a, noRange(), a, a)
		}
	}
}

func TestPromise27WideningComesToRest(t *testing.T) {
	d := newDice()
	numbers := append(numSamples(), numbersOf(rg(-40, 40))...)
	anyRange := func() impl.Range {
		if d.roll(10) == 0 {
			return noRange()
		}
		lo, hi := pick(d, numbers), pick(d, numbers)
		if d.roll(2) == 0 {
			hi = min(lo+d.roll(5), impl.NumMax)
		}
		return rg(min(lo, hi), max(lo, hi))
	}
	for range 4000 {
		steps := make([]int, d.roll(9))
		for i := range steps {
			steps[i] = pick(d, append(numbers, wrongNumbers()...))
		}
		a, changes := anyRange(), 0
		for range 60 {
			next := impl.RangeWiden(a, anyRange(), steps)
			if next != a {
				a, changes = next, changes+1
			}
		}
		if changes > 2*len(steps)+3 {
			t.Errorf("by the steps %v a range changes %d times", steps, changes)
		}
	}
}

// Number by number, an end rests at each step, and changes no more often than there are steps.
func TestPromise27EndsRestAtEachStep(t *testing.T) {
	steps := []int{40, -10, 20, -30, 30, -20, 10, 20}
	a, changes := noRange(), 0
	var met []impl.Range
	for v := range 100 {
		for _, more := range []impl.Range{rg(v, v), rg(-v, -v)} {
			if next := impl.RangeWiden(a, more, steps); next != a {
				a, changes, met = next, changes+1, append(met, next)
			}
		}
	}
	want := []impl.Range{rg(0, 0), rg(0, 10), rg(-10, 10), rg(-10, 20), rg(-20, 20), rg(-20, 30), rg(-30, 30), rg(-30, 40), rg(impl.NumMin, 40), allNumbers()}
	if !slices.Equal(met, want) {
		t.Errorf("a range is widened to %v, not %v", met, want)
	}
	if changes > 2*len(steps)+3 {
		t.Errorf("it changes %d times", changes)
	}
}

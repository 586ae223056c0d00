package tests

import (
	"slices"
	"testing"

	"loop.example/sedge/impl"
)

// bothWays asks that what was counted was met either way.
func bothWays(t *testing.T, what string, met map[bool]int) {
	t.Helper()
	if met[true] < 100 || met[false] < 100 {
		t.Errorf("%s, or not, so often: %v", what, met)
	}
}

func TestGapsCloseSecondReading(t *testing.T) {
	met := map[bool]int{}
	check := func(g impl.Gaps) {
		closed, kept := impl.GapsClose(g)
		met[kept]++
		if want, wantKept := judgeGapsClose(g); !sameGaps(closed, want) || kept != wantKept {
			t.Errorf("GapsClose(%v) is %v and %v, not %v and %v", g, closed, kept, want, wantKept)
		}
	}
	manyGaps(func(_ *dice, g impl.Gaps, _ [][]int) { check(g) })
	for _, g := range slices.Concat(smallGaps(1, gapBounds()), smallGaps(2, []int{-1, 0, 2, mute})) {
		check(g)
	}
	bothWays(t, "bounds are kept", met)
}

func TestGapsHasSecondReading(t *testing.T) {
	met := map[bool]int{}
	manyGaps(func(_ *dice, g impl.Gaps, tries [][]int) {
		for _, numbers := range tries {
			has := judgeGapsHas(g, numbers)
			met[has]++
			if impl.GapsHas(g, numbers) != has {
				t.Errorf("GapsHas(%v, %v) is %v", g, numbers, !has)
			}
		}
	})
	bothWays(t, "numbers keep bounds", met)
}

func TestGapsOfTwoSecondReading(t *testing.T) {
	met := map[bool]int{}
	alikeGaps(func(_ *dice, a, b impl.Gaps, _ [][]int) {
		checkGaps(t, "GapsJoin", impl.GapsJoin(a, b), judgeGapsJoin(a, b))
		checkGaps(t, "GapsWiden", impl.GapsWiden(a, b), judgeGapsWiden(a, b))
		in := judgeGapsIn(a, b)
		met[in]++
		if impl.GapsIn(a, b) != in {
			t.Errorf("GapsIn(%v, %v) is %v", a, b, !in)
		}
	})
	bothWays(t, "gaps are in others", met)
}

func TestGapsOfOneNumberSecondReading(t *testing.T) {
	manyGaps(func(d *dice, g impl.Gaps, _ [][]int) {
		v, w, c := d.roll(g.N+1), d.roll(g.N+1), pick(d, gapMoves())
		if v != w {
			checkGaps(t, "GapsCut", impl.GapsCut(g, v, w, c), judgeGapsCut(g, v, w, c))
		}
		if v == 0 {
			return
		}
		checkGaps(t, "GapsForget", impl.GapsForget(g, v), judgeGapsForget(g, v))
		checkGaps(t, "GapsMove", impl.GapsMove(g, v, w, c), judgeGapsMove(g, v, w, c))
		checkGaps(t, "GapsMove onto itself", impl.GapsMove(g, v, v, c), judgeGapsMove(g, v, v, c))
		if r := impl.GapsRange(g, v); r != judgeGapsRange(g, v) {
			t.Errorf("GapsRange(%v, %d) is %v, not %v", g, v, r, judgeGapsRange(g, v))
		}
	})
}

// Whatever is handed in, ok gaps are made, or nothing.
func TestGapsMadeAreOk(t *testing.T) {
	d := newDice()
	wrong := wrongGaps()
	places := []int{-1, 0, 1, 2, 3, 11, 12, 13}
	alikeGaps(func(_ *dice, a, b impl.Gaps, _ [][]int) {
		if d.roll(8) == 0 {
			a = pick(d, wrong)
		}
		v, w, c := pick(d, places), pick(d, places), pick(d, append(gapMoves(), wrongMoves()...))
		closed, kept := impl.GapsClose(a)
		if kept != impl.GapsOk(closed) {
			t.Errorf("GapsClose(%v) is %v and %v", a, closed, kept)
		}
		for _, g := range []impl.Gaps{closed, impl.GapsJoin(a, b), impl.GapsWiden(a, b), impl.GapsForget(a, v), impl.GapsMove(a, v, w, c), impl.GapsMove(a, v, v, c), impl.GapsCut(a, v, w, c)} {
			if !impl.GapsOk(g) && !sameGaps(g, noGaps()) {
				t.Errorf("of %v and %v, %d, %d and %d %v is made", a, b, v, w, c, g)
			}
		}
	})
}

func TestPromise34ClosingLosesNoNumbers(t *testing.T) {
	met, closings := map[bool]int{}, map[bool]int{}
	manyGaps(func(_ *dice, g impl.Gaps, tries [][]int) {
		closed, kept := impl.GapsClose(g)
		closings[kept]++
		if kept && !impl.GapsIn(closed, g) {
			t.Errorf("GapsClose(%v) is %v, with a greater bound", g, closed)
		}
		for _, numbers := range tries {
			has := impl.GapsHas(g, numbers)
			met[has]++
			if has != impl.GapsHas(closed, numbers) || has && !kept {
				t.Errorf("GapsClose(%v) is %v and %v; that %v keeps the bounds was %v", g, closed, kept, numbers, has)
			}
		}
	})
	bothWays(t, "numbers keep bounds", met)
	bothWays(t, "closing tells bounds", closings)
}

// eachOfTwo hands each two numbers about 0 over.
func eachOfTwo(f func(numbers []int)) {
	for v := -6; v <= 6; v++ {
		for w := -6; w <= 6; w++ {
			f([]int{v, w})
		}
	}
}

// Of two numbers all small bounds: where closing tells bounds, some numbers about 0 keep them; none do where it says false.
func TestPromise34OfAllSmallBounds(t *testing.T) {
	closings := map[bool]int{}
	for _, g := range smallGaps(2, []int{-2, -1, 0, 2, mute}) {
		closed, kept := impl.GapsClose(g)
		closings[kept]++
		some := false
		eachOfTwo(func(numbers []int) { some = some || judgeGapsHas(g, numbers) })
		if some != kept {
			t.Errorf("GapsClose(%v) is %v and %v; that some numbers keep the bounds is %v", g, closed, kept, some)
		}
	}
	bothWays(t, "closing tells bounds", closings)
}

// Of bounds whose sums stay below GapNone each is as small as it can be: some numbers stand just so far apart.
func TestPromise34ClosedBoundsAreMet(t *testing.T) {
	for _, g := range smallGaps(2, []int{-1, 0, 2, mute}) {
		closed, kept := impl.GapsClose(g)
		if !kept {
			continue
		}
		for at, bound := range closed.D {
			met := bound == mute
			eachOfTwo(func(numbers []int) {
				all := append([]int{0}, numbers...)
				met = met || all[at/3]-all[at%3] == bound && judgeGapsHas(g, numbers)
			})
			if !met {
				t.Errorf("GapsClose(%v) is %v, but no numbers stand %d apart at %d", g, closed, bound, at)
			}
		}
	}
}

// What is closed stays as it is, when no sum on the way reached GapNone.
func TestPromise34ClosedTwice(t *testing.T) {
	closings := map[bool]int{}
	manyGaps(func(_ *dice, g impl.Gaps, _ [][]int) {
		for at, bound := range g.D {
			if bound > mute/(impl.GapMax+1) {
				g.D[at] = mute
			}
		}
		closed, kept := impl.GapsClose(g)
		closings[kept]++
		if again, still := impl.GapsClose(closed); !sameGaps(again, closed) || still != kept {
			t.Errorf("GapsClose(%v) is %v, and closed again %v and %v", g, closed, again, still)
		}
	})
	bothWays(t, "closing tells bounds", closings)
}

func TestPromise35JoinAndWidenHaveAllOfEither(t *testing.T) {
	left, right := map[bool]int{}, map[bool]int{}
	alikeGaps(func(_ *dice, a, b impl.Gaps, tries [][]int) {
		join, wide := impl.GapsJoin(a, b), impl.GapsWiden(a, b)
		for _, numbers := range tries {
			one, other := impl.GapsHas(a, numbers), impl.GapsHas(b, numbers)
			left[one]++
			right[other]++
			if (one || other) && !(impl.GapsHas(join, numbers) && impl.GapsHas(wide, numbers)) {
				t.Errorf("of %v and %v %v and %v are made, without %v", a, b, join, wide, numbers)
			}
		}
	})
	bothWays(t, "the left ones have numbers", left)
	bothWays(t, "the right ones have numbers", right)
}

// put are the numbers with another vth one.
func put(numbers []int, v, number int) []int {
	list := slices.Clone(numbers)
	list[v-1] = number
	return list
}

// number is the vth of the numbers, 0 the 0th.
func number(numbers []int, v int) int {
	return append([]int{0}, numbers...)[v]
}

func TestPromise35Forget(t *testing.T) {
	met := map[bool]int{}
	samples := numSamples()
	manyGaps(func(d *dice, g impl.Gaps, tries [][]int) {
		for _, numbers := range tries {
			has := impl.GapsHas(g, numbers)
			met[has]++
			for v := 1; has && v <= g.N; v++ {
				other := put(numbers, v, pick(d, samples))
				if forgot := impl.GapsForget(g, v); !impl.GapsHas(forgot, other) {
					t.Errorf("GapsForget(%v, %d) is %v, without %v", g, v, forgot, other)
				}
			}
		}
	})
	bothWays(t, "numbers keep bounds", met)
}

// The numbers as they become keep what is known then; what says how they stood apart from the wth is met just so.
func TestPromise35Move(t *testing.T) {
	self, others := 0, 0
	manyGaps(func(d *dice, g impl.Gaps, tries [][]int) {
		for _, numbers := range tries {
			for v := 1; v <= g.N && impl.GapsHas(g, numbers); v++ {
				w := pick(d, []int{v, 0, d.roll(g.N + 1)})
				c := pick(d, append(gapMoves(), 3, -3, 7, -7))
				became := put(numbers, v, number(numbers, w)+c)
				moved := impl.GapsMove(g, v, w, c)
				if !impl.NumOk(became[v-1]) {
					continue
				}
				if !impl.GapsHas(moved, became) {
					t.Errorf("GapsMove(%v, %d, %d, %d) is %v, without %v", g, v, w, c, moved, became)
				}
				if v == w {
					self++
					continue
				}
				others++
				if beside := put(became, v, became[v-1]+1); impl.GapsHas(moved, beside) {
					t.Errorf("GapsMove(%v, %d, %d, %d) is %v, with %v", g, v, w, c, moved, beside)
				}
			}
		}
	})
	if self < 1000 || others < 1000 {
		t.Errorf("moves onto itself %d, onto others %d", self, others)
	}
}

// Just those of the numbers whose difference is at most c keep what is cut.
func TestPromise35Cut(t *testing.T) {
	met := map[bool]int{}
	manyGaps(func(d *dice, g impl.Gaps, tries [][]int) {
		for _, numbers := range tries {
			v, w := d.roll(g.N+1), d.roll(g.N+1)
			apart := number(numbers, v) - number(numbers, w)
			for _, c := range []int{apart - 1, apart, apart + 1, pick(d, gapMoves())} {
				if v == w || !impl.GapsHas(g, numbers) {
					continue
				}
				met[apart <= c]++
				if cut := impl.GapsCut(g, v, w, c); impl.GapsHas(cut, numbers) != (apart <= c) {
					t.Errorf("GapsCut(%v, %d, %d, %d) is %v: %v keeps it, or does not", g, v, w, c, cut, numbers)
				}
			}
		}
	})
	bothWays(t, "differences are at most c", met)
}

func TestPromise36NumbersAreInTheirRange(t *testing.T) {
	met := map[bool]int{}
	manyGaps(func(_ *dice, g impl.Gaps, tries [][]int) {
		closed, _ := impl.GapsClose(g)
		for _, numbers := range tries {
			has := impl.GapsHas(g, numbers)
			met[has]++
			for v := 1; has && v <= g.N; v++ {
				if r, s := impl.GapsRange(g, v), impl.GapsRange(closed, v); !impl.RangeHas(r, numbers[v-1]) || !impl.RangeHas(s, numbers[v-1]) {
					t.Errorf("GapsRange(%v, %d) is %v, closed %v, without %d", g, v, r, s, numbers[v-1])
				}
			}
		}
	})
	bothWays(t, "numbers keep bounds", met)
}

// Of one number the range has just what keeps the bounds.
func TestPromise36OfOneNumber(t *testing.T) {
	numbers := someNumbers()
	met := map[bool]int{}
	for _, g := range smallGaps(1, gapBounds()) {
		for _, v := range numbers {
			has := impl.GapsHas(g, []int{v})
			met[has]++
			if r := impl.GapsRange(g, 1); impl.RangeHas(r, v) != has {
				t.Errorf("GapsRange(%v, 1) is %v; that %d keeps the bounds is %v", g, r, v, has)
			}
		}
	}
	bothWays(t, "numbers keep bounds", met)
}

// nearNone says whether a bound that says something would say nothing when it is c more.
func nearNone(g impl.Gaps, c int) bool {
	return slices.ContainsFunc(g.D, func(bound int) bool { return bound != mute && bound+max(c, -c) >= mute })
}

// There and back is nothing, but for bounds so great that they become GapNone on the way: these stay it.
func TestPromise37ThereAndBack(t *testing.T) {
	closings, moved := map[bool]int{}, 0
	manyGaps(func(d *dice, g impl.Gaps, _ [][]int) {
		closed, kept := impl.GapsClose(g)
		closings[kept]++
		for v := 1; kept && v <= g.N; v++ {
			c := pick(d, gapMoves())
			if nearNone(closed, c) {
				continue
			}
			there := impl.GapsMove(closed, v, v, c)
			if !sameGaps(there, closed) {
				moved++
			}
			if back := impl.GapsMove(there, v, v, -c); !sameGaps(back, closed) {
				t.Errorf("GapsMove(%v, %d, %d, %d) is %v, and back %v", closed, v, v, c, there, back)
			}
		}
	})
	bothWays(t, "closing tells bounds", closings)
	if moved < 1000 {
		t.Errorf("just %d are moved", moved)
	}
}

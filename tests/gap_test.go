package tests

import (
	"math"
	"slices"
	"testing"

	"loop.example/sedge/impl"
)

func checkGaps(t *testing.T, what string, told, want impl.Gaps) {
	t.Helper()
	if !sameGaps(told, want) {
		t.Errorf("%s is %v, not %v", what, told, want)
	}
}

func TestGapsTop(t *testing.T) {
	checkGaps(t, "GapsTop(0)", impl.GapsTop(0), impl.Gaps{N: 0, D: []int{0}})
	checkGaps(t, "GapsTop(1)", impl.GapsTop(1), impl.Gaps{N: 1, D: []int{0, mute, mute, 0}})
	checkGaps(t, "GapsTop(2)", impl.GapsTop(2), impl.Gaps{N: 2, D: []int{0, mute, mute, mute, 0, mute, mute, mute, 0}})
	for n := range impl.GapMax + 1 {
		top := impl.GapsTop(n)
		checkGaps(t, "GapsTop", top, gp(n))
		if !impl.GapsOk(top) || len(top.D) != (n+1)*(n+1) {
			t.Errorf("GapsTop(%d) is %v", n, top)
		}
	}
	for _, n := range []int{-1, -2, -13, 13, 14, 255, 256, word, -word, math.MinInt, math.MaxInt} {
		checkGaps(t, "GapsTop of too few or too many", impl.GapsTop(n), noGaps())
	}
}

func TestGapsOk(t *testing.T) {
	manyGaps(func(_ *dice, g impl.Gaps, _ [][]int) {
		if !impl.GapsOk(g) {
			t.Errorf("GapsOk(%v) is false", g)
		}
	})
	for _, g := range []impl.Gaps{{N: 0, D: []int{0}}, gp(12), gp(1, tie{1, 0, mute}), gp(1, tie{1, 0, -mute}), gp(1, tie{0, 1, -mute}, tie{1, 0, -mute}), gp(12, tie{12, 11, -mute}, tie{0, 12, 1 - mute}),
		gp(2, tie{1, 2, -1}, tie{2, 1, 0}), gp(12, tie{12, 0, mute - 1})} {
		if !impl.GapsOk(g) {
			t.Errorf("GapsOk(%v) is false", g)
		}
	}
	for _, g := range wrongGaps() {
		if impl.GapsOk(g) {
			t.Errorf("GapsOk(%v) is true", g)
		}
	}
	// Each place: of one number and itself just 0, of two any bound.
	for n := range impl.GapMax + 1 {
		for i := range n + 1 {
			for j := range n + 1 {
				for _, most := range []int{-mute - 1, -mute, -1, 0, 1, mute, mute + 1} {
					ok := most == 0 || i != j && most >= -mute && most <= mute
					if g := gp(n, tie{i, j, most}); impl.GapsOk(g) != ok {
						t.Errorf("GapsOk(%v) is %v", g, !ok)
					}
				}
			}
		}
	}
}

func TestGapsHas(t *testing.T) {
	less := gp(2, tie{1, 0, 10}, tie{2, 1, 3}, tie{0, 2, -5})
	cases := []struct {
		g       impl.Gaps
		numbers []int
		has     bool
	}{
		{less, []int{10, 13}, true}, {less, []int{11, 13}, false}, {less, []int{10, 14}, false}, {less, []int{2, 5}, true}, {less, []int{2, 4}, false}, {less, []int{1, 5}, false}, {less, []int{low, 5}, false},
		{less, []int{10, 5}, true}, {less, []int{3, 6}, true},
		// Too few, too many, or not ok.
		{less, nil, false}, {less, []int{10}, false}, {less, []int{10, 13, 0}, false}, {less, []int{10, 13, 10, 13}, false}, {less, []int{10 - word, 13 - word}, false}, {less, []int{low - 1, 5}, false},
		{gp(0), nil, true}, {gp(0), []int{}, true}, {gp(0), []int{0}, false}, {gp(1), nil, false}, {gp(1), []int{low}, true}, {gp(1), []int{high}, true}, {gp(1), []int{low - 1}, false}, {gp(1), []int{high + 1}, false},
		{gp(1), []int{math.MinInt}, false}, {gp(1), []int{math.MaxInt}, false}, {gp(3), []int{low, high, low}, true}, {gp(3), []int{0, 0, math.MinInt}, false}, {gp(3), []int{math.MaxInt, 0, math.MinInt}, false},
		{gp(12), make([]int, 12), true}, {gp(12), make([]int, 11), false}, {gp(12), make([]int, 13), false}, {gp(2), []int{0, high + 1}, false}, {gp(2), []int{high + 1, 0}, false},
		// As far apart as numbers can be, and by one more or less.
		{gp(2, tie{1, 2, word - 1}), []int{high, low}, true}, {gp(2, tie{1, 2, word - 2}), []int{high, low}, false}, {gp(2, tie{1, 2, 1 - word}), []int{low, high}, true}, {gp(2, tie{1, 2, -word}), []int{low, high}, false},
		{gp(1, tie{1, 0, low}), []int{low}, true}, {gp(1, tie{1, 0, low - 1}), []int{low}, false}, {gp(1, tie{0, 1, -high}), []int{high}, true}, {gp(1, tie{0, 1, -high - 1}), []int{high}, false},
		{gp(1, tie{1, 0, -mute}), []int{low}, false}, {gp(1, tie{0, 1, -mute}), []int{high}, false}, {gp(2, tie{2, 1, -mute}), []int{high, low}, false}, {gp(1, tie{1, 0, mute - 1}), []int{high}, true},
		// The last bound of the last number.
		{gp(12, tie{12, 11, 0}), []int{0, 0, 0, 0, 0, 0, 0, 0, 0, 0, 0, 1}, false}, {gp(12, tie{12, 11, 0}), []int{0, 0, 0, 0, 0, 0, 0, 0, 0, 0, 1, 1}, true}, {gp(12, tie{0, 12, 0}), []int{0, 0, 0, 0, 0, 0, 0, 0, 0, 0, 0, -1}, false},
	}
	for _, c := range cases {
		if impl.GapsHas(c.g, c.numbers) != c.has {
			t.Errorf("GapsHas(%v, %v) is %v", c.g, c.numbers, !c.has)
		}
	}
	for _, g := range wrongGaps() {
		for _, numbers := range [][]int{nil, {0}, {0, 0}, make([]int, 12), make([]int, 13), make([]int, min(max(g.N, 0), 20))} {
			if impl.GapsHas(g, numbers) {
				t.Errorf("GapsHas(%v, %v) is true", g, numbers)
			}
		}
	}
}

func TestGapsIn(t *testing.T) {
	g := gp(2, tie{1, 0, 10}, tie{2, 1, -3})
	cases := []struct {
		a, b impl.Gaps
		in   bool
	}{
		{g, g, true}, {g, gp(2), true}, {gp(2), g, false}, {gp(2), gp(2), true}, {gp(0), gp(0), true}, {gp(12), gp(12), true},
		{g, gp(2, tie{1, 0, 10}), true}, {g, gp(2, tie{1, 0, 9}, tie{2, 1, -3}), false}, {g, gp(2, tie{1, 0, 11}, tie{2, 1, -3}), true}, {g, gp(2, tie{1, 0, 10}, tie{2, 1, -2}), true},
		{g, gp(2, tie{1, 0, 10}, tie{2, 1, -4}), false}, {g, gp(2, tie{1, 0, 11}, tie{2, 1, -4}), false}, {g, gp(2, tie{2, 0, mute - 1}), false}, {gp(1, tie{1, 0, -mute}), gp(1, tie{1, 0, 1 - mute}), true},
		{gp(1, tie{1, 0, 1 - mute}), gp(1, tie{1, 0, -mute}), false}, {gp(12, tie{12, 11, 5}), gp(12, tie{12, 11, 4}), false}, {gp(12, tie{12, 11, 5}), gp(12, tie{12, 11, 5}), true},
		// Those that no numbers keep are in others by their bounds alone.
		{gp(1, tie{1, 0, -1}, tie{0, 1, -1}), gp(1, tie{1, 0, -1}), true}, {gp(1, tie{1, 0, -1}, tie{0, 1, -1}), gp(1, tie{1, 0, -2}), false},
		// Of unlike N.
		{gp(1), gp(2), false}, {gp(2), gp(1), false}, {gp(0), gp(1), false}, {gp(12), gp(11), false}, {gp(0), gp(12), false}, {gp(12), gp(0), false},
	}
	for _, c := range cases {
		if impl.GapsIn(c.a, c.b) != c.in {
			t.Errorf("GapsIn(%v, %v) is %v", c.a, c.b, !c.in)
		}
	}
	for _, wrong := range wrongGaps() {
		for _, g := range []impl.Gaps{gp(0), gp(1), gp(12), wrong} {
			if impl.GapsIn(wrong, g) || impl.GapsIn(g, wrong) {
				t.Errorf("GapsIn of %v and %v is true", wrong, g)
			}
		}
	}
}

// closeCase is what GapsClose must tell.
type closeCase struct {
	g      impl.Gaps
	closed impl.Gaps
	kept   bool
}

func checkGapsClose(t *testing.T, cases []closeCase) {
	t.Helper()
	for _, c := range cases {
		if closed, kept := impl.GapsClose(c.g); !sameGaps(closed, c.closed) || kept != c.kept {
			t.Errorf("GapsClose(%v) is %v and %v, not %v and %v", c.g, closed, kept, c.closed, c.kept)
		}
	}
}

func TestGapsCloseOfBoundsInTurn(t *testing.T) {
	checkGapsClose(t, []closeCase{
		{gp(0), gp(0), true}, {gp(1), gp(1), true}, {gp(12), gp(12), true},
		{gp(2, tie{1, 0, 10}, tie{2, 1, 3}), gp(2, tie{1, 0, 10}, tie{2, 1, 3}, tie{2, 0, 13}), true},
		{gp(2, tie{0, 1, -4}, tie{1, 2, -3}), gp(2, tie{0, 1, -4}, tie{1, 2, -3}, tie{0, 2, -7}), true},
		{gp(2, tie{1, 0, 10}, tie{2, 1, 3}, tie{2, 0, 13}), gp(2, tie{1, 0, 10}, tie{2, 1, 3}, tie{2, 0, 13}), true},
		{gp(2, tie{1, 0, 10}, tie{2, 1, 3}, tie{2, 0, 12}), gp(2, tie{1, 0, 10}, tie{2, 1, 3}, tie{2, 0, 12}), true},
		{gp(2, tie{1, 0, 10}, tie{2, 1, 3}, tie{2, 0, 14}), gp(2, tie{1, 0, 10}, tie{2, 1, 3}, tie{2, 0, 13}), true},
		// By way of 0.
		{gp(2, tie{1, 0, 7}, tie{0, 2, -2}), gp(2, tie{1, 0, 7}, tie{0, 2, -2}, tie{1, 2, 5}), true},
		// By way of several, up and down.
		{gp(3, tie{3, 2, 1}, tie{2, 1, 1}, tie{1, 0, 1}), gp(3, tie{3, 2, 1}, tie{2, 1, 1}, tie{1, 0, 1}, tie{3, 1, 2}, tie{2, 0, 2}, tie{3, 0, 3}), true},
		{gp(3, tie{0, 1, 1}, tie{1, 2, 1}, tie{2, 3, 1}), gp(3, tie{0, 1, 1}, tie{1, 2, 1}, tie{2, 3, 1}, tie{0, 2, 2}, tie{1, 3, 2}, tie{0, 3, 3}), true},
		{gp(3, tie{1, 3, 1}, tie{3, 0, 1}, tie{0, 2, 1}), gp(3, tie{1, 3, 1}, tie{3, 0, 1}, tie{0, 2, 1}, tie{1, 0, 2}, tie{3, 2, 2}, tie{1, 2, 3}), true},
		{gp(12, tie{12, 11, 1}, tie{11, 0, 1}), gp(12, tie{12, 11, 1}, tie{11, 0, 1}, tie{12, 0, 2}), true},
		{gp(12, tie{11, 12, 1}, tie{12, 0, 1}), gp(12, tie{11, 12, 1}, tie{12, 0, 1}, tie{11, 0, 2}), true},
	})
}

func TestGapsCloseOfGreatSums(t *testing.T) {
	half := mute / 2
	checkGapsClose(t, []closeCase{
		// Just below GapNone, GapNone, above it.
		{gp(2, tie{1, 0, half}, tie{2, 1, half - 1}), gp(2, tie{1, 0, half}, tie{2, 1, half - 1}, tie{2, 0, mute - 1}), true},
		{gp(2, tie{1, 0, half}, tie{2, 1, half}), gp(2, tie{1, 0, half}, tie{2, 1, half}), true},
		{gp(2, tie{1, 0, half}, tie{2, 1, half + 1}), gp(2, tie{1, 0, half}, tie{2, 1, half + 1}), true},
		{gp(2, tie{1, 0, mute - 1}, tie{2, 1, mute - 1}), gp(2, tie{1, 0, mute - 1}, tie{2, 1, mute - 1}), true},
		{gp(2, tie{1, 0, mute - 1}, tie{2, 1, 0}), gp(2, tie{1, 0, mute - 1}, tie{2, 1, 0}, tie{2, 0, mute - 1}), true},
		{gp(2, tie{1, 0, mute - 1}, tie{2, 1, 1}), gp(2, tie{1, 0, mute - 1}, tie{2, 1, 1}), true},
		// GapNone and a number below 0 still say nothing.
		{gp(2, tie{1, 0, -5}), gp(2, tie{1, 0, -5}), true},
		{gp(2, tie{1, 0, -word}, tie{2, 1, mute - 1}), gp(2, tie{1, 0, -word}, tie{2, 1, mute - 1}, tie{2, 0, mute - 1 - word}), true},
		// What was too great on the way is not known behind it, though all three are below GapNone together; closing again goes another way.
		{gp(3, tie{0, 1, half}, tie{1, 2, half}, tie{2, 3, -1}), gp(3, tie{0, 1, half}, tie{1, 2, half}, tie{2, 3, -1}, tie{1, 3, half - 1}), true},
		{gp(3, tie{0, 1, half}, tie{1, 2, half}, tie{2, 3, -1}, tie{1, 3, half - 1}), gp(3, tie{0, 1, half}, tie{1, 2, half}, tie{2, 3, -1}, tie{1, 3, half - 1}, tie{0, 3, mute - 1}), true},
	})
}

// evenly are gaps of one bound for all.
func evenly(n, most int) impl.Gaps {
	return built(n, func(i, j int) int {
		if i == j {
			return 0
		}
		return most
	})
}

func TestGapsCloseOfBoundsThatNoneKeep(t *testing.T) {
	below := func(most int) impl.Gaps { return gp(2, tie{2, 1, most}) }
	checkGapsClose(t, []closeCase{
		// In a ring of two, of three, and by way of 0: -1, 0 and 1 together.
		{gp(2, tie{1, 2, -4}, tie{2, 1, 3}), noGaps(), false}, {gp(2, tie{1, 2, -4}, tie{2, 1, 4}), gp(2, tie{1, 2, -4}, tie{2, 1, 4}), true}, {gp(2, tie{1, 2, -4}, tie{2, 1, 5}), gp(2, tie{1, 2, -4}, tie{2, 1, 5}), true},
		{gp(1, tie{1, 0, 6}, tie{0, 1, -7}), noGaps(), false}, {gp(1, tie{1, 0, 6}, tie{0, 1, -6}), gp(1, tie{1, 0, 6}, tie{0, 1, -6}), true}, {gp(1, tie{1, 0, 6}, tie{0, 1, -5}), gp(1, tie{1, 0, 6}, tie{0, 1, -5}), true},
		{gp(2, tie{1, 0, 1}, tie{2, 1, 2}, tie{0, 2, -4}), noGaps(), false},
		{gp(2, tie{1, 0, 1}, tie{2, 1, 2}, tie{0, 2, -3}), gp(2, tie{1, 0, 1}, tie{2, 1, 2}, tie{0, 2, -3}, tie{0, 1, -1}, tie{1, 2, -2}, tie{2, 0, 3}), true},
		{gp(2, tie{1, 0, 1}, tie{2, 1, 2}, tie{0, 2, -2}), gp(2, tie{1, 0, 1}, tie{2, 1, 2}, tie{0, 2, -2}, tie{0, 1, 0}, tie{1, 2, -1}, tie{2, 0, 3}), true},
		{gp(12, tie{12, 11, 0}, tie{11, 12, -1}), noGaps(), false}, {gp(12, tie{12, 0, -1}, tie{0, 12, 0}), noGaps(), false}, {gp(3, tie{1, 3, -1}, tie{3, 2, -1}, tie{2, 1, 1}), noGaps(), false},
		// So far below 0 that each round draws on what the last one has drawn down.
		{evenly(12, -mute), noGaps(), false}, {evenly(12, -word), noGaps(), false}, {evenly(12, -1), noGaps(), false}, {evenly(12, 0), evenly(12, 0), true}, {evenly(12, 1), evenly(12, 1), true},
		// As far below 0 as can be, and one further: as it stood, and of two together.
		{below(-word), below(-word), true}, {below(-word - 1), noGaps(), false}, {below(-mute), noGaps(), false}, {gp(12, tie{0, 12, -word}), gp(12, tie{0, 12, -word}), true}, {gp(12, tie{0, 12, -word - 1}), noGaps(), false},
		{gp(2, tie{2, 1, low}, tie{1, 0, low}), gp(2, tie{2, 1, low}, tie{1, 0, low}, tie{2, 0, -word}), true}, {gp(2, tie{2, 1, low}, tie{1, 0, low - 1}), noGaps(), false},
		{gp(2, tie{2, 1, -word}, tie{1, 0, 1}), gp(2, tie{2, 1, -word}, tie{1, 0, 1}, tie{2, 0, 1 - word}), true}, {gp(2, tie{2, 1, -word}, tie{1, 0, -1}), noGaps(), false},
	})
	for _, wrong := range wrongGaps() {
		checkGapsClose(t, []closeCase{{wrong, noGaps(), false}})
	}
}

func TestGapsJoinAndWiden(t *testing.T) {
	cases := []struct{ a, b, join, wide impl.Gaps }{
		{gp(0), gp(0), gp(0), gp(0)}, {gp(12), gp(12), gp(12), gp(12)},
		// The other bound is this one, above it, below it, or says nothing; or this one does.
		{gp(1, tie{1, 0, 5}), gp(1, tie{1, 0, 5}), gp(1, tie{1, 0, 5}), gp(1, tie{1, 0, 5})}, {gp(1, tie{1, 0, 5}), gp(1, tie{1, 0, 6}), gp(1, tie{1, 0, 6}), gp(1)},
		{gp(1, tie{1, 0, 5}), gp(1, tie{1, 0, 4}), gp(1, tie{1, 0, 5}), gp(1, tie{1, 0, 5})}, {gp(1, tie{1, 0, 5}), gp(1), gp(1), gp(1)}, {gp(1), gp(1, tie{1, 0, 5}), gp(1), gp(1)},
		{gp(1, tie{0, 1, -5}), gp(1, tie{0, 1, -6}), gp(1, tie{0, 1, -5}), gp(1, tie{0, 1, -5})}, {gp(1, tie{0, 1, -5}), gp(1, tie{0, 1, -4}), gp(1, tie{0, 1, -4}), gp(1)},
		{gp(1, tie{1, 0, -mute}), gp(1, tie{1, 0, -mute}), gp(1, tie{1, 0, -mute}), gp(1, tie{1, 0, -mute})}, {gp(1, tie{1, 0, -mute}), gp(1, tie{1, 0, 1 - mute}), gp(1, tie{1, 0, 1 - mute}), gp(1)},
		{gp(1, tie{1, 0, mute - 1}), gp(1), gp(1), gp(1)}, {gp(1, tie{1, 0, mute - 2}), gp(1, tie{1, 0, mute - 1}), gp(1, tie{1, 0, mute - 1}), gp(1)},
		// Each bound for itself, and none is closed.
		{gp(2, tie{1, 0, 1}, tie{2, 1, 5}, tie{0, 2, 0}), gp(2, tie{1, 0, 3}, tie{2, 1, 4}, tie{0, 2, 0}), gp(2, tie{1, 0, 3}, tie{2, 1, 5}, tie{0, 2, 0}), gp(2, tie{2, 1, 5}, tie{0, 2, 0})},
		{gp(2, tie{1, 2, -1}, tie{2, 1, -1}), gp(2, tie{1, 2, -1}, tie{2, 1, -2}), gp(2, tie{1, 2, -1}, tie{2, 1, -1}), gp(2, tie{1, 2, -1}, tie{2, 1, -1})},
		{gp(12, tie{12, 11, 7}, tie{11, 12, 7}), gp(12, tie{12, 11, 8}, tie{11, 12, 6}), gp(12, tie{12, 11, 8}, tie{11, 12, 7}), gp(12, tie{11, 12, 7})},
		// Of unlike N.
		{gp(1), gp(2), noGaps(), noGaps()}, {gp(2), gp(1), noGaps(), noGaps()}, {gp(0), gp(1), noGaps(), noGaps()}, {gp(12), gp(11), noGaps(), noGaps()}, {gp(0), gp(12), noGaps(), noGaps()},
	}
	for _, c := range cases {
		checkGaps(t, "GapsJoin", impl.GapsJoin(c.a, c.b), c.join)
		checkGaps(t, "GapsJoin turned about", impl.GapsJoin(c.b, c.a), c.join)
		checkGaps(t, "GapsWiden", impl.GapsWiden(c.a, c.b), c.wide)
	}
	for _, wrong := range wrongGaps() {
		for _, g := range []impl.Gaps{gp(0), gp(1), gp(12), wrong} {
			checkGaps(t, "GapsJoin of wrong ones on the left", impl.GapsJoin(wrong, g), noGaps())
			checkGaps(t, "GapsJoin of wrong ones on the right", impl.GapsJoin(g, wrong), noGaps())
			checkGaps(t, "GapsWiden of wrong ones on the left", impl.GapsWiden(wrong, g), noGaps())
			checkGaps(t, "GapsWiden of wrong ones on the right", impl.GapsWiden(g, wrong), noGaps())
		}
	}
}

// fullGaps have another bound at each place.
func fullGaps() impl.Gaps {
	return impl.Gaps{N: 2, D: []int{0, 11, 12, 21, 0, 23, 31, 32, 0}}
}

func TestGapsForget(t *testing.T) {
	full := fullGaps()
	checkGaps(t, "the 1st forgotten", impl.GapsForget(full, 1), gp(2, tie{0, 2, 12}, tie{2, 0, 31}))
	checkGaps(t, "the 2nd forgotten", impl.GapsForget(full, 2), gp(2, tie{0, 1, 11}, tie{1, 0, 21}))
	checkGaps(t, "the one forgotten", impl.GapsForget(gp(1, tie{1, 0, -mute}, tie{0, 1, 3}), 1), gp(1))
	checkGaps(t, "nothing forgotten", impl.GapsForget(gp(12), 12), gp(12))
	checkGaps(t, "the last forgotten", impl.GapsForget(gp(12, tie{12, 11, 1}, tie{0, 12, 2}, tie{11, 10, 3}), 12), gp(12, tie{11, 10, 3}))
	for _, v := range []int{0, 3, -1, 4, 12, 13, word + 1, math.MinInt, math.MaxInt} {
		checkGaps(t, "one that is not there forgotten", impl.GapsForget(full, v), noGaps())
	}
	for _, v := range []int{0, 1, -1} {
		checkGaps(t, "one of no numbers forgotten", impl.GapsForget(gp(0), v), noGaps())
	}
	for _, wrong := range wrongGaps() {
		for _, v := range []int{-1, 0, 1, 2, 12, 13, wrong.N} {
			checkGaps(t, "one of wrong ones forgotten", impl.GapsForget(wrong, v), noGaps())
		}
	}
}

func TestGapsMoveOfAnother(t *testing.T) {
	full := fullGaps()
	checkGaps(t, "the 1st to the 2nd", impl.GapsMove(full, 1, 2, 5), gp(2, tie{0, 2, 12}, tie{2, 0, 31}, tie{1, 2, 5}, tie{2, 1, -5}))
	checkGaps(t, "the 2nd to the 1st", impl.GapsMove(full, 2, 1, -5), gp(2, tie{0, 1, 11}, tie{1, 0, 21}, tie{2, 1, -5}, tie{1, 2, 5}))
	checkGaps(t, "the 1st to the 0th", impl.GapsMove(full, 1, 0, 7), gp(2, tie{0, 2, 12}, tie{2, 0, 31}, tie{1, 0, 7}, tie{0, 1, -7}))
	checkGaps(t, "the 2nd to the 0th", impl.GapsMove(full, 2, 0, 0), gp(2, tie{0, 1, 11}, tie{1, 0, 21}, tie{2, 0, 0}, tie{0, 2, 0}))
	checkGaps(t, "the 12th to the 11th", impl.GapsMove(gp(12, tie{12, 0, 4}, tie{11, 0, 4}), 12, 11, 1), gp(12, tie{11, 0, 4}, tie{12, 11, 1}, tie{11, 12, -1}))
	checkGaps(t, "to as much as can be", impl.GapsMove(full, 1, 2, word), gp(2, tie{0, 2, 12}, tie{2, 0, 31}, tie{1, 2, word}, tie{2, 1, -word}))
	checkGaps(t, "to as little as can be", impl.GapsMove(full, 1, 0, -word), gp(2, tie{0, 2, 12}, tie{2, 0, 31}, tie{1, 0, -word}, tie{0, 1, word}))
}

func TestGapsMoveOfItself(t *testing.T) {
	full := fullGaps()
	checkGaps(t, "the 1st and 3", impl.GapsMove(full, 1, 1, 3), impl.Gaps{N: 2, D: []int{0, 8, 12, 24, 0, 26, 31, 29, 0}})
	checkGaps(t, "the 2nd and -3", impl.GapsMove(full, 2, 2, -3), impl.Gaps{N: 2, D: []int{0, 11, 15, 21, 0, 26, 28, 29, 0}})
	checkGaps(t, "the 2nd and 0", impl.GapsMove(full, 2, 2, 0), full)
	checkGaps(t, "the 12th and 1", impl.GapsMove(gp(12, tie{12, 0, 4}, tie{11, 12, 4}, tie{11, 0, 4}), 12, 12, 1), gp(12, tie{12, 0, 5}, tie{11, 12, 3}, tie{11, 0, 4}))
	one := func(up, down int) impl.Gaps { return gp(1, tie{1, 0, up}, tie{0, 1, down}) }
	cases := []struct {
		g     impl.Gaps
		c     int
		moved impl.Gaps
	}{
		// What says nothing still says nothing; what becomes GapNone or more does.
		{one(mute, mute), 5, one(mute, mute)}, {one(mute, mute), -5, one(mute, mute)}, {one(mute, 4), -word, one(mute, 4+word)}, {one(4, mute), word, one(4+word, mute)}, {one(mute, 4), word, one(mute, 4-word)},
		{one(mute-2, 0), 1, one(mute-1, -1)}, {one(mute-1, 0), 1, one(mute, -1)}, {one(mute-1, 0), 2, one(mute, -2)}, {one(mute-1, 0), 0, one(mute-1, 0)}, {one(mute-1, 0), -1, one(mute-2, 1)},
		{one(0, mute-2), -1, one(-1, mute-1)}, {one(0, mute-1), -1, one(-1, mute)}, {one(0, mute-1), -word, one(-word, mute)}, {one(0, mute-word-1), -word, one(-word, mute-1)}, {one(mute-word, 0), word, one(mute, -word)},
		// Nothing falls below -GapNone.
		{one(-mute, 0), -1, one(-mute, 1)}, {one(1-mute, 0), -1, one(-mute, 1)}, {one(1-mute, 0), -2, one(-mute, 2)}, {one(-mute, 0), -word, one(-mute, word)}, {one(-mute, 0), 0, one(-mute, 0)}, {one(-mute, 0), 1, one(1-mute, -1)},
		{one(0, -mute), 1, one(1, -mute)}, {one(0, 1-mute), 1, one(1, -mute)}, {one(0, 1-mute), 2, one(2, -mute)}, {one(0, -mute), word, one(word, -mute)}, {one(0, -mute), -1, one(-1, 1-mute)}, {one(0, word-mute), word, one(word, -mute)},
		{one(-mute, -mute), word, one(word-mute, -mute)}, {one(-mute, mute), -word, one(-mute, mute)}, {one(-word, word), word, one(0, 0)}, {one(7, -7), word, one(7+word, -7-word)}, {one(7, -7), -word, one(7-word, word-7)},
	}
	for _, c := range cases {
		checkGaps(t, "what is moved onto itself", impl.GapsMove(c.g, 1, 1, c.c), c.moved)
	}
}

func TestGapsMoveWrong(t *testing.T) {
	full := fullGaps()
	for _, wrong := range []int{-1, 3, 4, 12, 13, word + 1, -word, math.MinInt, math.MaxInt} {
		checkGaps(t, "one that is not there moved", impl.GapsMove(full, wrong, 1, 1), noGaps())
		checkGaps(t, "one moved onto one that is not there", impl.GapsMove(full, 1, wrong, 1), noGaps())
		checkGaps(t, "one that is not there moved onto itself", impl.GapsMove(full, wrong, wrong, 1), noGaps())
	}
	checkGaps(t, "the 0th moved", impl.GapsMove(full, 0, 1, 1), noGaps())
	checkGaps(t, "the 0th moved onto itself", impl.GapsMove(full, 0, 0, 0), noGaps())
	checkGaps(t, "one of no numbers moved", impl.GapsMove(gp(0), 0, 0, 0), noGaps())
	checkGaps(t, "the first of no numbers moved", impl.GapsMove(gp(0), 1, 0, 0), noGaps())
	for _, c := range wrongMoves() {
		for _, w := range []int{0, 1, 2} {
			checkGaps(t, "one moved too far", impl.GapsMove(full, 1, w, c), noGaps())
		}
	}
	for _, wrong := range wrongGaps() {
		for _, v := range []int{0, 1, 2, 12, 13, wrong.N} {
			checkGaps(t, "one of wrong ones moved", impl.GapsMove(wrong, v, 1, 1), noGaps())
			checkGaps(t, "one of wrong ones moved to the 0th", impl.GapsMove(wrong, v, 0, 1), noGaps())
			checkGaps(t, "one of wrong ones moved onto itself", impl.GapsMove(wrong, v, v, 1), noGaps())
		}
	}
}

func TestGapsCut(t *testing.T) {
	full := fullGaps()
	cases := []struct {
		g       impl.Gaps
		v, w, c int
		cut     impl.Gaps
	}{
		// At the bound that is there, above it and below it.
		{full, 1, 2, 23, full}, {full, 1, 2, 24, full}, {full, 1, 2, 22, impl.Gaps{N: 2, D: []int{0, 11, 12, 21, 0, 22, 31, 32, 0}}}, {full, 2, 1, -word, impl.Gaps{N: 2, D: []int{0, 11, 12, 21, 0, 23, 31, -word, 0}}},
		{full, 2, 1, word, full}, {full, 1, 0, 20, impl.Gaps{N: 2, D: []int{0, 11, 12, 20, 0, 23, 31, 32, 0}}}, {full, 0, 1, 10, impl.Gaps{N: 2, D: []int{0, 10, 12, 21, 0, 23, 31, 32, 0}}},
		{full, 0, 2, -1, impl.Gaps{N: 2, D: []int{0, 11, -1, 21, 0, 23, 31, 32, 0}}}, {full, 2, 0, 0, impl.Gaps{N: 2, D: []int{0, 11, 12, 21, 0, 23, 0, 32, 0}}},
		{gp(1), 1, 0, word, gp(1, tie{1, 0, word})}, {gp(1), 0, 1, -word, gp(1, tie{0, 1, -word})}, {gp(1, tie{1, 0, -mute}), 1, 0, -word, gp(1, tie{1, 0, -mute})}, {gp(12), 12, 11, 3, gp(12, tie{12, 11, 3})}, {gp(12), 0, 12, 3, gp(12, tie{0, 12, 3})},
		// Not there, or itself.
		{full, 0, 0, -1, noGaps()}, {full, 1, 1, -1, noGaps()}, {full, 2, 2, 5, noGaps()}, {full, 1, 1, 0, noGaps()}, {gp(0), 0, 0, 0, noGaps()}, {gp(0), 0, 1, 0, noGaps()}, {gp(0), 1, 0, 0, noGaps()},
	}
	for _, wrong := range []int{-1, 3, 4, 12, 13, word + 1, -word, math.MinInt, math.MaxInt} {
		for _, there := range []int{0, 1, 2, wrong} {
			cases = append(cases, struct {
				g       impl.Gaps
				v, w, c int
				cut     impl.Gaps
			}{full, wrong, there, 1, noGaps()})
			checkGaps(t, "one by one that is not there", impl.GapsCut(full, there, wrong, 1), noGaps())
		}
	}
	for _, c := range cases {
		if cut := impl.GapsCut(c.g, c.v, c.w, c.c); !sameGaps(cut, c.cut) {
			t.Errorf("GapsCut(%v, %d, %d, %d) is %v, not %v", c.g, c.v, c.w, c.c, cut, c.cut)
		}
	}
	for _, c := range wrongMoves() {
		checkGaps(t, "cut by too much", impl.GapsCut(full, 1, 2, c), noGaps())
		checkGaps(t, "cut from the 0th by too much", impl.GapsCut(full, 0, 2, c), noGaps())
	}
	for _, wrong := range wrongGaps() {
		for _, v := range []int{1, 2, 12, 13, wrong.N} {
			checkGaps(t, "one of wrong ones cut", impl.GapsCut(wrong, v, 0, 1), noGaps())
			checkGaps(t, "the 0th of wrong ones cut", impl.GapsCut(wrong, 0, v, 1), noGaps())
		}
	}
}

func TestGapsRange(t *testing.T) {
	one := func(up, down int) impl.Gaps { return gp(1, tie{1, 0, up}, tie{0, 1, down}) }
	cases := []struct {
		g impl.Gaps
		v int
		r impl.Range
	}{
		// Nothing is told on either side, on one, on the other.
		{gp(1), 1, allNumbers()}, {one(5, mute), 1, rg(low, 5)}, {one(mute, 5), 1, rg(-5, high)}, {one(9, -3), 1, rg(3, 9)}, {one(9, 3), 1, rg(-3, 9)}, {one(-3, 9), 1, rg(-9, -3)}, {one(0, 0), 1, rg(0, 0)}, {one(7, -7), 1, rg(7, 7)},
		// No range.
		{one(6, -7), 1, noRange()}, {one(-1, 0), 1, noRange()}, {one(-mute, mute), 1, noRange()}, {one(mute, -mute), 1, noRange()}, {one(-mute, -mute), 1, noRange()}, {one(0, -1), 1, noRange()},
		// At the ends of numbers and beyond.
		{one(high, -low), 1, allNumbers()}, {one(high+1, 1-low), 1, allNumbers()}, {one(mute-1, mute-1), 1, allNumbers()}, {one(high-1, -low-1), 1, rg(low+1, high-1)}, {one(low, mute), 1, rg(low, low)}, {one(low-1, mute), 1, noRange()},
		{one(mute, -high), 1, rg(high, high)}, {one(mute, -high-1), 1, noRange()}, {one(low-1, 5-low), 1, noRange()}, {one(high+9, -high-1), 1, noRange()}, {one(low+1, word), 1, rg(low, low+1)}, {one(word, 1-high), 1, rg(high-1, high)},
		// Of several; only the bounds to 0 count, and those as they stand.
		{fullGaps(), 1, rg(-11, 21)}, {fullGaps(), 2, rg(-12, 31)}, {gp(2, tie{1, 0, 10}, tie{2, 1, 3}), 2, allNumbers()}, {gp(12, tie{12, 0, 4}, tie{0, 12, -2}), 12, rg(2, 4)}, {gp(12, tie{12, 0, 4}, tie{0, 12, -2}), 11, allNumbers()},
		// Not there.
		{fullGaps(), 0, noRange()}, {fullGaps(), 3, noRange()}, {fullGaps(), -1, noRange()}, {fullGaps(), math.MinInt, noRange()}, {fullGaps(), math.MaxInt, noRange()}, {gp(12), 13, noRange()}, {gp(12), 12, allNumbers()},
		{gp(0), 0, noRange()}, {gp(0), 1, noRange()}, {gp(1), 2, noRange()}, {gp(1), word + 1, noRange()},
	}
	for _, c := range cases {
		if r := impl.GapsRange(c.g, c.v); r != c.r {
			t.Errorf("GapsRange(%v, %d) is %v, not %v", c.g, c.v, r, c.r)
		}
	}
	for _, wrong := range wrongGaps() {
		for _, v := range []int{-1, 0, 1, 2, 12, 13, wrong.N} {
			if r := impl.GapsRange(wrong, v); r != noRange() {
				t.Errorf("GapsRange(%v, %d) is %v", wrong, v, r)
			}
		}
	}
}

// makers are all that answer gaps, of two gaps of two numbers.
func makers() []func(a, b impl.Gaps) impl.Gaps {
	closed := func(g impl.Gaps) impl.Gaps {
		c, _ := impl.GapsClose(g)
		return c
	}
	return []func(a, b impl.Gaps) impl.Gaps{
		func(a, _ impl.Gaps) impl.Gaps { return impl.GapsTop(a.N) },
		func(a, _ impl.Gaps) impl.Gaps { return closed(a) },
		func(_, b impl.Gaps) impl.Gaps { return closed(b) },
		impl.GapsJoin,
		func(a, _ impl.Gaps) impl.Gaps { return impl.GapsJoin(a, a) },
		impl.GapsWiden,
		func(a, _ impl.Gaps) impl.Gaps { return impl.GapsWiden(a, a) },
		func(a, _ impl.Gaps) impl.Gaps { return impl.GapsForget(a, 2) },
		func(a, _ impl.Gaps) impl.Gaps { return impl.GapsMove(a, 1, 2, 3) },
		func(a, _ impl.Gaps) impl.Gaps { return impl.GapsMove(a, 2, 2, 3) },
		func(a, _ impl.Gaps) impl.Gaps { return impl.GapsMove(a, 2, 2, 0) },
		func(a, _ impl.Gaps) impl.Gaps { return impl.GapsCut(a, 2, 1, -1) },
		func(a, _ impl.Gaps) impl.Gaps { return impl.GapsCut(a, 2, 1, 50) },
	}
}

// roomy are gaps behind whose bounds lies spare room, and all of that memory.
func roomy(g impl.Gaps) (impl.Gaps, []int) {
	room := append(slices.Clone(g.D), 71, 72, 73, 74)
	return impl.Gaps{N: g.N, D: room[:len(g.D)]}, room
}

// No argument is written into, spare room included, and what is written into an answer is found nowhere else.
func TestGapsMemory(t *testing.T) {
	a, aRoom := roomy(fullGaps())
	b, bRoom := roomy(gp(2, tie{1, 0, 4}, tie{2, 1, 3}))
	aKept, bKept := slices.Clone(aRoom), slices.Clone(bRoom)
	for which, make := range makers() {
		first, second := make(a, b), make(a, b)
		want := slices.Clone(second.D)
		if !impl.GapsOk(first) || first.N != 2 || !slices.Equal(first.D, want) {
			t.Errorf("maker %d makes %v, and then %v", which, first, second)
		}
		spoilt(first.D, 99)
		if third := make(a, b); !slices.Equal(second.D, want) || !slices.Equal(third.D, want) {
			t.Errorf("maker %d shares memory with another answer", which)
		}
		if !slices.Equal(aRoom, aKept) || !slices.Equal(bRoom, bKept) {
			t.Errorf("maker %d wrote into its arguments, or shares memory with them: %v, %v", which, aRoom, bRoom)
		}
	}
	numbers := []int{1, 2, 77}
	impl.GapsHas(a, numbers[:2])
	impl.GapsIn(a, b)
	impl.GapsOk(a)
	impl.GapsRange(a, 1)
	if !slices.Equal(numbers, []int{1, 2, 77}) || !slices.Equal(aRoom, aKept) || !slices.Equal(bRoom, bKept) {
		t.Errorf("what is asked is written into: %v, %v, %v", numbers, aRoom, bRoom)
	}
}

package tests

import (
	"math"
	"slices"

	"loop.example/sedge/impl"
)

// mute is the bound that says nothing.
const mute = impl.GapNone

// tie is a bound: the ith number less the jth is most at most.
type tie struct{ i, j, most int }

// gp are gaps of n numbers of which no more than some bounds are known.
func gp(n int, ties ...tie) impl.Gaps {
	g := built(n, func(i, j int) int {
		if i == j {
			return 0
		}
		return mute
	})
	for _, t := range ties {
		g.D[t.i*(n+1)+t.j] = t.most
	}
	return g
}

// built are gaps whose bounds are worked out one by one.
func built(n int, bound func(i, j int) int) impl.Gaps {
	g := impl.Gaps{N: n}
	for i := range n + 1 {
		for j := range n + 1 {
			g.D = append(g.D, bound(i, j))
		}
	}
	return g
}

func boundOf(g impl.Gaps, i, j int) int {
	return g.D[i*(g.N+1)+j]
}

func sameGaps(a, b impl.Gaps) bool {
	return a.N == b.N && slices.Equal(a.D, b.D)
}

func noGaps() impl.Gaps {
	return impl.Gaps{}
}

// judgeGapsHas and those below are second readings of what is told of gaps that are ok, and of numbers that can be.
func judgeGapsHas(g impl.Gaps, numbers []int) bool {
	if len(numbers) != g.N {
		return false
	}
	all := append([]int{0}, numbers...)
	for i, v := range all {
		if v < low || v > high {
			return false
		}
		for j, w := range all {
			if most := boundOf(g, i, j); i != j && most != mute && float64(v)-float64(w) > float64(most) {
				return false
			}
		}
	}
	return true
}

func judgeGapsIn(a, b impl.Gaps) bool {
	for at := range a.D {
		if a.N != b.N || a.D[at] > b.D[at] {
			return false
		}
	}
	return true
}

// judgeTogether keeps sums that fall without end within an int: such a sum stays too small whatever comes to it.
func judgeTogether(a, b int) int {
	if a == mute || b == mute || a+b >= mute {
		return mute
	}
	return max(a+b, -1<<60)
}

// judgeGapsClose goes one bound by one, in the chapter's order, and looks at them when all is done.
func judgeGapsClose(g impl.Gaps) (impl.Gaps, bool) {
	size := g.N + 1
	d := slices.Clone(g.D)
	for k := range size {
		for i := range size {
			for j := range size {
				if less := judgeTogether(d[i*size+k], d[k*size+j]); less < d[i*size+j] {
					d[i*size+j] = less
				}
			}
		}
	}
	for at, bound := range d {
		if at%(size+1) == 0 && bound < 0 || bound < -word {
			return noGaps(), false
		}
	}
	return impl.Gaps{N: g.N, D: d}, true
}

func judgeGapsJoin(a, b impl.Gaps) impl.Gaps {
	return built(a.N, func(i, j int) int { return max(boundOf(a, i, j), boundOf(b, i, j)) })
}

func judgeGapsWiden(a, b impl.Gaps) impl.Gaps {
	return built(a.N, func(i, j int) int {
		if boundOf(a, i, j) < boundOf(b, i, j) {
			return mute
		}
		return boundOf(a, i, j)
	})
}

func judgeGapsForget(g impl.Gaps, v int) impl.Gaps {
	return built(g.N, func(i, j int) int {
		if i != j && (i == v || j == v) {
			return mute
		}
		return boundOf(g, i, j)
	})
}

func judgeGapsMove(g impl.Gaps, v, w, c int) impl.Gaps {
	if v == w {
		return built(g.N, func(i, j int) int {
			switch {
			case i == j || i != v && j != v:
				return boundOf(g, i, j)
			case i == v:
				return max(judgeTogether(boundOf(g, i, j), c), -mute)
			}
			return max(judgeTogether(boundOf(g, i, j), -c), -mute)
		})
	}
	return built(g.N, func(i, j int) int {
		switch {
		case i == v && j == w:
			return c
		case i == w && j == v:
			return -c
		}
		return boundOf(judgeGapsForget(g, v), i, j)
	})
}

func judgeGapsCut(g impl.Gaps, v, w, c int) impl.Gaps {
	return built(g.N, func(i, j int) int {
		if i == v && j == w && c < boundOf(g, i, j) {
			return c
		}
		return boundOf(g, i, j)
	})
}

func judgeGapsRange(g impl.Gaps, v int) impl.Range {
	lo, hi := max(-boundOf(g, 0, v), low), min(boundOf(g, v, 0), high)
	if lo > hi {
		return noRange()
	}
	return rg(lo, hi)
}

// gapBounds are bounds of all kinds.
func gapBounds() []int {
	return []int{-mute, 1 - mute, -mute / 2, -word - 1, -word, 1 - word, low, -high, -9, -1, 0, 1, 2, 9, high, -low, word - 1, word, word + 1,
		mute/2 - 1, mute / 2, mute/2 + 1, mute - word - 1, mute - word, mute - 2, mute - 1, mute, mute, mute}
}

// gapMoves are the numbers by which can be moved and cut.
func gapMoves() []int {
	return []int{-word, 1 - word, low, -high, -100, -2, -1, 0, 1, 2, 100, high, -low, word - 1, word}
}

// wrongMoves are one beyond these, and more.
func wrongMoves() []int {
	return []int{-word - 1, word + 1, -mute, mute, math.MinInt, math.MinInt + 1, math.MaxInt}
}

// anyGaps have bounds of all kinds; most of them close to nothing.
func anyGaps(d *dice, n int) impl.Gaps {
	bounds := gapBounds()
	return built(n, func(i, j int) int {
		if i == j {
			return 0
		}
		return pick(d, bounds)
	})
}

// keptGaps have bounds that the numbers keep, some just so.
func keptGaps(d *dice, numbers []int) impl.Gaps {
	all := append([]int{0}, numbers...)
	rooms := []int{0, 0, 1, 2, 5, 40, word, mute / 2}
	return built(len(numbers), func(i, j int) int {
		switch {
		case i == j:
			return 0
		case d.roll(3) != 0:
			return mute
		}
		return all[i] - all[j] + pick(d, rooms)
	})
}

// smallGaps are all gaps of n numbers with bounds of a list.
func smallGaps(n int, bounds []int) []impl.Gaps {
	list := []impl.Gaps{gp(n)}
	for i := range n + 1 {
		for j := range n + 1 {
			var more []impl.Gaps
			for _, g := range list {
				for _, bound := range bounds {
					if i != j {
						more = append(more, judgeGapsCut(g, i, j, bound))
					}
				}
			}
			if i != j {
				list = more
			}
		}
	}
	return list
}

// numbersNear are n numbers about 0, or at the ends of numbers.
func numbersNear(d *dice, n int) []int {
	from := pick(d, []int{0, 0, 0, low, high})
	list := make([]int, n)
	for i := range list {
		list[i] = min(max(from+d.roll(13)-6, low), high)
	}
	return list
}

// nudged are the numbers with one of them some more or less.
func nudged(d *dice, numbers []int) []int {
	list := slices.Clone(numbers)
	if len(list) != 0 {
		list[d.roll(len(list))] += d.roll(7) - 3
	}
	return list
}

// manyGaps are gaps of all sizes and kinds, and with each numbers of which many keep the bounds, and many do not.
func manyGaps(f func(d *dice, g impl.Gaps, tries [][]int)) {
	d := newDice()
	for turn := range 6500 {
		n := turn % (impl.GapMax + 1)
		numbers := numbersNear(d, n)
		tries := [][]int{numbers, nudged(d, numbers), nudged(d, nudged(d, numbers)), numbersNear(d, n), make([]int, n)}
		g := keptGaps(d, numbers)
		if turn%5 == 4 {
			g = anyGaps(d, n)
		}
		f(d, g, tries)
	}
}

// alikeGaps are two gaps of one N, with numbers of which many keep the ones, the others, or both.
func alikeGaps(f func(d *dice, a, b impl.Gaps, tries [][]int)) {
	manyGaps(func(d *dice, a impl.Gaps, tries [][]int) {
		b := keptGaps(d, tries[d.roll(len(tries))])
		switch d.roll(6) {
		case 0:
			b = anyGaps(d, a.N)
		case 1:
			b = impl.Gaps{N: a.N, D: slices.Clone(a.D)}
		case 2:
			b = gp(a.N)
		}
		f(d, a, b, tries)
	})
}

// wrongGaps are not ok: of an N that cannot be, of too few or too many bounds, or with one that cannot be.
func wrongGaps() []impl.Gaps {
	list := []impl.Gaps{{}, {N: 1}, {N: impl.GapMax}, {N: 0, D: []int{}}, {N: -1}, {N: -2, D: []int{0}}, {N: -3, D: make([]int, 4)}, {N: 13, D: make([]int, 14*14)},
		gp(13), gp(14), {N: math.MaxInt}, {N: math.MinInt}, {N: math.MaxInt, D: []int{0}}, {N: 1<<32 - 1, D: nil}, {N: 1<<32 - 2, D: []int{0}}, {N: -1, D: []int{0}}}
	for n := range impl.GapMax + 1 {
		few, many, odd := gp(n), gp(n), gp(n)
		few.D = few.D[:len(few.D)-1]
		many.D = append(many.D, 0)
		odd.N = -odd.N - 2
		list = append(list, few, many, odd)
		for _, own := range []int{-1, 1, mute, -mute} {
			list = append(list, gp(n, tie{0, 0, own}), gp(n, tie{n, n, own}), gp(n, tie{n / 2, n / 2, own}))
		}
	}
	for _, most := range []int{mute + 1, -mute - 1, math.MaxInt, math.MinInt} {
		list = append(list, gp(1, tie{1, 0, most}), gp(1, tie{0, 1, most}), gp(3, tie{2, 3, most}), gp(12, tie{12, 11, most}), gp(12, tie{0, 12, most}), gp(0, tie{0, 0, most}))
	}
	return list
}

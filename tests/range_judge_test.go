package tests

import (
	"math/big"
	"slices"

	"loop.example/sedge/impl"
)

// rg is a range, told by its ends.
func rg(lo, hi int) impl.Range {
	return impl.Range{Lo: lo, Hi: hi}
}

func noRange() impl.Range {
	return rg(1, 0)
}

func allNumbers() impl.Range {
	return rg(impl.NumMin, impl.NumMax)
}

// window are the ranges, but for none, whose ends are among the numbers from lo to hi.
func window(lo, hi int) []impl.Range {
	var list []impl.Range
	for from := lo; from <= hi; from++ {
		for to := from; to <= hi; to++ {
			list = append(list, rg(from, to))
		}
	}
	return list
}

// smallRanges are ranges of few numbers: around 0, at the ends of numbers, of bits and of shifts.
func smallRanges() []impl.Range {
	return slices.Concat(window(-5, 5), window(impl.NumMin, impl.NumMin+3), window(impl.NumMax-3, impl.NumMax),
		window(29, 33), window(6, 9), window(-46342, -46339), window(65535, 65537))
}

// rangeEnds are the ends of ranges of many numbers.
func rangeEnds() []int {
	return []int{impl.NumMin, impl.NumMin + 1, impl.NumMin / 2, -65536, -46341, -32, -8, -3, -2, -1, 0, 1, 2, 3, 7, 8, 31, 32,
		46341, 65535, 65536, impl.NumMax/2 + 1, impl.NumMax - 1, impl.NumMax}
}

// manyRanges are ranges with all these ends.
func manyRanges() []impl.Range {
	ends := rangeEnds()
	var list []impl.Range
	for i, lo := range ends {
		for _, hi := range ends[i:] {
			list = append(list, rg(lo, hi))
		}
	}
	return list
}

// wrongRanges are not ok.
func wrongRanges() []impl.Range {
	list := []impl.Range{rg(2, 1), rg(0, -1), rg(1, -1), rg(2, 0), rg(5, 4), rg(impl.NumMax, impl.NumMin), rg(-1, -2)}
	for _, wrong := range wrongNumbers() {
		list = append(list, rg(wrong, wrong), rg(min(wrong, 0), max(wrong, 0)), rg(max(wrong, 0), min(wrong, 0)), rg(1, wrong), rg(wrong, 0))
	}
	return list
}

// numbersOf are all numbers of a small range.
func numbersOf(a impl.Range) []int {
	var list []int
	for v := a.Lo; v <= a.Hi; v++ {
		list = append(list, v)
	}
	return list
}

// someOf are numbers of any range: its ends, what lies next to them, and samples.
func someOf(a impl.Range) []int {
	var list []int
	for _, v := range append(rangeEnds(), a.Lo, a.Lo+1, a.Lo+2, a.Hi-2, a.Hi-1, a.Hi, a.Lo+(a.Hi-a.Lo)/2, 5, -5, 30, 33) {
		if a.Lo <= v && v <= a.Hi && !slices.Contains(list, v) {
			list = append(list, v)
		}
	}
	return list
}

// hull is the least range that has all ok numbers from the least to the greatest of some.
func hull(list []*big.Int) impl.Range {
	if len(list) == 0 {
		return noRange()
	}
	least, greatest := slices.MinFunc(list, (*big.Int).Cmp), slices.MaxFunc(list, (*big.Int).Cmp)
	return clipped(least, greatest)
}

// clipped is the document's "from a to b".
func clipped(a, b *big.Int) impl.Range {
	if a.Cmp(big.NewInt(impl.NumMin)) < 0 {
		a = big.NewInt(impl.NumMin)
	}
	if b.Cmp(big.NewInt(impl.NumMax)) > 0 {
		b = big.NewInt(impl.NumMax)
	}
	if a.Cmp(b) > 0 {
		return noRange()
	}
	return rg(int(a.Int64()), int(b.Int64()))
}

// fits says whether it is an ok number.
func fits(v *big.Int) bool {
	return clipped(v, v) != noRange()
}

// within is what a range has from lo to hi, list of it empty when there is none.
func within(a impl.Range, lo, hi int) []impl.Range {
	lo, hi = max(a.Lo, lo), min(a.Hi, hi)
	if lo > hi {
		return nil
	}
	return []impl.Range{rg(lo, hi)}
}

// cornersOf are those of a with some ranges.
func cornersOf(op int, a impl.Range, list []impl.Range) []*big.Int {
	var corners []*big.Int
	for _, b := range list {
		for _, x := range []int{a.Lo, a.Hi} {
			for _, y := range []int{b.Lo, b.Hi} {
				v, _ := exact(op, x, y)
				corners = append(corners, v)
			}
		}
	}
	return corners
}

// judgeRangeDo is a second reading of what RangeDo tells.
func judgeRangeDo(op int, a, b impl.Range) (impl.Range, []int) {
	var faults []int
	tell := func(fault int, when bool) {
		if when {
			faults = append(faults, fault)
		}
	}
	misfit := func(v *big.Int) bool { return !fits(v) }
	sides := slices.Concat(within(b, impl.NumMin, -1), within(b, 1, impl.NumMax))
	switch op {
	case impl.OpAdd, impl.OpSub, impl.OpMul:
		corners := cornersOf(op, a, []impl.Range{b})
		tell(impl.FaOver, slices.ContainsFunc(corners, misfit))
		return hull(corners), faults
	case impl.OpShl, impl.OpShr:
		c := within(b, 0, 31)
		corners := cornersOf(op, a, c)
		tell(impl.FaOver, slices.ContainsFunc(corners, misfit))
		tell(impl.FaShift, !slices.Equal(c, []impl.Range{b}))
		return hull(corners), faults
	case impl.OpDiv:
		tell(impl.FaOver, a.Lo == impl.NumMin && b.Lo <= -1 && b.Hi >= -1)
		tell(impl.FaZero, b.Lo <= 0 && b.Hi >= 0)
		return hull(cornersOf(op, a, sides)), faults
	case impl.OpRem:
		tell(impl.FaZero, b.Lo <= 0 && b.Hi >= 0)
		return judgeRem(a, b, sides), faults
	case impl.OpAnd, impl.OpOr, impl.OpXor:
		return judgeBits(op, a, b), nil
	}
	return judgeWrap(cornersOf(op, a, []impl.Range{b})), nil
}

func judgeRem(a, b impl.Range, sides []impl.Range) impl.Range {
	if a.Lo == a.Hi && b.Lo == b.Hi && b.Lo != 0 {
		v, _ := wanted(impl.OpRem, a.Lo, b.Lo)
		return rg(v, v)
	}
	var ends []*big.Int
	for _, side := range sides {
		l, h := min(max(side.Lo, -side.Lo), max(side.Hi, -side.Hi)), max(-side.Lo, side.Hi)
		left := rg(0, 0)
		if a.Lo > -l && a.Hi < l {
			left = a
		} else {
			if a.Lo < 0 {
				left.Lo = max(a.Lo, 1-h)
			}
			if a.Hi > 0 {
				left.Hi = min(a.Hi, h-1)
			}
		}
		ends = append(ends, big.NewInt(int64(left.Lo)), big.NewInt(int64(left.Hi)))
	}
	return hull(ends)
}

func judgeBits(op int, a, b impl.Range) impl.Range {
	if a.Lo == a.Hi && b.Lo == b.Hi {
		v, _ := wanted(op, a.Lo, b.Lo)
		return rg(v, v)
	}
	bits := 1
	for bits-1 < max(a.Hi, b.Hi) {
		bits *= 2
	}
	plain, other := a.Lo >= 0, b.Lo >= 0
	switch {
	case op == impl.OpAnd && plain && other:
		return rg(0, min(a.Hi, b.Hi))
	case op == impl.OpAnd && plain:
		return rg(0, a.Hi)
	case op == impl.OpAnd && other:
		return rg(0, b.Hi)
	case op == impl.OpOr && plain && other:
		return rg(max(a.Lo, b.Lo), bits-1)
	case op == impl.OpXor && plain && other:
		return rg(0, bits-1)
	}
	return allNumbers()
}

func judgeWrap(corners []*big.Int) impl.Range {
	least, greatest := slices.MinFunc(corners, (*big.Int).Cmp), slices.MaxFunc(corners, (*big.Int).Cmp)
	lo, hi := wrapped(least), wrapped(greatest)
	if lo > hi || new(big.Int).Sub(greatest, least).Cmp(big.NewInt(word-1)) > 0 {
		return allNumbers()
	}
	return rg(lo, hi)
}

// judgeRangeWiden is a second reading of what RangeWiden tells of ranges that are ok and not none.
func judgeRangeWiden(a, b impl.Range, steps []int) impl.Range {
	stops := append([]int{impl.NumMin, impl.NumMax}, steps...)
	stops = slices.DeleteFunc(stops, func(step int) bool { return step < impl.NumMin || step > impl.NumMax })
	slices.Sort(stops)
	wide := a
	if b.Lo < a.Lo {
		for _, stop := range stops {
			if stop <= b.Lo {
				wide.Lo = stop
			}
		}
	}
	if b.Hi > a.Hi {
		for _, stop := range slices.Backward(stops) {
			if stop >= b.Hi {
				wide.Hi = stop
			}
		}
	}
	return wide
}

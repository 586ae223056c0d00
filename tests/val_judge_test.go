package tests

import (
	"math"
	"slices"

	"loop.example/sedge/impl"
)

// vl is a val, told by its ends, what it is divided by and what that leaves.
func vl(lo, hi, mod, at int) impl.Val {
	return impl.Val{Lo: lo, Hi: hi, Mod: mod, At: at}
}

// alone is the val of one number.
func alone(v int) impl.Val {
	return vl(v, v, 0, v)
}

func noVal() impl.Val {
	return vl(1, 0, 0, 0)
}

func allVal() impl.Val {
	return vl(low, high, 1, 0)
}

// halves are the range and the rest of a val.
func halves(a impl.Val) (impl.Range, impl.Rest) {
	return rg(a.Lo, a.Hi), rs(a.Mod, a.At)
}

// hasVal is the chapter's word on which numbers a val has that is ok.
func hasVal(a impl.Val, v int) bool {
	_, rest := halves(a)
	return a.Lo <= v && v <= a.Hi && hasRest(rest, v)
}

// judgeValMake goes from both ends of a range, number by number, to the first one that is a rest's. Both are ok.
func judgeValMake(a impl.Range, b impl.Rest) impl.Val {
	leaves := func(v int) bool {
		return b.Mod == 0 && v == b.At || b.Mod != 0 && (v-b.At)%b.Mod == 0
	}
	lo, hi := a.Lo, a.Hi
	if b.Mod == 0 {
		lo, hi = max(lo, b.At), min(hi, b.At)
	}
	for lo <= hi && !leaves(lo) {
		lo++
	}
	for lo < hi && !leaves(hi) {
		hi--
	}
	switch {
	case lo > hi:
		return noVal()
	case lo == hi:
		return alone(lo)
	}
	return vl(lo, hi, b.Mod, b.At)
}

// judgeValJoin and those below are second readings of what is told of vals that are ok.
func judgeValJoin(a, b impl.Val) impl.Val {
	if a == noVal() {
		return b
	}
	if b == noVal() {
		return a
	}
	_, aRest := halves(a)
	_, bRest := halves(b)
	return judgeValMake(rg(min(a.Lo, b.Lo), max(a.Hi, b.Hi)), judgeRestJoin(aRest, bRest))
}

func judgeValMeet(a, b impl.Val) impl.Val {
	if a == noVal() || b == noVal() {
		return noVal()
	}
	_, aRest := halves(a)
	_, bRest := halves(b)
	rest, some := judgeRestMeet(aRest, bRest)
	if !some {
		return noVal()
	}
	return judgeValMake(rg(max(a.Lo, b.Lo), min(a.Hi, b.Hi)), rest)
}

func judgeValWiden(a, b impl.Val, steps []int) impl.Val {
	if a == noVal() || b == noVal() {
		return judgeValJoin(a, b)
	}
	aRange, aRest := halves(a)
	bRange, bRest := halves(b)
	return judgeValMake(judgeRangeWiden(aRange, bRange, steps), judgeRestJoin(aRest, bRest))
}

func judgeValDo(op int, a, b impl.Val) (impl.Val, []int) {
	if a == noVal() || b == noVal() {
		return noVal(), nil
	}
	aRange, aRest := halves(a)
	bRange, bRest := halves(b)
	made, faults := judgeRangeDo(op, aRange, bRange)
	return judgeValMake(made, judgeRestDo(op, aRest, bRest)), faults
}

func judgeValCmp(cmp int, a, b impl.Val) (impl.Val, impl.Val) {
	if a == noVal() || b == noVal() {
		return noVal(), noVal()
	}
	aRange, aRest := halves(a)
	bRange, bRest := halves(b)
	left, right := impl.RangeCmp(cmp, aRange, bRange)
	x, y := judgeValMake(left, aRest), judgeValMake(right, bRest)
	if cmp == impl.CmpEq {
		x, y = judgeValMeet(x, y), judgeValMeet(x, y)
	}
	if x == noVal() || y == noVal() {
		return noVal(), noVal()
	}
	return x, y
}

// valsOf are the vals that ranges and rests make, each once, and none.
func valsOf(ranges []impl.Range, rests []impl.Rest) []impl.Val {
	list := []impl.Val{noVal()}
	met := map[impl.Val]bool{noVal(): true}
	for _, a := range ranges {
		for _, b := range rests {
			if v := judgeValMake(a, b); !met[v] {
				met[v] = true
				list = append(list, v)
			}
		}
	}
	return list
}

// restsUpTo are the rests of all divisors up to one.
func restsUpTo(greatest int) []impl.Rest {
	var list []impl.Rest
	for mod := 1; mod <= greatest; mod++ {
		for at := range mod {
			list = append(list, rs(mod, at))
		}
	}
	return list
}

// smallVals are vals of few numbers: around 0, at the ends of numbers and around the greatest shift.
func smallVals() []impl.Val {
	ranges := slices.Concat(window(-6, 5), window(low, low+3), window(high-3, high), window(30, 33))
	return valsOf(ranges, restsUpTo(4))
}

// greatVals are vals of all kinds, of divisors up to the greatest one.
func greatVals() []impl.Val {
	d := newDice()
	ranges, rests := manyRanges(), greatRests()
	list := []impl.Val{noVal(), allVal(), alone(low), alone(high), alone(0), alone(1), alone(-1)}
	for len(list) < 400 {
		a, b := pick(d, ranges), pick(d, rests)
		if v := judgeValMake(a, b); v != noVal() {
			list = append(list, v)
		}
	}
	slices.SortFunc(list, func(a, b impl.Val) int {
		return slices.Compare([]int{a.Lo, a.Hi, a.Mod, a.At}, []int{b.Lo, b.Hi, b.Mod, b.At})
	})
	return slices.Compact(list)
}

// numbersOfVal are numbers of a val: all of a small one; otherwise those at the ends and around 0, and some in between.
func numbersOfVal(a impl.Val) []int {
	switch {
	case a == noVal():
		return nil
	case a.Mod == 0:
		return []int{a.At}
	}
	var list []int
	count := (a.Hi - a.Lo) / a.Mod
	zero := -a.Lo / a.Mod
	places := []int{0, 1, 2, count / 3, count / 2, count - 2, count - 1, count, zero - 1, zero, zero + 1, 3, 4, 5, 6, 7, 8, 9, 10, 11}
	for _, place := range places {
		if v := a.Lo + place*a.Mod; place >= 0 && place <= count && !slices.Contains(list, v) {
			list = append(list, v)
		}
	}
	return list
}

// wrongVals are not ok: one of their parts is not, or they are not as these make them.
func wrongVals() []impl.Val {
	list := []impl.Val{
		vl(1, 20, 6, 4), vl(4, 20, 6, 4), vl(4, 17, 6, 4), vl(3, 16, 6, 4), vl(-3, 4, 6, 4), vl(low, high, 2, 0), vl(low, high, 65536, 0),
		vl(5, 9, 6, 4), vl(0, 0, 2, 1), vl(high, high, 65536, 0),
		// One number, or none, that is told as if there were more.
		vl(4, 4, 6, 4), vl(4, 4, 1, 0), vl(0, 0, 1, 0), vl(low, low, 65536, 0), vl(high, high, 65536, 65535), vl(4, 9, 6, 4), vl(5, 10, 6, 4),
		vl(4, 16, 0, 4), vl(4, 16, 0, 16), vl(4, 16, 0, 10), vl(4, 16, 0, 3), vl(4, 4, 0, 5), vl(4, 4, 0, 0), vl(0, 0, 0, 1), vl(low, low, 0, high),
		vl(1, 0, 1, 0), vl(1, 0, 6, 4), vl(1, 0, 65536, 0), vl(1, 0, 0, 1), vl(1, 0, 0, 5), vl(1, 0, 0, -1), vl(1, 0, 2, 1), vl(1, 0, -1, 0),
		vl(0, -1, 0, 0), vl(2, 1, 0, 0), vl(5, 4, 1, 0), vl(0, -1, 1, 0), vl(high, low, 1, 0), vl(16, 4, 6, 4), vl(4, 3, 0, 4),
		vl(4, 16, 6, 10), vl(4, 16, 6, -2), vl(4, 16, -6, 4), vl(4, 16, 6, 6), vl(0, 65537, 65537, 0), vl(0, 131072, 131072, 0), vl(0, 9, 1, 1),
	}
	for _, wrong := range wrongNumbers() {
		list = append(list, alone(wrong), vl(min(wrong, 0), max(wrong, 0), 1, 0), vl(0, 0, 0, wrong), vl(0, 5, 1, wrong), vl(4, 16, wrong, 4),
			vl(wrong, wrong, 1, 0), vl(1, wrong, 0, 1), vl(wrong, 0, 0, 0), vl(0, 1, wrong, wrong))
	}
	return append(list, vl(math.MinInt, math.MaxInt, 1, 0), vl(math.MaxInt, math.MinInt, math.MaxInt, math.MinInt))
}

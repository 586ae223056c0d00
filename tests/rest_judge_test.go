package tests

import (
	"math"
	"math/big"
	"slices"

	"loop.example/sedge/impl"
)

// rs is a rest, told by what it is divided by and what it leaves.
func rs(mod, at int) impl.Rest {
	return impl.Rest{Mod: mod, At: at}
}

// just is the rest of one number.
func just(v int) impl.Rest {
	return rs(0, v)
}

func allRest() impl.Rest {
	return rs(1, 0)
}

// smallRests are all rests of small divisors, and single numbers around 0.
func smallRests() []impl.Rest {
	var list []impl.Rest
	for v := -9; v <= 9; v++ {
		list = append(list, just(v))
	}
	for mod := 1; mod <= 10; mod++ {
		for at := range mod {
			list = append(list, rs(mod, at))
		}
	}
	return list
}

// greatRests are single numbers of all kinds, and rests of divisors up to the greatest one.
func greatRests() []impl.Rest {
	var list []impl.Rest
	for _, v := range []int{low, low + 1, low / 2, -196608, -65537, -65536, -65535, -32, -7, -3, -1, 0, 1, 2, 6, 30, 31, 32, 33,
		255, 32768, 65535, 65536, 65537, 98304, high / 2, high - 1, high} {
		list = append(list, just(v))
	}
	for _, mod := range []int{1, 2, 3, 4, 12, 31, 32, 96, 128, 255, 256, 257, 512, 768, 4096, 6561, 21845, 32767, 32768, 32769, 43690,
		49152, 65280, 65521, 65534, 65535, impl.RestMax} {
		for _, at := range []int{0, 1, mod / 2, mod / 3, mod - 1} {
			if at < mod && !slices.Contains(list, rs(mod, at)) {
				list = append(list, rs(mod, at))
			}
		}
	}
	return list
}

func manyRests() []impl.Rest {
	return slices.Concat(smallRests(), greatRests())
}

// wrongRests are not ok.
func wrongRests() []impl.Rest {
	list := []impl.Rest{rs(1, 1), rs(1, -1), rs(3, 3), rs(3, 4), rs(3, -1), rs(3, -3), rs(-1, 0), rs(-3, 0), rs(-3, 1), rs(-3, -1),
		rs(impl.RestMax, impl.RestMax), rs(impl.RestMax, -1), rs(impl.RestMax+1, 0), rs(impl.RestMax+1, impl.RestMax), rs(2*impl.RestMax, 0),
		rs(-impl.RestMax, 0), rs(word, 0), rs(word+1, 0), rs(math.MaxInt, 0), rs(math.MaxInt, 5), rs(math.MinInt, 0), rs(math.MinInt, math.MinInt)}
	for _, wrong := range wrongNumbers() {
		list = append(list, just(wrong), rs(1, wrong), rs(5, wrong), rs(impl.RestMax, wrong))
	}
	return list
}

// bigMod is what n leaves when it is divided by m, from 0 on.
func bigMod(n, m *big.Int) *big.Int {
	return new(big.Int).Mod(n, m)
}

// bigGcd is the greatest common divisor by size, of any numbers.
func bigGcd(list ...*big.Int) *big.Int {
	all := new(big.Int)
	for _, n := range list {
		all.GCD(nil, nil, all, new(big.Int).Abs(n))
	}
	return all
}

func bigOf(v int) *big.Int {
	return big.NewInt(int64(v))
}

// hasRest is the chapter's word on which numbers a rest has that is ok.
func hasRest(a impl.Rest, v int) bool {
	if !fits(bigOf(v)) {
		return false
	}
	if a.Mod == 0 {
		return v == a.At
	}
	return bigMod(bigOf(v), bigOf(a.Mod)).Cmp(bigOf(a.At)) == 0
}

// numbersOfRest are numbers of a rest: the least and the greatest, those around 0 and some in between.
func numbersOfRest(a impl.Rest) []int {
	if a.Mod == 0 {
		return []int{a.At}
	}
	var list []int
	for _, from := range []int{low, low / 2, -3 * a.Mod, -70000, -1, 0, 1, a.Mod, 5 * a.Mod, 70000, high / 2, high - 2*a.Mod} {
		first := from + int(bigMod(bigOf(a.At-from), bigOf(a.Mod)).Int64())
		for _, v := range []int{first, first + a.Mod, first + 2*a.Mod} {
			if fits(bigOf(v)) && !slices.Contains(list, v) {
				list = append(list, v)
			}
		}
	}
	return list
}

// judgeRestOf is the rest of n by m.
func judgeRestOf(n, m *big.Int) impl.Rest {
	if m.Cmp(bigOf(impl.RestMax)) > 0 {
		m = bigGcd(m, bigOf(impl.RestMax))
	}
	if m.Sign() == 0 {
		return just(int(n.Int64()))
	}
	return rs(int(m.Int64()), int(bigMod(n, m).Int64()))
}

func judgeRestJoin(a, b impl.Rest) impl.Rest {
	return judgeRestOf(bigOf(a.At), bigGcd(bigOf(a.Mod), bigOf(b.Mod), bigOf(a.At-b.At)))
}

// judgeRestMeet looks for the least number of both, among all numbers up to their least common multiple.
func judgeRestMeet(a, b impl.Rest) (impl.Rest, bool) {
	for _, p := range [][2]impl.Rest{{a, b}, {b, a}} {
		if p[0].Mod == 0 {
			if hasRest(p[1], p[0].At) {
				return p[0], true
			}
			return rs(0, 0), false
		}
	}
	least := b.At // every number of both is met on the way, so the lot of them ends where b stands again as it stood
	product := a.Mod * b.Mod / int(bigGcd(bigOf(a.Mod), bigOf(b.Mod)).Int64())
	for least < product && least%a.Mod != a.At {
		least += b.Mod
	}
	switch {
	case least >= product:
		return rs(0, 0), false
	case product <= impl.RestMax:
		return rs(product, least), true
	case b.Mod > a.Mod:
		return b, true
	}
	return a, true
}

// judgeRestDo is a second reading of what the chapter says of operators, in numbers without bounds.
func judgeRestDo(op int, a, b impl.Rest) impl.Rest {
	if a.Mod == 0 && b.Mod == 0 {
		if v, fault := wanted(op, a.At, b.At); fault == 0 {
			return just(v)
		}
		return allRest()
	}
	w := new(big.Int)
	if op >= impl.OpWrapAdd {
		w = bigOf(word)
	}
	am, aa, bm, ba := bigOf(a.Mod), bigOf(a.At), bigOf(b.Mod), bigOf(b.At)
	times := func(x, y *big.Int) *big.Int { return new(big.Int).Mul(x, y) }
	switch op {
	case impl.OpAdd, impl.OpWrapAdd:
		return judgeRestOf(new(big.Int).Add(aa, ba), bigGcd(am, bm, w))
	case impl.OpSub, impl.OpWrapSub:
		return judgeRestOf(new(big.Int).Sub(aa, ba), bigGcd(am, bm, w))
	case impl.OpMul, impl.OpWrapMul:
		m := bigGcd(times(am, bm), times(am, ba), times(bm, aa))
		if m.Sign() == 0 {
			return just(0)
		}
		return judgeRestOf(times(aa, ba), bigGcd(m, w))
	case impl.OpShl:
		if b.Mod == 0 && b.At >= 0 && b.At <= 31 {
			p := new(big.Int).Exp(bigOf(2), ba, nil)
			return judgeRestOf(times(aa, p), times(am, p))
		}
	case impl.OpRem:
		if m := bigGcd(am, bm, ba); m.Sign() != 0 {
			return judgeRestOf(aa, m)
		}
	}
	return allRest()
}

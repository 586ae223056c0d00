package tests

import (
	"math"
	"math/big"
	"testing"

	"loop.example/sedge/impl"
)

// word is how far apart numbers stand that have the same last 32 bits.
const word = 4294967296

// numSamples are the edges of numbers, of shifts and of bits, and numbers in between.
func numSamples() []int {
	list := []int{
		impl.NumMin, impl.NumMin + 1, impl.NumMin / 2, impl.NumMin/2 - 1, -65537, -65536, -65535, -46341, -46340,
		-1000, -33, -32, -31, -8, -7, -5, -3, -2, -1, 0, 1, 2, 3, 5, 7, 12, 30, 31, 32, 33, 255, 1000,
		46340, 46341, 65535, 65536, 65537, impl.NumMax / 2, impl.NumMax/2 + 1, impl.NumMax - 1, impl.NumMax,
	}
	d := newDice()
	for range 40 {
		v := int(int32(d.next()))
		list = append(list, v, v>>20)
	}
	return list
}

// wrongNumbers are ints that are no numbers.
func wrongNumbers() []int {
	return []int{impl.NumMin - 1, impl.NumMax + 1, -word, word, math.MinInt, math.MaxInt}
}

// wrongOps are no operators.
func wrongOps() []int {
	return []int{0, -1, 14, 15, 100, 269, word + impl.OpAdd, math.MinInt, math.MaxInt}
}

// wrongCmps are no comparisons.
func wrongCmps() []int {
	return []int{0, -1, 7, 8, 257, word + impl.CmpEq, math.MinInt, math.MaxInt}
}

// eachPair hands each operator with each two samples over.
func eachPair(ops []int, f func(op, a, b int)) {
	list := numSamples()
	for _, op := range ops {
		for _, a := range list {
			for _, b := range list {
				f(op, a, b)
			}
		}
	}
}

func allOps() []int {
	return []int{impl.OpAdd, impl.OpSub, impl.OpMul, impl.OpDiv, impl.OpRem, impl.OpAnd, impl.OpOr, impl.OpXor,
		impl.OpShl, impl.OpShr, impl.OpWrapAdd, impl.OpWrapSub, impl.OpWrapMul}
}

func allCmps() []int {
	return []int{impl.CmpEq, impl.CmpNe, impl.CmpLt, impl.CmpLe, impl.CmpGt, impl.CmpGe}
}

// exact is what an operator makes, reckoned without bounds, or the fault of b.
func exact(op, a, b int) (*big.Int, int) {
	x, y, z := big.NewInt(int64(a)), big.NewInt(int64(b)), new(big.Int)
	switch op {
	case impl.OpAdd, impl.OpWrapAdd:
		return z.Add(x, y), 0
	case impl.OpSub, impl.OpWrapSub:
		return z.Sub(x, y), 0
	case impl.OpMul, impl.OpWrapMul:
		return z.Mul(x, y), 0
	case impl.OpAnd:
		return z.And(x, y), 0
	case impl.OpOr:
		return z.Or(x, y), 0
	case impl.OpXor:
		return z.Xor(x, y), 0
	}
	if op == impl.OpDiv || op == impl.OpRem {
		if b == 0 {
			return nil, impl.FaZero
		}
		if op == impl.OpDiv {
			return z.Quo(x, y), 0
		}
		return z.Rem(x, y), 0
	}
	if b < 0 || b > 31 {
		return nil, impl.FaShift
	}
	power := new(big.Int).Exp(big.NewInt(2), y, nil)
	if op == impl.OpShl {
		return z.Mul(x, power), 0
	}
	return z.Div(x, power), 0
}

// wrapped is the number that stands a multiple of word away.
func wrapped(v *big.Int) int {
	m := new(big.Int).Mod(v, big.NewInt(word))
	if m.Int64() > impl.NumMax {
		m.Sub(m, big.NewInt(word))
	}
	return int(m.Int64())
}

// wanted is what the document asks of NumDo.
func wanted(op, a, b int) (int, int) {
	v, fault := exact(op, a, b)
	if fault != 0 {
		return 0, fault
	}
	if op >= impl.OpWrapAdd {
		return wrapped(v), 0
	}
	if v.Cmp(big.NewInt(impl.NumMin)) < 0 || v.Cmp(big.NewInt(impl.NumMax)) > 0 {
		return 0, impl.FaOver
	}
	return int(v.Int64()), 0
}

func TestNumConstants(t *testing.T) {
	for i, op := range allOps() {
		if op != i+1 {
			t.Errorf("operator %d is %d", i+1, op)
		}
	}
	for i, cmp := range allCmps() {
		if cmp != i+1 {
			t.Errorf("comparison %d is %d", i+1, cmp)
		}
	}
	faults := []int{impl.FaOver, impl.FaZero, impl.FaShift, impl.FaBounds, impl.FaNull, impl.FaAssert, impl.FaDepth}
	for i, fault := range faults {
		if fault != i+1 {
			t.Errorf("fault %d is %d", i+1, fault)
		}
	}
	if impl.NumMin != -2147483648 || impl.NumMax != 2147483647 {
		t.Error("ends of numbers", impl.NumMin, impl.NumMax)
	}
}

func TestNumOk(t *testing.T) {
	for _, v := range numSamples() {
		if !impl.NumOk(v) {
			t.Errorf("NumOk(%d) is false", v)
		}
	}
	for _, v := range wrongNumbers() {
		if impl.NumOk(v) {
			t.Errorf("NumOk(%d) is true", v)
		}
	}
}

func TestNumWrap(t *testing.T) {
	cases := [][2]int{
		{0, 0}, {impl.NumMin, impl.NumMin}, {impl.NumMax, impl.NumMax},
		{impl.NumMin - 1, impl.NumMax}, {impl.NumMax + 1, impl.NumMin},
		{word, 0}, {-word, 0}, {word - 1, -1}, {1 - word, 1}, {7*word + 5, 5},
		{math.MinInt, 0}, {math.MinInt + 1, 1}, {math.MaxInt, -1}, {math.MaxInt - 1, -2},
	}
	for _, c := range cases {
		if got := impl.NumWrap(c[0]); got != c[1] {
			t.Errorf("NumWrap(%d) is %d, not %d", c[0], got, c[1])
		}
	}
	for _, v := range numSamples() {
		for _, far := range []int{v, v + word, v - word, v + 1000*word, v - 1000*word} {
			if got := impl.NumWrap(far); got != v {
				t.Errorf("NumWrap(%d) is %d, not %d", far, got, v)
			}
		}
	}
}

func TestNumDoEdges(t *testing.T) {
	cases := [][5]int{
		{impl.OpDiv, impl.NumMin, -1, 0, impl.FaOver}, {impl.OpRem, impl.NumMin, -1, 0, 0},
		{impl.OpDiv, impl.NumMin, 1, impl.NumMin, 0}, {impl.OpDiv, impl.NumMax, -1, -impl.NumMax, 0},
		{impl.OpDiv, 7, -2, -3, 0}, {impl.OpRem, 7, -2, 1, 0}, {impl.OpDiv, -7, -2, 3, 0}, {impl.OpRem, -7, -2, -1, 0},
		{impl.OpDiv, 0, 0, 0, impl.FaZero}, {impl.OpRem, impl.NumMin, 0, 0, impl.FaZero},
		{impl.OpAdd, impl.NumMax, 1, 0, impl.FaOver}, {impl.OpAdd, impl.NumMin, -1, 0, impl.FaOver},
		{impl.OpAdd, impl.NumMin, impl.NumMax, -1, 0}, {impl.OpSub, impl.NumMin, 1, 0, impl.FaOver},
		{impl.OpSub, 0, impl.NumMin, 0, impl.FaOver}, {impl.OpSub, -1, impl.NumMin, impl.NumMax, 0},
		{impl.OpMul, impl.NumMin, -1, 0, impl.FaOver}, {impl.OpMul, impl.NumMin, impl.NumMin, 0, impl.FaOver},
		{impl.OpMul, 65536, -32768, impl.NumMin, 0}, {impl.OpMul, 65536, 32768, 0, impl.FaOver},
		{impl.OpShl, 1, 0, 1, 0}, {impl.OpShl, 1, 30, 1073741824, 0}, {impl.OpShl, 1, 31, 0, impl.FaOver},
		{impl.OpShl, -1, 31, impl.NumMin, 0}, {impl.OpShl, -2, 31, 0, impl.FaOver}, {impl.OpShl, 0, 31, 0, 0},
		{impl.OpShl, 0, 32, 0, impl.FaShift}, {impl.OpShl, 0, -1, 0, impl.FaShift},
		{impl.OpShl, impl.NumMax, 32, 0, impl.FaShift}, {impl.OpShl, impl.NumMin, 31, 0, impl.FaOver},
		{impl.OpShr, impl.NumMin, 31, -1, 0}, {impl.OpShr, impl.NumMax, 31, 0, 0}, {impl.OpShr, -1, 31, -1, 0},
		{impl.OpShr, -5, 0, -5, 0}, {impl.OpShr, -5, 1, -3, 0}, {impl.OpShr, 5, 1, 2, 0},
		{impl.OpShr, 5, 32, 0, impl.FaShift}, {impl.OpShr, 5, -1, 0, impl.FaShift}, {impl.OpShr, 5, impl.NumMin, 0, impl.FaShift},
		{impl.OpAnd, -1, impl.NumMin, impl.NumMin, 0}, {impl.OpAnd, -4, -6, -8, 0}, {impl.OpAnd, impl.NumMin, impl.NumMax, 0, 0},
		{impl.OpOr, impl.NumMin, impl.NumMax, -1, 0}, {impl.OpOr, -8, 3, -5, 0},
		{impl.OpXor, impl.NumMin, -1, impl.NumMax, 0}, {impl.OpXor, -1, -1, 0, 0}, {impl.OpXor, impl.NumMin, impl.NumMax, -1, 0},
		{impl.OpWrapAdd, impl.NumMax, 1, impl.NumMin, 0}, {impl.OpWrapAdd, impl.NumMin, impl.NumMin, 0, 0},
		{impl.OpWrapSub, impl.NumMin, 1, impl.NumMax, 0}, {impl.OpWrapSub, 0, impl.NumMin, impl.NumMin, 0},
		{impl.OpWrapMul, impl.NumMin, -1, impl.NumMin, 0}, {impl.OpWrapMul, impl.NumMax, impl.NumMax, 1, 0},
		{impl.OpWrapMul, impl.NumMin, impl.NumMin, 0, 0}, {impl.OpWrapMul, 65536, 32768, impl.NumMin, 0},
	}
	for _, c := range cases {
		if v, fault := impl.NumDo(c[0], c[1], c[2]); v != c[3] || fault != c[4] {
			t.Errorf("NumDo(%d, %d, %d) is %d and %d, not %d and %d", c[0], c[1], c[2], v, fault, c[3], c[4])
		}
	}
}

func TestNumDoReckonsExactly(t *testing.T) {
	eachPair(allOps(), func(op, a, b int) {
		v, fault := impl.NumDo(op, a, b)
		if wantV, wantFault := wanted(op, a, b); v != wantV || fault != wantFault {
			t.Errorf("NumDo(%d, %d, %d) is %d and %d, not %d and %d", op, a, b, v, fault, wantV, wantFault)
		}
	})
}

// What stands beside a wrong input would be a fault, if that were let through.
func TestNumDoWrongInputs(t *testing.T) {
	for _, op := range wrongOps() {
		for _, b := range []int{-1, 0, 1, 32, impl.NumMax} {
			if v, fault := impl.NumDo(op, impl.NumMax, b); v != 0 || fault != 0 {
				t.Errorf("NumDo(%d, NumMax, %d) is %d and %d", op, b, v, fault)
			}
		}
	}
	for _, op := range allOps() {
		for _, wrong := range wrongNumbers() {
			for _, other := range []int{-1, 0, 1, 32, impl.NumMin, impl.NumMax, impl.NumMax + 1} {
				if v, fault := impl.NumDo(op, wrong, other); v != 0 || fault != 0 {
					t.Errorf("NumDo(%d, %d, %d) is %d and %d", op, wrong, other, v, fault)
				}
				if v, fault := impl.NumDo(op, other, wrong); v != 0 || fault != 0 {
					t.Errorf("NumDo(%d, %d, %d) is %d and %d", op, other, wrong, v, fault)
				}
			}
		}
	}
}

func TestPromise1NumberOrFault(t *testing.T) {
	met := map[int]int{}
	eachPair(allOps(), func(op, a, b int) {
		v, fault := impl.NumDo(op, a, b)
		met[fault]++
		if fault != 0 && v != 0 {
			t.Errorf("NumDo(%d, %d, %d) tells %d beside the fault %d", op, a, b, v, fault)
		}
		if !impl.NumOk(v) {
			t.Errorf("NumDo(%d, %d, %d) tells %d, which is not ok", op, a, b, v)
		}
		if fault < 0 || fault > impl.FaShift {
			t.Errorf("NumDo(%d, %d, %d) tells the fault %d", op, a, b, fault)
		}
		if op >= impl.OpWrapAdd && fault != 0 {
			t.Errorf("NumDo(%d, %d, %d) wraps, and tells the fault %d", op, a, b, fault)
		}
	})
	for _, fault := range []int{0, impl.FaOver, impl.FaZero, impl.FaShift} {
		if met[fault] == 0 {
			t.Errorf("no pair has the fault %d", fault)
		}
	}
}

func TestNumCmp(t *testing.T) {
	holds := [][3]bool{ // of a below, as great as, above b
		impl.CmpEq: {false, true, false}, impl.CmpNe: {true, false, true},
		impl.CmpLt: {true, false, false}, impl.CmpLe: {true, true, false},
		impl.CmpGt: {false, false, true}, impl.CmpGe: {false, true, true},
	}
	list := append(numSamples(), wrongNumbers()...)
	for _, a := range list {
		for _, b := range list {
			order := 1 + big.NewInt(int64(a)).Cmp(big.NewInt(int64(b)))
			for _, cmp := range allCmps() {
				if impl.NumCmp(cmp, a, b) != holds[cmp][order] {
					t.Errorf("NumCmp(%d, %d, %d) is %v", cmp, a, b, !holds[cmp][order])
				}
			}
		}
	}
	for _, cmp := range wrongCmps() {
		for _, a := range []int{-1, 0, 1} {
			if impl.NumCmp(cmp, a, 0) {
				t.Errorf("NumCmp(%d, %d, 0) is true", cmp, a)
			}
		}
	}
}

func TestPromise2Opposites(t *testing.T) {
	list := append(numSamples(), wrongNumbers()...)
	for _, cmp := range allCmps() {
		not, turn := impl.CmpNot(cmp), impl.CmpTurn(cmp)
		if impl.CmpNot(not) != cmp {
			t.Errorf("CmpNot of CmpNot of %d is %d", cmp, impl.CmpNot(not))
		}
		if impl.CmpTurn(turn) != cmp {
			t.Errorf("CmpTurn of CmpTurn of %d is %d", cmp, impl.CmpTurn(turn))
		}
		for _, a := range list {
			for _, b := range list {
				if impl.NumCmp(cmp, a, b) == impl.NumCmp(not, a, b) {
					t.Errorf("%d and its opposite %d do not share out %d and %d", cmp, not, a, b)
				}
				if impl.NumCmp(cmp, a, b) != impl.NumCmp(turn, b, a) {
					t.Errorf("%d of %d and %d is not %d of these turned about", cmp, a, b, turn)
				}
			}
		}
	}
	for _, cmp := range wrongCmps() {
		if impl.CmpNot(cmp) != 0 || impl.CmpTurn(cmp) != 0 {
			t.Errorf("%d is no comparison, but has %d and %d", cmp, impl.CmpNot(cmp), impl.CmpTurn(cmp))
		}
	}
}

func TestPromise3QuotientAndRest(t *testing.T) {
	eachPair([]int{impl.OpDiv}, func(op, a, b int) {
		quotient, fault := impl.NumDo(op, a, b)
		rest, restFault := impl.NumDo(impl.OpRem, a, b)
		if (b == 0) != (restFault == impl.FaZero) {
			t.Errorf("the rest of %d by %d has the fault %d", a, b, restFault)
		}
		if fault == 0 && (restFault != 0 || quotient*b+rest != a) {
			t.Errorf("%d / %d is %d, and %d is left (%d)", a, b, quotient, rest, restFault)
		}
		size := max(b, -b)
		if b != 0 && (rest >= size || -rest >= size || rest < 0 && a > 0 || rest > 0 && a < 0) {
			t.Errorf("%d %% %d is %d", a, b, rest)
		}
	})
}

func TestPromise4Bits(t *testing.T) {
	eachPair([]int{impl.OpAnd}, func(op, a, b int) {
		and, andFault := impl.NumDo(op, a, b)
		or, orFault := impl.NumDo(impl.OpOr, a, b)
		xor, xorFault := impl.NumDo(impl.OpXor, a, b)
		if andFault != 0 || orFault != 0 || xorFault != 0 {
			t.Errorf("bits of %d and %d have the faults %d, %d, %d", a, b, andFault, orFault, xorFault)
		}
		if and+or != a+b {
			t.Errorf("%d & %d is %d, | is %d", a, b, and, or)
		}
		if xor != or-and {
			t.Errorf("%d ^ %d is %d", a, b, xor)
		}
		for bit := range 32 {
			x, y, z := a>>bit&1, b>>bit&1, and>>bit&1
			if z != x*y {
				t.Errorf("%d & %d is %d, which is wrong at bit %d", a, b, and, bit)
			}
		}
	})
}

func TestPromise4Wrapping(t *testing.T) {
	pairs := [][2]int{{impl.OpAdd, impl.OpWrapAdd}, {impl.OpSub, impl.OpWrapSub}, {impl.OpMul, impl.OpWrapMul}}
	for _, p := range pairs {
		fitting, cut := 0, 0
		eachPair(p[:1], func(op, a, b int) {
			v, fault := impl.NumDo(op, a, b)
			wrap, wrapFault := impl.NumDo(p[1], a, b)
			if wrapFault != 0 {
				t.Errorf("operator %d of %d and %d has the fault %d", p[1], a, b, wrapFault)
			}
			if fault != 0 {
				cut++
			} else {
				fitting++
			}
			if fault == 0 && wrap != v {
				t.Errorf("operator %d of %d and %d makes %d, but %d makes %d", p[1], a, b, wrap, op, v)
			}
		})
		if fitting == 0 || cut == 0 {
			t.Errorf("operator %d: %d pairs fit, %d do not", p[0], fitting, cut)
		}
	}
}

// Package impl: programs that are looked through ahead of their runs.
package impl

// The least and the greatest number.
const (
	NumMin = -2147483648
	NumMax = 2147483647
)

// Operators.
const (
	OpAdd     = 1
	OpSub     = 2
	OpMul     = 3
	OpDiv     = 4
	OpRem     = 5
	OpAnd     = 6
	OpOr      = 7
	OpXor     = 8
	OpShl     = 9
	OpShr     = 10
	OpWrapAdd = 11
	OpWrapSub = 12
	OpWrapMul = 13
)

// Comparisons.
const (
	CmpEq = 1
	CmpNe = 2
	CmpLt = 3
	CmpLe = 4
	CmpGt = 5
	CmpGe = 6
)

// Faults of a run.
const (
	FaOver   = 1
	FaZero   = 2
	FaShift  = 3
	FaBounds = 4
	FaNull   = 5
	FaAssert = 6
	FaDepth  = 7
)

// signed are the types to whose widths a number may be cut.
type signed interface {
	~int8 | ~int16 | ~int32 | ~int64
}

// numFault is what an operator panics with in place of a number.
type numFault int

// The comparisons that hold just where one does not, and with the sides changed.
var (
	cmpOpposites = [...]int{CmpEq: CmpNe, CmpNe: CmpEq, CmpLt: CmpGe, CmpLe: CmpGt, CmpGt: CmpLe, CmpGe: CmpLt}
	cmpTurned    = [...]int{CmpEq: CmpEq, CmpNe: CmpNe, CmpLt: CmpGt, CmpLe: CmpGe, CmpGt: CmpLt, CmpGe: CmpLe}
)

// NumOk says whether a number is one of 32 bits.
func NumOk(v int) bool {
	return fitsWidth[int32](v)
}

// NumWrap is the number of 32 bits that has the same last 32 bits.
func NumWrap(v int) int {
	return wrapWidth[int32](v)
}

// NumDo is what an operator makes of two numbers, or a fault.
func NumDo(op int, a int, b int) (int, int) {
	reckon := numOperator(op)
	if reckon == nil || !NumOk(a) || !NumOk(b) {
		return 0, 0
	}
	bound := mustFit
	if opWraps(op) {
		bound = NumWrap
	}
	return numTry(reckon, bound, a, b)
}

// NumCmp says whether a comparison holds of two numbers.
func NumCmp(cmp int, a int, b int) bool {
	switch cmp {
	case CmpEq:
		return a == b
	case CmpNe:
		return a != b
	case CmpLt:
		return a < b
	case CmpLe:
		return a <= b
	case CmpGt:
		return a > b
	case CmpGe:
		return a >= b
	}
	return false
}

// CmpNot is the comparison that holds just where one does not.
func CmpNot(cmp int) int {
	if !cmpOk(cmp) {
		return 0
	}
	return cmpOpposites[cmp]
}

// CmpTurn is the comparison that holds of b and a just where one holds of a and b.
func CmpTurn(cmp int) int {
	if !cmpOk(cmp) {
		return 0
	}
	return cmpTurned[cmp]
}

// cmpOk says whether it is a comparison.
func cmpOk(cmp int) bool {
	return cmp >= CmpEq && cmp <= CmpGe
}

// wrapWidth is the number of T's width that has v's last bits.
func wrapWidth[T signed](v int) int {
	return int(T(v))
}

// fitsWidth says whether v is a number of T's width.
func fitsWidth[T signed](v int) bool {
	return wrapWidth[T](v) == v
}

// opWraps says whether an operator's number is wrapped where it is no ok number.
func opWraps(op int) bool {
	return op >= OpWrapAdd && op <= OpWrapMul
}

// numTry is the operator's face: what the operator, or the bound of its number, panics with becomes the fault.
func numTry(reckon func(a, b int) int, bound func(v int) int, a int, b int) (num int, fault int) {
	defer func() {
		if f, ok := recover().(numFault); ok {
			num, fault = 0, int(f)
		}
	}()
	return bound(reckon(a, b)), 0
}

// numOperator is what an operator reckons without bound, nil when there is no such operator.
// Sums, products and shifts of numbers of 32 bits stay within an int, so none of them is cut before it is looked at.
func numOperator(op int) func(a, b int) int {
	table := [...]func(a, b int) int{
		OpAdd:     func(a, b int) int { return a + b },
		OpSub:     func(a, b int) int { return a - b },
		OpMul:     func(a, b int) int { return a * b },
		OpDiv:     func(a, b int) int { return a / mustDivide(b) },
		OpRem:     func(a, b int) int { return a % mustDivide(b) },
		OpAnd:     func(a, b int) int { return a & b },
		OpOr:      func(a, b int) int { return a | b },
		OpXor:     func(a, b int) int { return a ^ b },
		OpShl:     func(a, b int) int { return a << mustShift(b) },
		OpShr:     func(a, b int) int { return a >> mustShift(b) },
		OpWrapAdd: func(a, b int) int { return a + b },
		OpWrapSub: func(a, b int) int { return a - b },
		OpWrapMul: func(a, b int) int { return a * b },
	}
	if op < 0 || op >= len(table) {
		return nil
	}
	return table[op]
}

// mustFit is v, which must be an ok number.
func mustFit(v int) int {
	if !NumOk(v) {
		panic(numFault(FaOver))
	}
	return v
}

// mustDivide is b, by which must be divided.
func mustDivide(b int) int {
	if b == 0 {
		panic(numFault(FaZero))
	}
	return b
}

// mustShift is b, by which 32 bits must be shifted.
func mustShift(b int) int {
	if b < 0 || b > 31 {
		panic(numFault(FaShift))
	}
	return b
}

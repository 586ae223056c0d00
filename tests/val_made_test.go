package tests

import (
	"slices"
	"testing"

	"loop.example/sedge/impl"
)

// eachValPair hands each two vals of the small ones over, and many of the great ones.
func eachValPair(f func(a, b impl.Val)) {
	small, great := smallVals(), greatVals()
	for _, a := range small {
		for _, b := range small {
			f(a, b)
		}
	}
	d := newDice()
	for range 6000 {
		f(pick(d, great), pick(d, great))
	}
}

// eachValPart hands each small range with each small rest over, and many of the great ones.
func eachValPart(f func(a impl.Range, b impl.Rest)) {
	for _, a := range append(smallRanges(), noRange()) {
		for _, b := range smallRests() {
			f(a, b)
		}
	}
	d := newDice()
	ranges, rests := manyRanges(), manyRests()
	for range 5000 {
		f(pick(d, ranges), pick(d, rests))
	}
}

func TestValMakeSecondReading(t *testing.T) {
	eachValPart(func(a impl.Range, b impl.Rest) {
		if made := impl.ValMake(a, b); made != judgeValMake(a, b) {
			t.Errorf("ValMake(%v, %v) is %v, not %v", a, b, made, judgeValMake(a, b))
		}
	})
}

// Each val of small ends and small rests is ok just when it is what its parts make.
func TestValOkSecondReading(t *testing.T) {
	met := map[bool]int{}
	for _, a := range append(window(-5, 8), noRange()) {
		for _, b := range smallRests() {
			v := vl(a.Lo, a.Hi, b.Mod, b.At)
			ok := v == judgeValMake(a, b)
			met[ok]++
			if impl.ValOk(v) != ok {
				t.Errorf("ValOk(%v) is %v", v, !ok)
			}
		}
	}
	if met[true] == 0 || met[false] == 0 {
		t.Errorf("ok and not ok, so often: %v", met)
	}
}

func TestValSecondReading(t *testing.T) {
	eachValPair(func(a, b impl.Val) {
		if join := impl.ValJoin(a, b); join != judgeValJoin(a, b) {
			t.Errorf("ValJoin(%v, %v) is %v, not %v", a, b, join, judgeValJoin(a, b))
		}
		if meet := impl.ValMeet(a, b); meet != judgeValMeet(a, b) {
			t.Errorf("ValMeet(%v, %v) is %v, not %v", a, b, meet, judgeValMeet(a, b))
		}
		for _, cmp := range allCmps() {
			x, y := impl.ValCmp(cmp, a, b)
			if wantX, wantY := judgeValCmp(cmp, a, b); x != wantX || y != wantY {
				t.Errorf("ValCmp(%d, %v, %v) is %v and %v, not %v and %v", cmp, a, b, x, y, wantX, wantY)
			}
		}
	})
}

func TestValWidenSecondReading(t *testing.T) {
	lists := stepLists()
	d := newDice()
	eachValPair(func(a, b impl.Val) {
		steps := pick(d, lists)
		if wide := impl.ValWiden(a, b, steps); wide != judgeValWiden(a, b, steps) {
			t.Errorf("ValWiden(%v, %v, %v) is %v, not %v", a, b, steps, wide, judgeValWiden(a, b, steps))
		}
	})
}

func TestValDoSecondReading(t *testing.T) {
	d := newDice()
	small, great := smallVals(), greatVals()
	for range 12000 {
		for _, list := range [][]impl.Val{small, great} {
			op, a, b := pick(d, allOps()), pick(d, list), pick(d, list)
			made, faults := impl.ValDo(op, a, b)
			if want, wantFaults := judgeValDo(op, a, b); made != want || !slices.Equal(faults, wantFaults) {
				t.Errorf("ValDo(%d, %v, %v) is %v and %v, not %v and %v", op, a, b, made, faults, want, wantFaults)
			}
		}
	}
}

// A val is in another one just when its numbers are; the first two and the last one tell that of all.
func TestValInSecondReading(t *testing.T) {
	met := map[bool]int{}
	eachValPair(func(a, b impl.Val) {
		in := true
		for _, v := range numbersOfVal(a) {
			in = in && hasVal(b, v)
		}
		met[in]++
		if impl.ValIn(a, b) != in {
			t.Errorf("ValIn(%v, %v) is %v", a, b, !in)
		}
	})
	if met[true] == 0 || met[false] == 0 {
		t.Errorf("in and not in, so often: %v", met)
	}
}

// around are the numbers about the ends of a range, and about 0.
func around(a impl.Range) []int {
	var list []int
	for v := -12; v <= 12; v++ {
		list = append(list, a.Lo+v, v, a.Hi+v)
	}
	return append(list, wrongNumbers()...)
}

func TestPromise30MakeHasJustWhatBothHave(t *testing.T) {
	eachValPart(func(a impl.Range, b impl.Rest) {
		made, met := impl.ValMake(a, b), 0
		for _, v := range slices.Concat(around(a), numbersOfRest(b), []int{made.Lo, made.Hi}) {
			has := impl.ValHas(made, v)
			if has {
				met++
			}
			if has != (impl.RangeHas(a, v) && impl.RestHas(b, v)) {
				t.Errorf("ValMake(%v, %v) is %v: has it %d: %v", a, b, made, v, has)
			}
		}
		if !impl.ValOk(made) || (made == noVal()) != (met == 0) {
			t.Errorf("ValMake(%v, %v) is %v", a, b, made)
		}
		if made != noVal() && !(impl.ValHas(made, made.Lo) && impl.ValHas(made, made.Hi)) {
			t.Errorf("ValMake(%v, %v) is %v, whose ends are not its own", a, b, made)
		}
	})
}

// Whatever is handed in; none is told without numbers at its ends.
func TestPromise30AllThatIsToldIsOk(t *testing.T) {
	d := newDice()
	vals := slices.Concat(smallVals(), greatVals(), wrongVals())
	ops, cmps := append(allOps(), wrongOps()...), append(allCmps(), wrongCmps()...)
	for range 40000 {
		a, b, steps := pick(d, vals), pick(d, vals), pick(d, stepLists())
		made, _ := impl.ValDo(pick(d, ops), a, b)
		x, y := impl.ValCmp(pick(d, cmps), a, b)
		for _, v := range []impl.Val{impl.ValJoin(a, b), impl.ValMeet(a, b), impl.ValWiden(a, b, steps), made, x, y} {
			if !impl.ValOk(v) || v != noVal() && !(impl.ValHas(v, v.Lo) && impl.ValHas(v, v.Hi)) {
				t.Errorf("of %v and %v %v is made", a, b, v)
			}
		}
	}
}

// checkValHeld asks that each number that an operator makes of two vals' numbers is in its val, and each fault told. It
// tells how many numbers and how many faults there were.
func checkValHeld(t *testing.T, op int, a, b impl.Val) (int, int) {
	t.Helper()
	made, faults := impl.ValDo(op, a, b)
	numbers, wrong := 0, 0
	for _, x := range numbersOfVal(a) {
		for _, y := range numbersOfVal(b) {
			v, fault := impl.NumDo(op, x, y)
			if fault != 0 {
				wrong++
			} else {
				numbers++
			}
			if fault != 0 && !slices.Contains(faults, fault) {
				t.Errorf("ValDo(%d, %v, %v) tells %v, but %d and %d have the fault %d", op, a, b, faults, x, y, fault)
			}
			if fault == 0 && !impl.ValHas(made, v) {
				t.Errorf("ValDo(%d, %v, %v) is %v, but %d and %d make %d", op, a, b, made, x, y, v)
			}
		}
	}
	return numbers, wrong
}

func TestPromise31WhatAnOperatorMakesIsInTheVal(t *testing.T) {
	small, great := smallVals(), greatVals()
	for _, op := range allOps() {
		d := newDice()
		numbers, wrong := 0, 0
		for range 2500 {
			for _, list := range [][]impl.Val{small, great} {
				n, w := checkValHeld(t, op, pick(d, list), pick(d, list))
				numbers, wrong = numbers+n, wrong+w
			}
		}
		bits := op == impl.OpAnd || op == impl.OpOr || op == impl.OpXor || op >= impl.OpWrapAdd
		if numbers == 0 || (wrong == 0) != bits {
			t.Errorf("operator %d has %d numbers and %d faults", op, numbers, wrong)
		}
	}
}

// By one number much is told: each shift, and each divisor about 0.
func TestPromise31OfOneNumber(t *testing.T) {
	for _, a := range greatVals() {
		for v := -3; v <= 33; v++ {
			for _, op := range allOps() {
				checkValHeld(t, op, a, alone(v))
			}
		}
	}
}

func TestPromise31OfNumbersAlone(t *testing.T) {
	eachPair(allOps(), func(op, a, b int) {
		made, faults := impl.ValDo(op, alone(a), alone(b))
		v, fault := impl.NumDo(op, a, b)
		want, wantFaults := alone(v), []int(nil)
		if fault != 0 {
			want, wantFaults = noVal(), []int{fault}
		}
		if made != want || !slices.Equal(faults, wantFaults) {
			t.Errorf("ValDo(%d, %d alone, %d alone) is %v and %v, but NumDo %d and %d", op, a, b, made, faults, v, fault)
		}
	})
}

func TestPromise32JoinMeetAndWidenLoseNothing(t *testing.T) {
	lists := stepLists()
	d := newDice()
	shared := 0
	eachValPair(func(a, b impl.Val) {
		steps := pick(d, lists)
		join, meet, wide := impl.ValJoin(a, b), impl.ValMeet(a, b), impl.ValWiden(a, b, steps)
		for _, v := range append(numbersOfVal(a), numbersOfVal(b)...) {
			if !impl.ValHas(join, v) {
				t.Errorf("ValJoin(%v, %v) is %v, without %d", a, b, join, v)
			}
			if !impl.ValHas(wide, v) {
				t.Errorf("ValWiden(%v, %v, %v) is %v, without %d", a, b, steps, wide, v)
			}
			if impl.ValHas(a, v) && impl.ValHas(b, v) {
				shared++
				if !impl.ValHas(meet, v) {
					t.Errorf("ValMeet(%v, %v) is %v, without %d", a, b, meet, v)
				}
			}
		}
	})
	if shared == 0 {
		t.Error("no two vals have a number in common")
	}
}

// Of small vals ValMeet has no more than both have.
func TestPromise32MeetHasNoMore(t *testing.T) {
	vals := valsOf(window(-6, 9), restsUpTo(5))
	for _, a := range vals {
		for _, b := range vals {
			meet := impl.ValMeet(a, b)
			for v := -8; v <= 11; v++ {
				if both := hasVal(a, v) && hasVal(b, v); both != hasVal(meet, v) {
					t.Fatalf("ValMeet(%v, %v) is %v: have both %d: %v", a, b, meet, v, both)
				}
			}
		}
	}
}

func TestPromise32ComparisonsLoseNothing(t *testing.T) {
	met := map[int]int{}
	eachValPair(func(a, b impl.Val) {
		for _, cmp := range allCmps() {
			x, y := impl.ValCmp(cmp, a, b)
			for _, v := range numbersOfVal(a) {
				for _, u := range numbersOfVal(b) {
					if !impl.NumCmp(cmp, v, u) {
						continue
					}
					met[cmp]++
					if !impl.ValHas(x, v) || !impl.ValHas(y, u) {
						t.Errorf("ValCmp(%d, %v, %v) leaves %v and %v, without %d or %d", cmp, a, b, x, y, v, u)
					}
				}
			}
		}
	})
	if len(met) != len(allCmps()) {
		t.Errorf("comparisons that hold, so often: %v", met)
	}
}

// Of vals of one number on either side a comparison leaves just those of which it holds, or nothing.
func TestPromise32ComparisonsOfNumbersAlone(t *testing.T) {
	list := numSamples()
	for _, a := range list {
		for _, b := range list {
			for _, cmp := range allCmps() {
				x, y := alone(a), alone(b)
				if !impl.NumCmp(cmp, a, b) {
					x, y = noVal(), noVal()
				}
				checkValCmp(t, []cmpCase{{cmp, alone(a), alone(b), x, y}})
			}
		}
	}
}

func TestPromise33EitherWayRound(t *testing.T) {
	eachValPair(func(a, b impl.Val) {
		if impl.ValJoin(a, b) != impl.ValJoin(b, a) {
			t.Errorf("%v and %v are joined as %v, and as %v", a, b, impl.ValJoin(a, b), impl.ValJoin(b, a))
		}
		for _, op := range []int{impl.OpAdd, impl.OpMul} {
			made, faults := impl.ValDo(op, a, b)
			if other, otherFaults := impl.ValDo(op, b, a); made != other || !slices.Equal(faults, otherFaults) {
				t.Errorf("ValDo(%d, %v, %v) is %v and %v, turned about %v and %v", op, a, b, made, faults, other, otherFaults)
			}
		}
		for _, cmp := range allCmps() {
			x, y := impl.ValCmp(cmp, a, b)
			if turnedY, turnedX := impl.ValCmp(impl.CmpTurn(cmp), b, a); x != turnedX || y != turnedY {
				t.Errorf("ValCmp(%d, %v, %v) leaves %v and %v, turned about %v and %v", cmp, a, b, x, y, turnedX, turnedY)
			}
		}
	})
}

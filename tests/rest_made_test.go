package tests

import (
	"testing"

	"loop.example/sedge/impl"
)

// eachRestPair hands each two rests of a list over.
func eachRestPair(list []impl.Rest, f func(a, b impl.Rest)) {
	for _, a := range list {
		for _, b := range list {
			f(a, b)
		}
	}
}

func TestRestHasSecondReading(t *testing.T) {
	numbers := append(numSamples(), wrongNumbers()...)
	for _, a := range manyRests() {
		for _, v := range numbers {
			if impl.RestHas(a, v) != hasRest(a, v) {
				t.Errorf("RestHas(%v, %d) is %v", a, v, !hasRest(a, v))
			}
		}
		for _, v := range numbersOfRest(a) {
			if !impl.RestHas(a, v) {
				t.Errorf("RestHas(%v, %d) is false", a, v)
			}
		}
	}
}

// A rest is in another one just when its numbers are; these are told by a few numbers, as rests are as wide as all.
func TestRestInSecondReading(t *testing.T) {
	met := map[bool]int{}
	eachRestPair(manyRests(), func(a, b impl.Rest) {
		in := true
		for _, v := range numbersOfRest(a) {
			in = in && hasRest(b, v)
		}
		met[in]++
		if impl.RestIn(a, b) != in {
			t.Errorf("RestIn(%v, %v) is %v", a, b, !in)
		}
	})
	if met[true] == 0 || met[false] == 0 {
		t.Errorf("in and not in, so often: %v", met)
	}
}

func TestRestJoinSecondReading(t *testing.T) {
	eachRestPair(manyRests(), func(a, b impl.Rest) {
		if join := impl.RestJoin(a, b); join != judgeRestJoin(a, b) {
			t.Errorf("RestJoin(%v, %v) is %v, not %v", a, b, join, judgeRestJoin(a, b))
		}
	})
}

func TestRestMeetSecondReading(t *testing.T) {
	eachRestPair(manyRests(), func(a, b impl.Rest) {
		meet, some := impl.RestMeet(a, b)
		if want, wantSome := judgeRestMeet(a, b); meet != want || some != wantSome {
			t.Errorf("RestMeet(%v, %v) is %v and %v, not %v and %v", a, b, meet, some, want, wantSome)
		}
	})
}

func TestRestDoSecondReading(t *testing.T) {
	eachRestPair(manyRests(), func(a, b impl.Rest) {
		for _, op := range allOps() {
			if made := impl.RestDo(op, a, b); made != judgeRestDo(op, a, b) {
				t.Errorf("RestDo(%d, %v, %v) is %v, not %v", op, a, b, made, judgeRestDo(op, a, b))
			}
		}
	})
}

// Of small rests no rest is told that is wider than what their numbers around 0 make.
func TestRestDoOfNumbersAround0(t *testing.T) {
	ops := []int{impl.OpAdd, impl.OpSub, impl.OpMul}
	around := func(a impl.Rest) []int {
		var list []int
		for v := -40; v <= 40; v++ {
			if hasRest(a, v) {
				list = append(list, v)
			}
		}
		return list
	}
	eachRestPair(smallRests(), func(a, b impl.Rest) {
		for _, op := range ops {
			var made []int
			for _, x := range around(a) {
				for _, y := range around(b) {
					v, _ := wanted(op, x, y)
					made = append(made, v)
				}
			}
			least := just(made[0])
			for _, v := range made {
				least = judgeRestJoin(least, just(v))
			}
			if told := impl.RestDo(op, a, b); told != least {
				t.Errorf("RestDo(%d, %v, %v) is %v, but their numbers make %v", op, a, b, told, least)
			}
		}
	})
}

// checkRestHeld asks that each number that an operator makes of numbers of two rests is in the rest that is told.
func checkRestHeld(t *testing.T, op int, a, b impl.Rest) int {
	t.Helper()
	made, met := impl.RestDo(op, a, b), 0
	if !impl.RestOk(made) {
		t.Errorf("RestDo(%d, %v, %v) is %v, which is not ok", op, a, b, made)
	}
	for _, x := range numbersOfRest(a) {
		for _, y := range numbersOfRest(b) {
			v, fault := impl.NumDo(op, x, y)
			if fault != 0 {
				continue
			}
			met++
			if !impl.RestHas(made, v) {
				t.Errorf("RestDo(%d, %v, %v) is %v, but %d and %d make %d", op, a, b, made, x, y, v)
			}
		}
	}
	return met
}

func TestPromise28WhatAnOperatorMakesLeavesWhatIsTold(t *testing.T) {
	for _, op := range allOps() {
		met, list := 0, manyRests()
		d := newDice()
		for range 1500 {
			met += checkRestHeld(t, op, pick(d, list), pick(d, list))
		}
		if met == 0 {
			t.Errorf("operator %d makes no number", op)
		}
	}
}

// Of a rest by single numbers more is told than of two rests; there is a shift by each number of places.
func TestPromise28OfOneSingleNumber(t *testing.T) {
	for _, a := range greatRests() {
		for v := -2; v <= 34; v++ {
			for _, op := range allOps() {
				checkRestHeld(t, op, a, just(v))
				checkRestHeld(t, op, just(v), a)
			}
		}
	}
}

func TestPromise28OfSingleNumbers(t *testing.T) {
	eachPair(allOps(), func(op, a, b int) {
		made := impl.RestDo(op, just(a), just(b))
		want := allRest()
		if v, fault := impl.NumDo(op, a, b); fault == 0 {
			want = just(v)
		}
		if made != want {
			t.Errorf("RestDo(%d, %d alone, %d alone) is %v, not %v", op, a, b, made, want)
		}
	})
}

func TestPromise29JoinHasWhatBothHave(t *testing.T) {
	eachRestPair(manyRests(), func(a, b impl.Rest) {
		join := impl.RestJoin(a, b)
		if !impl.RestOk(join) || !impl.RestIn(a, join) || !impl.RestIn(b, join) {
			t.Errorf("RestJoin(%v, %v) is %v", a, b, join)
		}
		for _, v := range append(numbersOfRest(a), numbersOfRest(b)...) {
			if !impl.RestHas(join, v) {
				t.Errorf("RestJoin(%v, %v) is %v, which has no %d", a, b, join, v)
			}
		}
	})
}

// A number that both have is in what is told; and with false there is none.
func TestPromise29MeetHasWhatBothHaveAtOnce(t *testing.T) {
	met := map[bool]int{}
	eachRestPair(manyRests(), func(a, b impl.Rest) {
		meet, some := impl.RestMeet(a, b)
		met[some]++
		if some && !impl.RestOk(meet) || !some && meet != rs(0, 0) {
			t.Errorf("RestMeet(%v, %v) is %v and %v", a, b, meet, some)
		}
		for _, v := range append(numbersOfRest(a), numbersOfRest(b)...) {
			if impl.RestHas(a, v) && impl.RestHas(b, v) && !(some && impl.RestHas(meet, v)) {
				t.Errorf("RestMeet(%v, %v) is %v and %v, but both have %d", a, b, meet, some, v)
			}
		}
	})
	if met[true] == 0 || met[false] == 0 {
		t.Errorf("true and false, so often: %v", met)
	}
}

// Of small rests all numbers in a row are asked: what is told has just those that both have.
func TestPromise29MeetHasNoMore(t *testing.T) {
	eachRestPair(smallRests(), func(a, b impl.Rest) {
		meet, some := impl.RestMeet(a, b)
		for v := -100; v <= 100; v++ {
			if both := impl.RestHas(a, v) && impl.RestHas(b, v); both != (some && impl.RestHas(meet, v)) {
				t.Errorf("RestMeet(%v, %v) is %v and %v: has both %d: %v", a, b, meet, some, v, both)
			}
		}
	})
}

// Where the least common number is far off, it is still found: divisors that have nothing in common.
func TestPromise29MeetOfFarNumbers(t *testing.T) {
	for _, p := range [][2]int{{255, 257}, {256, 255}, {3, 21845}, {7, 9362}, {2, 32767}, {181, 362}, {65535, 1}, {250, 262}} {
		for a := 0; a < p[0]; a += 1 + p[0]/17 {
			for b := 0; b < p[1]; b += 1 + p[1]/19 {
				meet, some := impl.RestMeet(rs(p[0], a), rs(p[1], b))
				want, wantSome := judgeRestMeet(rs(p[0], a), rs(p[1], b))
				if meet != want || some != wantSome {
					t.Errorf("RestMeet of %d at %d and %d at %d is %v and %v, not %v and %v", p[0], a, p[1], b, meet, some, want, wantSome)
				}
			}
		}
	}
}

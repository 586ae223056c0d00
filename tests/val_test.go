package tests

import (
	"slices"
	"testing"

	"loop.example/sedge/impl"
)

// makeCase is what ValMake must tell.
type makeCase struct {
	a    impl.Range
	b    impl.Rest
	made impl.Val
}

func checkValMake(t *testing.T, cases []makeCase) {
	t.Helper()
	for _, c := range cases {
		if made := impl.ValMake(c.a, c.b); made != c.made {
			t.Errorf("ValMake(%v, %v) is %v, not %v", c.a, c.b, made, c.made)
		}
	}
}

func TestValMakeOfSome(t *testing.T) {
	checkValMake(t, []makeCase{
		{rg(1, 20), rs(6, 4), vl(4, 16, 6, 4)}, {rg(4, 16), rs(6, 4), vl(4, 16, 6, 4)}, {rg(4, 21), rs(6, 4), vl(4, 16, 6, 4)}, {rg(-1, 16), rs(6, 4), vl(4, 16, 6, 4)},
		{rg(4, 22), rs(6, 4), vl(4, 22, 6, 4)}, {rg(-2, 16), rs(6, 4), vl(-2, 16, 6, 4)}, {rg(3, 17), rs(6, 4), vl(4, 16, 6, 4)},
		// Below 0, and on either side of it.
		{rg(-20, -1), rs(6, 4), vl(-20, -2, 6, 4)}, {rg(-19, -3), rs(6, 4), vl(-14, -8, 6, 4)}, {rg(-5, 5), rs(3, 2), vl(-4, 5, 3, 2)}, {rg(-3, 3), rs(2, 0), vl(-2, 2, 2, 0)},
		{rg(-3, 3), rs(2, 1), vl(-3, 3, 2, 1)}, {rg(-9, -1), rs(4, 3), vl(-9, -1, 4, 3)}, {rg(-10, 0), rs(4, 3), vl(-9, -1, 4, 3)},
		// Mod 1, and Mod RestMax.
		{rg(3, 9), allRest(), vl(3, 9, 1, 0)}, {rg(-1, 0), allRest(), vl(-1, 0, 1, 0)}, {allNumbers(), allRest(), allVal()}, {rg(low, low+1), allRest(), vl(low, low+1, 1, 0)},
		{rg(high-1, high), allRest(), vl(high-1, high, 1, 0)}, {rg(0, 65536), rs(65536, 0), vl(0, 65536, 65536, 0)}, {rg(-65536, 65536), rs(65536, 0), vl(-65536, 65536, 65536, 0)},
		{rg(-65537, 131071), rs(65536, 0), vl(-65536, 65536, 65536, 0)}, {rg(-65537, 131071), rs(65536, 65535), vl(-65537, 131071, 65536, 65535)},
		{allNumbers(), rs(65536, 0), vl(low, high-65535, 65536, 0)}, {allNumbers(), rs(65536, 65535), vl(low+65535, high, 65536, 65535)}, {allNumbers(), rs(65536, 1), vl(low+1, high-65534, 65536, 1)},
		{allNumbers(), rs(65535, 0), vl(low+32768, high-32767, 65535, 0)}, {rg(low, -1), rs(65536, 65535), vl(low+65535, -1, 65536, 65535)},
		// At the ends of numbers.
		{allNumbers(), rs(3, 0), vl(low+2, high-1, 3, 0)}, {allNumbers(), rs(3, 1), vl(low, high, 3, 1)}, {allNumbers(), rs(3, 2), vl(low+1, high-2, 3, 2)},
		{allNumbers(), rs(2, 0), vl(low, high-1, 2, 0)}, {rg(low, low+5), rs(3, 1), vl(low, low+3, 3, 1)}, {rg(high-5, high), rs(3, 1), vl(high-3, high, 3, 1)},
	})
}

func TestValMakeOfOne(t *testing.T) {
	checkValMake(t, []makeCase{
		// At the least end, at the greatest one, and between them.
		{rg(4, 9), rs(6, 4), alone(4)}, {rg(5, 10), rs(6, 4), alone(10)}, {rg(5, 12), rs(6, 4), alone(10)}, {rg(10, 10), rs(6, 4), alone(10)}, {rg(9, 11), rs(6, 4), alone(10)},
		{rg(-2, 3), rs(6, 4), alone(-2)}, {rg(-7, -2), rs(6, 4), alone(-2)}, {rg(-5, -1), rs(6, 4), alone(-2)}, {rg(-1, 0), rs(2, 0), alone(0)}, {rg(-1, 0), rs(2, 1), alone(-1)},
		{rg(low, low+5), rs(6, 4), alone(low)}, {rg(high-5, high), rs(6, 1), alone(high)}, {rg(low, low+65535), rs(65536, 0), alone(low)}, {rg(high-65535, high), rs(65536, 65535), alone(high)},
		{rg(-65535, 65535), rs(65536, 0), alone(0)}, {rg(1, 65536), rs(65536, 0), alone(65536)}, {rg(0, 65535), rs(65536, 0), alone(0)},
		{rg(7, 7), allRest(), alone(7)}, {rg(0, 0), allRest(), alone(0)}, {rg(low, low), allRest(), alone(low)}, {rg(high, high), allRest(), alone(high)},
		// Of Mod 0.
		{rg(1, 9), just(1), alone(1)}, {rg(1, 9), just(9), alone(9)}, {rg(1, 9), just(5), alone(5)}, {rg(5, 5), just(5), alone(5)}, {rg(0, 0), just(0), alone(0)},
		{rg(-9, -1), just(-9), alone(-9)}, {rg(-9, -1), just(-1), alone(-1)}, {allNumbers(), just(low), alone(low)}, {allNumbers(), just(high), alone(high)}, {allNumbers(), just(0), alone(0)},
	})
}

func TestValMakeOfNone(t *testing.T) {
	checkValMake(t, []makeCase{
		{noRange(), allRest(), noVal()}, {noRange(), rs(6, 4), noVal()}, {noRange(), rs(65536, 0), noVal()}, {noRange(), just(0), noVal()}, {noRange(), just(1), noVal()}, {noRange(), just(5), noVal()},
		{rg(5, 9), rs(6, 4), noVal()}, {rg(-1, 3), rs(6, 4), noVal()}, {rg(0, 0), rs(2, 1), noVal()}, {rg(-7, -3), rs(6, 4), noVal()}, {rg(low+1, low+1), rs(2, 0), noVal()}, {rg(high, high), rs(2, 0), noVal()},
		{rg(low, low+65534), rs(65536, 65535), noVal()}, {rg(low+1, low+65535), rs(65536, 0), noVal()}, {rg(high-65534, high), rs(65536, 0), noVal()}, {rg(1, 65535), rs(65536, 0), noVal()},
		{rg(1, 9), just(0), noVal()}, {rg(1, 9), just(10), noVal()}, {rg(1, 9), just(-5), noVal()}, {rg(-9, -1), just(0), noVal()}, {rg(low+1, high), just(low), noVal()}, {rg(low, high-1), just(high), noVal()},
	})
	for _, wrong := range wrongRanges() {
		for _, b := range []impl.Rest{allRest(), rs(6, 4), rs(65536, 0), just(0), just(1), just(wrong.Lo), just(wrong.Hi), rs(3, 5)} {
			checkValMake(t, []makeCase{{wrong, b, noVal()}})
		}
	}
	for _, wrong := range wrongRests() {
		for _, a := range []impl.Range{noRange(), allNumbers(), rg(0, 0), rg(1, 20), rg(low, low), rg(high, high), rg(wrong.At, wrong.At)} {
			checkValMake(t, []makeCase{{a, wrong, noVal()}})
		}
	}
}

func TestValOk(t *testing.T) {
	edges := []impl.Val{noVal(), {}, alone(0), alone(1), alone(-1), alone(low), alone(high), allVal(), vl(4, 16, 6, 4), vl(4, 10, 6, 4), vl(0, 1, 1, 0), vl(-2, 4, 6, 4),
		vl(-5, -2, 3, 1), vl(low, high-65535, 65536, 0), vl(low+65535, high, 65536, 65535), vl(0, 65536, 65536, 0), vl(low, high, 3, 1)}
	for _, a := range slices.Concat(edges, smallVals(), greatVals()) {
		if !impl.ValOk(a) {
			t.Errorf("ValOk(%v) is false", a)
		}
	}
	for _, a := range wrongVals() {
		if impl.ValOk(a) {
			t.Errorf("ValOk(%v) is true", a)
		}
	}
}

func TestValHas(t *testing.T) {
	cases := []struct {
		a   impl.Val
		v   int
		has bool
	}{
		{vl(4, 16, 6, 4), 4, true}, {vl(4, 16, 6, 4), 10, true}, {vl(4, 16, 6, 4), 16, true}, {vl(4, 16, 6, 4), 9, false}, {vl(4, 16, 6, 4), 22, false}, {vl(4, 16, 6, 4), -2, false},
		{vl(4, 16, 6, 4), 5, false}, {vl(4, 16, 6, 4), 15, false}, {vl(-5, 4, 3, 1), -2, true}, {vl(-5, 4, 3, 1), 1, true}, {vl(-5, 4, 3, 1), -1, false}, {vl(-5, 4, 3, 1), -8, false},
		{alone(7), 7, true}, {alone(7), 6, false}, {alone(7), 8, false}, {alone(0), 0, true}, {alone(low), low, true}, {alone(low), low + word, false}, {alone(high), high, true}, {alone(high), -1, false},
		{allVal(), 0, true}, {allVal(), low, true}, {allVal(), high, true}, {allVal(), low - 1, false}, {allVal(), high + 1, false},
		{noVal(), 0, false}, {noVal(), 1, false}, {noVal(), -1, false}, {noVal(), low, false}, {noVal(), high, false},
		{vl(low, high-65535, 65536, 0), low, true}, {vl(low, high-65535, 65536, 0), high - 65535, true}, {vl(low, high-65535, 65536, 0), high + 1, false}, {vl(low, high-65535, 65536, 0), 65535, false},
	}
	for _, c := range cases {
		if impl.ValHas(c.a, c.v) != c.has {
			t.Errorf("ValHas(%v, %d) is %v", c.a, c.v, !c.has)
		}
	}
}

func TestValIn(t *testing.T) {
	few := vl(4, 16, 6, 4)
	cases := []struct {
		a, b impl.Val
		in   bool
	}{
		{noVal(), noVal(), true}, {noVal(), allVal(), true}, {noVal(), alone(0), true}, {noVal(), alone(1), true}, {noVal(), alone(5), true}, {noVal(), few, true}, {allVal(), noVal(), false},
		{alone(0), noVal(), false}, {alone(1), noVal(), false}, {few, noVal(), false},
		{few, few, true}, {allVal(), allVal(), true}, {alone(4), alone(4), true}, {alone(4), alone(5), false}, {alone(low), alone(high), false}, {few, allVal(), true}, {allVal(), few, false},
		{alone(5), allVal(), true}, {allVal(), alone(5), false}, {alone(4), few, true}, {alone(10), few, true}, {alone(16), few, true}, {alone(9), few, false}, {alone(22), few, false}, {few, alone(10), false},
		{few, vl(-2, 16, 6, 4), true}, {few, vl(4, 22, 6, 4), true}, {few, vl(4, 16, 3, 1), true}, {few, vl(4, 16, 2, 0), true}, {few, vl(1, 19, 3, 1), true}, {few, vl(4, 16, 1, 0), true},
		// The ranges are within, and the rests are not.
		{vl(4, 16, 3, 1), few, false}, {vl(4, 16, 1, 0), few, false}, {vl(5, 11, 6, 5), few, false}, {few, vl(0, 20, 4, 0), false}, {few, vl(4, 16, 12, 4), false}, {vl(5, 7, 1, 0), vl(4, 8, 2, 0), false},
		// The rests are within, and the ranges are not.
		{few, vl(10, 16, 6, 4), false}, {few, vl(4, 10, 6, 4), false}, {few, vl(10, 22, 6, 4), false}, {few, vl(22, 28, 6, 4), false}, {vl(4, 16, 12, 4), vl(4, 10, 6, 4), false}, {few, vl(7, 13, 3, 1), false},
		{vl(4, 16, 12, 4), few, true}, {vl(low, high-65535, 65536, 0), allVal(), true}, {vl(low, high-65535, 65536, 0), vl(low, high-1, 2, 0), true}, {vl(low, high-65535, 65536, 0), vl(low+1, high, 2, 1), false},
	}
	for _, c := range cases {
		if impl.ValIn(c.a, c.b) != c.in {
			t.Errorf("ValIn(%v, %v) is %v", c.a, c.b, !c.in)
		}
	}
}

func TestValJoin(t *testing.T) {
	few := vl(4, 16, 6, 4)
	cases := []struct{ a, b, join impl.Val }{
		{alone(2), alone(8), vl(2, 8, 6, 2)}, {alone(3), alone(3), alone(3)}, {alone(-3), alone(9), vl(-3, 9, 12, 9)}, {alone(0), alone(1), vl(0, 1, 1, 0)}, {alone(-1), alone(1), vl(-1, 1, 2, 1)},
		{alone(low), alone(high), allVal()}, {alone(low), alone(0), vl(low, 0, 65536, 0)}, {alone(0), alone(65536), vl(0, 65536, 65536, 0)}, {alone(0), alone(65537), vl(0, 65537, 1, 0)},
		{few, alone(22), vl(4, 22, 6, 4)}, {few, alone(-2), vl(-2, 16, 6, 4)}, {few, alone(1), vl(1, 16, 3, 1)}, {few, alone(10), few}, {few, alone(9), vl(4, 16, 1, 0)}, {few, alone(8), vl(4, 16, 2, 0)},
		{few, vl(0, 20, 4, 0), vl(0, 20, 2, 0)}, {few, vl(5, 9, 4, 1), vl(4, 16, 1, 0)}, {vl(-8, -2, 6, 4), few, vl(-8, 16, 6, 4)}, {few, few, few}, {few, allVal(), allVal()}, {allVal(), allVal(), allVal()},
		{noVal(), noVal(), noVal()}, {noVal(), few, few}, {noVal(), alone(3), alone(3)}, {noVal(), alone(1), alone(1)}, {noVal(), alone(0), alone(0)}, {noVal(), allVal(), allVal()},
	}
	for _, c := range cases {
		for _, p := range [][2]impl.Val{{c.a, c.b}, {c.b, c.a}} {
			if join := impl.ValJoin(p[0], p[1]); join != c.join {
				t.Errorf("ValJoin(%v, %v) is %v, not %v", p[0], p[1], join, c.join)
			}
		}
	}
}

func TestValMeet(t *testing.T) {
	few, far := vl(4, 16, 6, 4), vl(5, 131077, 65536, 5)
	cases := []struct{ a, b, meet impl.Val }{
		{few, vl(-50, 50, 4, 2), alone(10)}, {few, vl(0, 12, 4, 0), alone(4)}, {vl(0, 100, 4, 0), vl(0, 96, 6, 0), vl(0, 96, 12, 0)}, {vl(1, 97, 4, 1), vl(3, 99, 6, 3), vl(9, 93, 12, 9)},
		{few, few, few}, {few, allVal(), few}, {allVal(), allVal(), allVal()}, {few, vl(10, 22, 6, 4), vl(10, 16, 6, 4)}, {few, vl(16, 22, 6, 4), alone(16)}, {vl(-9, 9, 1, 0), vl(-8, 8, 4, 0), vl(-8, 8, 4, 0)},
		{alone(5), alone(5), alone(5)}, {alone(5), alone(6), noVal()}, {alone(10), few, alone(10)}, {alone(9), few, noVal()}, {alone(22), few, noVal()}, {alone(low), allVal(), alone(low)}, {alone(high), allVal(), alone(high)},
		// The rests do not meet.
		{few, vl(1, 19, 6, 1), noVal()}, {vl(0, 20, 4, 0), vl(1, 19, 2, 1), noVal()}, {few, vl(5, 9, 4, 1), noVal()},
		// The ranges do not meet.
		{few, vl(22, 40, 6, 4), noVal()}, {few, vl(-14, -2, 6, 4), noVal()}, {vl(0, 3, 1, 0), vl(4, 9, 1, 0), noVal()},
		// Both meet, and no number is left.
		{vl(0, 4, 4, 0), vl(2, 8, 6, 2), noVal()}, {vl(0, 5, 5, 0), vl(1, 9, 2, 1), alone(5)}, {vl(0, 10, 10, 0), vl(2, 9, 7, 2), noVal()}, {vl(-10, 0, 10, 0), vl(-9, -2, 7, 5), noVal()},
		// Their divisors together are above RestMax.
		{far, vl(1, 299998, 3, 1), far}, {far, vl(1, 70000, 3, 1), vl(5, 65541, 65536, 5)}, {far, vl(1, 100, 3, 1), alone(5)}, {far, vl(10, 100, 3, 1), noVal()},
		{noVal(), noVal(), noVal()}, {noVal(), few, noVal()}, {noVal(), allVal(), noVal()}, {noVal(), alone(0), noVal()}, {noVal(), alone(1), noVal()},
	}
	for _, c := range cases {
		for _, p := range [][2]impl.Val{{c.a, c.b}, {c.b, c.a}} {
			if meet := impl.ValMeet(p[0], p[1]); meet != c.meet {
				t.Errorf("ValMeet(%v, %v) is %v, not %v", p[0], p[1], meet, c.meet)
			}
		}
	}
}

func TestValWiden(t *testing.T) {
	few := vl(4, 16, 6, 4)
	cases := []struct {
		a, b  impl.Val
		steps []int
		wide  impl.Val
	}{
		{alone(0), vl(0, 1, 1, 0), []int{10}, vl(0, 10, 1, 0)}, {vl(0, 9, 3, 0), alone(10), []int{20}, vl(0, 20, 1, 0)},
		// A step that is no number of the rest, and one that is.
		{alone(0), alone(3), []int{10}, vl(0, 9, 3, 0)}, {alone(0), alone(-3), []int{-10}, vl(-9, 0, 3, 0)}, {alone(0), alone(3), nil, vl(0, high-1, 3, 0)}, {alone(0), alone(-3), nil, vl(low+2, 0, 3, 0)},
		{alone(0), alone(3), []int{3}, vl(0, 3, 3, 0)}, {alone(0), alone(3), []int{2}, vl(0, high-1, 3, 0)}, {alone(0), alone(3), []int{2, 4}, vl(0, 3, 3, 0)}, {alone(3), alone(0), []int{10}, vl(low+2, 3, 3, 0)},
		{alone(0), alone(3), []int{12, 9}, vl(0, 9, 3, 0)}, {few, alone(-2), []int{-5, 100}, vl(-2, 16, 6, 4)}, {few, vl(-2, 22, 6, 4), []int{-10, 30}, vl(-8, 28, 6, 4)}, {few, vl(-2, 22, 6, 4), []int{-7, 27}, vl(-2, 22, 6, 4)},
		{alone(5), alone(65541), []int{70000}, vl(5, 65541, 65536, 5)}, {alone(5), alone(65541), nil, vl(5, high-65530, 65536, 5)},
		// Nothing grows.
		{vl(0, 3, 3, 0), alone(0), []int{10, -10}, vl(0, 3, 3, 0)}, {alone(5), alone(5), nil, alone(5)}, {few, few, nil, few}, {few, alone(7), []int{-1, 99}, vl(4, 16, 3, 1)}, {allVal(), few, []int{0}, allVal()},
		{noVal(), noVal(), []int{3}, noVal()}, {noVal(), few, []int{3, 20}, few}, {few, noVal(), []int{3, 20}, few}, {noVal(), alone(1), nil, alone(1)}, {alone(0), noVal(), nil, alone(0)},
	}
	for _, c := range cases {
		if wide := impl.ValWiden(c.a, c.b, c.steps); wide != c.wide {
			t.Errorf("ValWiden(%v, %v, %v) is %v, not %v", c.a, c.b, c.steps, wide, c.wide)
		}
	}
}

// valCase is what ValDo must tell.
type valCase struct {
	op     int
	a, b   impl.Val
	made   impl.Val
	faults []int
}

func checkValDo(t *testing.T, cases []valCase) {
	t.Helper()
	for _, c := range cases {
		made, faults := impl.ValDo(c.op, c.a, c.b)
		if made != c.made || !slices.Equal(faults, c.faults) {
			t.Errorf("ValDo(%d, %v, %v) is %v and %v, not %v and %v", c.op, c.a, c.b, made, faults, c.made, c.faults)
		}
	}
}

func TestValDo(t *testing.T) {
	few, fours := vl(4, 16, 6, 4), vl(0, 20, 4, 0)
	checkValDo(t, []valCase{
		{impl.OpAdd, few, alone(1), vl(5, 17, 6, 5), nil}, {impl.OpAdd, few, fours, vl(4, 36, 2, 0), nil}, {impl.OpAdd, alone(2), alone(3), alone(5), nil}, {impl.OpAdd, allVal(), alone(0), allVal(), nil},
		{impl.OpSub, few, few, vl(-12, 12, 6, 0), nil}, {impl.OpSub, alone(1), few, vl(-15, -3, 6, 3), nil}, {impl.OpMul, few, alone(3), vl(12, 48, 18, 12), nil}, {impl.OpMul, few, alone(0), alone(0), nil},
		{impl.OpMul, alone(-1), few, vl(-16, -4, 6, 2), nil}, {impl.OpDiv, fours, alone(2), vl(0, 10, 1, 0), nil}, {impl.OpDiv, fours, alone(30), alone(0), nil}, {impl.OpRem, fours, alone(8), vl(0, 4, 4, 0), nil},
		{impl.OpRem, vl(1, 21, 4, 1), alone(8), vl(1, 5, 4, 1), nil}, {impl.OpRem, vl(5, 17, 4, 1), alone(4), alone(1), nil}, {impl.OpRem, vl(-19, -3, 4, 1), alone(4), alone(-3), nil}, {impl.OpRem, vl(1, 5, 4, 1), alone(6), vl(1, 5, 2, 1), nil},
		{impl.OpAnd, vl(0, 64, 16, 0), alone(7), vl(0, 7, 1, 0), nil}, {impl.OpAnd, alone(12), alone(10), alone(8), nil}, {impl.OpOr, vl(0, 64, 16, 0), alone(1), vl(1, 127, 1, 0), nil}, {impl.OpXor, fours, few, vl(0, 31, 1, 0), nil},
		{impl.OpShl, vl(1, 3, 1, 0), alone(4), vl(16, 48, 16, 0), nil}, {impl.OpShr, vl(0, 64, 16, 0), alone(2), vl(0, 16, 1, 0), nil}, {impl.OpShr, vl(0, 64, 16, 0), alone(31), alone(0), nil},
		{impl.OpWrapAdd, alone(high), alone(1), alone(low), nil}, {impl.OpWrapAdd, vl(1, 13, 12, 1), alone(2), vl(3, 15, 4, 3), nil}, {impl.OpWrapAdd, vl(high-4, high, 4, 3), alone(4), vl(low+3, high, 4, 3), nil},
		{impl.OpWrapSub, vl(low, low+8, 8, 0), alone(4), vl(low+4, high-3, 8, 4), nil}, {impl.OpWrapMul, vl(0, 65536, 65536, 0), alone(65536), vl(low, high-65535, 65536, 0), nil},
	})
}

func TestValDoFaults(t *testing.T) {
	few, fours := vl(4, 16, 6, 4), vl(0, 20, 4, 0)
	checkValDo(t, []valCase{
		{impl.OpAdd, vl(high-12, high, 6, 1), alone(3), vl(high-9, high-3, 6, 4), over}, {impl.OpAdd, vl(high-2, high, 2, 1), alone(1), alone(high - 1), over}, {impl.OpSub, vl(low, low+4, 4, 0), alone(1), alone(low + 3), over},
		{impl.OpDiv, fours, vl(-2, 2, 1, 0), vl(-20, 20, 1, 0), zero}, {impl.OpDiv, vl(low, low+4, 4, 0), alone(-1), vl(high-3, high, 1, 0), over}, {impl.OpDiv, alone(low), vl(-1, 1, 2, 1), allVal(), []int{impl.FaOver, impl.FaZero}},
		{impl.OpShl, vl(1, 5, 4, 1), alone(30), vl(1073741824, high-65535, 65536, 0), over}, {impl.OpShl, alone(1), vl(30, 33, 1, 0), vl(1073741824, high, 1, 0), []int{impl.FaOver, impl.FaShift}},
		{impl.OpMul, vl(-32768, 32768, 65536, 32768), alone(65537), vl(low+32768, high-32767, 65536, 32768), over},
		// No number comes of it.
		{impl.OpAdd, alone(high), alone(1), noVal(), over}, {impl.OpAdd, vl(high-6, high, 6, 1), alone(12), noVal(), over}, {impl.OpSub, alone(low), few, noVal(), over}, {impl.OpMul, alone(65536), vl(32768, 32770, 2, 0), noVal(), over},
		{impl.OpDiv, alone(1), alone(0), noVal(), zero}, {impl.OpDiv, fours, alone(0), noVal(), zero}, {impl.OpDiv, alone(low), alone(-1), noVal(), over}, {impl.OpRem, alone(7), alone(0), noVal(), zero}, {impl.OpRem, few, alone(0), noVal(), zero},
		{impl.OpShl, alone(1), alone(32), noVal(), shift}, {impl.OpShl, few, alone(-1), noVal(), shift}, {impl.OpShl, alone(1), alone(31), noVal(), over}, {impl.OpShl, few, vl(32, 40, 8, 0), noVal(), shift}, {impl.OpShr, few, alone(32), noVal(), shift},
		{impl.OpShr, allVal(), vl(-8, -1, 7, 6), noVal(), shift},
	})
}

// cmpCase is what ValCmp must leave.
type cmpCase struct {
	cmp        int
	a, b, x, y impl.Val
}

func checkValCmp(t *testing.T, cases []cmpCase) {
	t.Helper()
	for _, c := range cases {
		if x, y := impl.ValCmp(c.cmp, c.a, c.b); x != c.x || y != c.y {
			t.Errorf("ValCmp(%d, %v, %v) is %v and %v, not %v and %v", c.cmp, c.a, c.b, x, y, c.x, c.y)
		}
	}
}

func TestValCmpEqual(t *testing.T) {
	few := vl(4, 16, 6, 4)
	far := vl(5, 131077, 65536, 5)
	cases := []struct{ a, b, both impl.Val }{
		{few, vl(0, 12, 4, 0), alone(4)}, {few, few, few}, {few, allVal(), few}, {allVal(), allVal(), allVal()}, {alone(10), few, alone(10)}, {alone(5), alone(5), alone(5)}, {vl(0, 100, 4, 0), vl(0, 96, 6, 0), vl(0, 96, 12, 0)},
		{few, vl(16, 22, 6, 4), alone(16)},
		// Each is sharpened by the other's range ahead of their meeting, so that more is told than of ValMeet alone.
		{far, vl(1, 299998, 3, 1), vl(65541, 131077, 65536, 5)}, {far, vl(1, 70000, 3, 1), alone(65541)}, {far, vl(1, 100, 3, 1), noVal()},
		// The rests do not meet.
		{few, vl(1, 19, 6, 1), noVal()}, {few, vl(5, 9, 4, 1), noVal()}, {alone(9), few, noVal()},
		// Numbers of both are left, but none of them both.
		{vl(0, 4, 4, 0), vl(2, 8, 6, 2), noVal()}, {vl(0, 10, 10, 0), vl(2, 9, 7, 2), noVal()}, {vl(0, 4, 4, 0), vl(-3, 9, 6, 3), noVal()},
		{vl(0, 4, 4, 0), vl(6, 10, 4, 2), noVal()}, {alone(22), few, noVal()}, {alone(4), alone(5), noVal()}, {far, vl(10, 100, 3, 1), noVal()},
	}
	for _, c := range cases {
		checkValCmp(t, []cmpCase{{impl.CmpEq, c.a, c.b, c.both, c.both}, {impl.CmpEq, c.b, c.a, c.both, c.both}})
	}
}

func TestValCmpOthers(t *testing.T) {
	fives, ones := vl(0, 10, 5, 0), vl(1, 9, 4, 1)
	checkValCmp(t, []cmpCase{
		// One number, at an end, beside it and elsewhere.
		{impl.CmpNe, fives, alone(10), vl(0, 5, 5, 0), alone(10)}, {impl.CmpNe, fives, alone(0), vl(5, 10, 5, 0), alone(0)}, {impl.CmpNe, fives, alone(9), fives, alone(9)}, {impl.CmpNe, fives, alone(11), fives, alone(11)},
		{impl.CmpNe, fives, alone(1), fives, alone(1)}, {impl.CmpNe, fives, alone(-1), fives, alone(-1)}, {impl.CmpNe, fives, alone(5), fives, alone(5)}, {impl.CmpNe, fives, alone(99), fives, alone(99)},
		{impl.CmpNe, vl(0, 5, 5, 0), alone(5), alone(0), alone(5)}, {impl.CmpNe, alone(5), vl(0, 5, 5, 0), alone(5), alone(0)}, {impl.CmpNe, alone(0), vl(0, 5, 5, 0), alone(0), alone(5)}, {impl.CmpNe, fives, fives, fives, fives},
		{impl.CmpNe, alone(3), alone(4), alone(3), alone(4)}, {impl.CmpNe, alone(low), allVal(), alone(low), vl(low+1, high, 1, 0)}, {impl.CmpNe, allVal(), alone(high), vl(low, high-1, 1, 0), alone(high)},
		{impl.CmpLt, fives, ones, vl(0, 5, 5, 0), ones}, {impl.CmpLt, fives, alone(5), alone(0), alone(5)}, {impl.CmpLt, fives, alone(6), vl(0, 5, 5, 0), alone(6)}, {impl.CmpLt, ones, fives, ones, vl(5, 10, 5, 0)},
		{impl.CmpLt, alone(5), fives, alone(5), alone(10)}, {impl.CmpLt, allVal(), allVal(), vl(low, high-1, 1, 0), vl(low+1, high, 1, 0)}, {impl.CmpLt, fives, alone(99), fives, alone(99)},
		{impl.CmpLe, fives, alone(5), vl(0, 5, 5, 0), alone(5)}, {impl.CmpLe, fives, vl(-6, 3, 3, 0), alone(0), vl(0, 3, 3, 0)}, {impl.CmpLe, ones, alone(8), vl(1, 5, 4, 1), alone(8)}, {impl.CmpLe, allVal(), allVal(), allVal(), allVal()},
		{impl.CmpGt, fives, alone(5), alone(10), alone(5)}, {impl.CmpGt, fives, ones, vl(5, 10, 5, 0), ones}, {impl.CmpGt, fives, alone(4), vl(5, 10, 5, 0), alone(4)}, {impl.CmpGt, alone(5), fives, alone(5), alone(0)},
		{impl.CmpGe, fives, alone(5), vl(5, 10, 5, 0), alone(5)}, {impl.CmpGe, fives, alone(6), alone(10), alone(6)}, {impl.CmpGe, ones, fives, ones, vl(0, 5, 5, 0)}, {impl.CmpGe, alone(9), ones, alone(9), ones},
		// Comparisons that never hold.
		{impl.CmpEq, alone(3), alone(4), noVal(), noVal()}, {impl.CmpNe, alone(3), alone(3), noVal(), noVal()}, {impl.CmpLt, vl(5, 15, 5, 0), alone(5), noVal(), noVal()}, {impl.CmpLt, alone(5), alone(5), noVal(), noVal()},
		{impl.CmpLe, alone(6), alone(5), noVal(), noVal()}, {impl.CmpLe, vl(10, 20, 5, 0), ones, noVal(), noVal()}, {impl.CmpGt, alone(5), alone(5), noVal(), noVal()}, {impl.CmpGt, fives, vl(10, 20, 5, 0), noVal(), noVal()},
		{impl.CmpGe, alone(4), alone(5), noVal(), noVal()}, {impl.CmpGe, ones, vl(10, 20, 5, 0), noVal(), noVal()}, {impl.CmpLt, allVal(), alone(low), noVal(), noVal()}, {impl.CmpGt, alone(low), allVal(), noVal(), noVal()},
	})
}

// checkNoVals asks for none, and no faults, of all operators and comparisons.
func checkNoVals(t *testing.T, a, b impl.Val) {
	t.Helper()
	for _, op := range append(allOps(), wrongOps()...) {
		checkValDo(t, []valCase{{op, a, b, noVal(), nil}})
	}
	for _, cmp := range append(allCmps(), wrongCmps()...) {
		checkValCmp(t, []cmpCase{{cmp, a, b, noVal(), noVal()}})
	}
}

func TestValNoneMakesNothing(t *testing.T) {
	for _, a := range []impl.Val{noVal(), allVal(), alone(0), alone(1), vl(4, 16, 6, 4)} {
		checkNoVals(t, a, noVal())
		checkNoVals(t, noVal(), a)
	}
}

func TestValWrongSides(t *testing.T) {
	some := []impl.Val{noVal(), allVal(), alone(0), alone(1), alone(low), alone(high), vl(4, 16, 6, 4)}
	for _, wrong := range wrongVals() {
		for _, v := range []int{low, -2, -1, 0, 1, 3, 4, 5, 10, 16, high, wrong.Lo, wrong.Hi, wrong.At} {
			if impl.ValHas(wrong, v) {
				t.Errorf("ValHas(%v, %d) is true", wrong, v)
			}
		}
		for _, other := range slices.Concat(some, wrongVals()) {
			checkWrongVals(t, wrong, other)
			checkWrongVals(t, other, wrong)
		}
	}
}

func checkWrongVals(t *testing.T, a, b impl.Val) {
	t.Helper()
	if impl.ValIn(a, b) {
		t.Errorf("ValIn(%v, %v) is true", a, b)
	}
	if join := impl.ValJoin(a, b); join != noVal() {
		t.Errorf("ValJoin(%v, %v) is %v", a, b, join)
	}
	if meet := impl.ValMeet(a, b); meet != noVal() {
		t.Errorf("ValMeet(%v, %v) is %v", a, b, meet)
	}
	for _, steps := range [][]int{nil, {0, 20, -20}} {
		if wide := impl.ValWiden(a, b, steps); wide != noVal() {
			t.Errorf("ValWiden(%v, %v, %v) is %v", a, b, steps, wide)
		}
	}
	checkNoVals(t, a, b)
}

func TestValNoOperatorOrComparison(t *testing.T) {
	for _, a := range []impl.Val{allVal(), alone(0), alone(7), vl(4, 16, 6, 4)} {
		for _, b := range []impl.Val{allVal(), alone(0), alone(7), alone(-1), vl(4, 16, 6, 4)} {
			for _, op := range wrongOps() {
				checkValDo(t, []valCase{{op, a, b, noVal(), nil}})
			}
			for _, cmp := range wrongCmps() {
				checkValCmp(t, []cmpCase{{cmp, a, b, noVal(), noVal()}})
			}
		}
	}
}

// What is told is new memory each time, and steps are only read, spare room included.
func TestValMemory(t *testing.T) {
	ask := func() []int {
		_, faults := impl.ValDo(impl.OpDiv, allVal(), allVal())
		return faults
	}
	first, second := ask(), ask()
	for i := range first[:cap(first)] {
		first[:cap(first)][i] = 99
	}
	if want := []int{impl.FaOver, impl.FaZero}; !slices.Equal(second, want) || !slices.Equal(ask(), want) {
		t.Errorf("ValDo tells %v and %v behind what was written into its answer", second, ask())
	}
	room := []int{10, -7, 10, word, 3, 77, 78}
	impl.ValWiden(vl(0, 1, 1, 0), vl(-5, 5, 1, 0), room[:5])
	if !slices.Equal(room, []int{10, -7, 10, word, 3, 77, 78}) {
		t.Errorf("ValWiden wrote into its steps: %v", room)
	}
}

package tests

import (
	"math"
	"slices"
	"testing"

	"loop.example/sedge/impl"
)

func TestRestMax(t *testing.T) {
	if impl.RestMax != 65536 {
		t.Error("RestMax", impl.RestMax)
	}
}

func TestRestOk(t *testing.T) {
	edges := []impl.Rest{just(0), just(1), just(-1), just(low), just(high), just(impl.RestMax + 1), allRest(), rs(2, 0), rs(2, 1),
		rs(65535, 0), rs(65535, 65534), rs(impl.RestMax, 0), rs(impl.RestMax, impl.RestMax-1)}
	for _, a := range slices.Concat(edges, manyRests()) {
		if !impl.RestOk(a) {
			t.Errorf("RestOk(%v) is false", a)
		}
	}
	for _, a := range wrongRests() {
		if impl.RestOk(a) {
			t.Errorf("RestOk(%v) is true", a)
		}
	}
}

func TestRestHas(t *testing.T) {
	cases := []struct {
		a   impl.Rest
		v   int
		has bool
	}{
		{just(7), 7, true}, {just(7), 6, false}, {just(7), -7, false}, {just(0), 0, true}, {just(0), 1, false},
		{just(low), low, true}, {just(low), low + 1, false}, {just(low), low + word, false}, {just(high), high, true}, {just(high), -1, false},
		{allRest(), 0, true}, {allRest(), low, true}, {allRest(), high, true}, {allRest(), -1, true},
		{allRest(), low - 1, false}, {allRest(), high + 1, false}, {allRest(), math.MinInt, false}, {allRest(), math.MaxInt, false},
		{rs(3, 1), 1, true}, {rs(3, 1), 4, true}, {rs(3, 1), -2, true}, {rs(3, 1), -5, true}, {rs(3, 1), 0, false}, {rs(3, 1), -1, false},
		{rs(3, 0), 0, true}, {rs(3, 0), -3, true}, {rs(3, 0), 3, true}, {rs(3, 2), -1, true}, {rs(3, 2), 1, false},
		{rs(2, 0), low, true}, {rs(2, 1), high, true}, {rs(2, 1), low, false}, {rs(2, 0), word, false}, {rs(2, 0), -word, false},
		{rs(impl.RestMax, 0), low, true}, {rs(impl.RestMax, 65535), high, true}, {rs(impl.RestMax, 65535), -1, true},
		{rs(impl.RestMax, 0), 65536, true}, {rs(impl.RestMax, 0), 65535, false}, {rs(65535, 65534), -1, true},
		{rs(3, 4), 4, false}, {rs(3, -2), -2, false}, {rs(3, 3), 0, false}, {rs(impl.RestMax+1, 5), 5, false}, {rs(-3, 0), 0, false},
		{rs(-3, 1), 1, false}, {just(high + 1), high + 1, false}, {just(word), 0, false}, {just(low - 1), low - 1, false},
	}
	for _, c := range cases {
		if impl.RestHas(c.a, c.v) != c.has {
			t.Errorf("RestHas(%v, %d) is %v", c.a, c.v, !c.has)
		}
	}
}

func TestRestIn(t *testing.T) {
	cases := []struct {
		a, b impl.Rest
		in   bool
	}{
		{just(7), just(7), true}, {just(7), just(6), false}, {just(0), just(0), true}, {just(low), just(low), true}, {just(low), just(high), false},
		{rs(1, 0), just(0), false}, {rs(3, 1), just(1), false}, {rs(impl.RestMax, 0), just(0), false}, {just(-65536), just(0), false},
		{just(7), rs(3, 1), true}, {just(7), rs(3, 0), false}, {just(-7), rs(3, 2), true}, {just(-7), rs(3, 1), false}, {just(0), rs(3, 0), true},
		{just(low), rs(impl.RestMax, 0), true}, {just(high), rs(impl.RestMax, 65535), true}, {just(high), rs(impl.RestMax, 0), false},
		{just(low), allRest(), true}, {just(high), allRest(), true}, {allRest(), allRest(), true}, {rs(2, 0), allRest(), true}, {allRest(), rs(2, 0), false},
		{rs(6, 4), rs(3, 1), true}, {rs(6, 4), rs(2, 0), true}, {rs(6, 4), rs(3, 0), false}, {rs(6, 4), rs(2, 1), false}, {rs(6, 4), rs(6, 4), true},
		{rs(6, 4), rs(6, 3), false}, {rs(3, 1), rs(6, 4), false}, {rs(3, 1), rs(6, 1), false}, {rs(6, 4), rs(4, 0), false}, {rs(6, 0), rs(4, 0), false},
		{rs(9, 1), rs(6, 1), false}, {rs(9, 1), rs(3, 1), true}, {rs(impl.RestMax, 65535), rs(256, 255), true}, {rs(impl.RestMax, 0), rs(65535, 0), false},
	}
	for _, c := range cases {
		if impl.RestIn(c.a, c.b) != c.in {
			t.Errorf("RestIn(%v, %v) is %v", c.a, c.b, !c.in)
		}
	}
}

func TestRestJoin(t *testing.T) {
	cases := []struct{ a, b, join impl.Rest }{
		{just(5), just(5), just(5)}, {just(0), just(0), just(0)}, {just(low), just(low), just(low)}, {just(high), just(high), just(high)},
		{just(3), just(9), rs(6, 3)}, {just(-3), just(9), rs(12, 9)}, {just(0), just(1), allRest()}, {just(-1), just(1), rs(2, 1)},
		{just(0), just(7), rs(7, 0)}, {just(-7), just(0), rs(7, 0)}, {just(-5), just(-8), rs(3, 1)},
		// Numbers that stand RestMax apart, and further.
		{just(0), just(65535), rs(65535, 0)}, {just(0), just(65536), rs(65536, 0)}, {just(0), just(65537), allRest()}, {just(0), just(65538), rs(2, 0)},
		{just(-1), just(65535), rs(65536, 65535)}, {just(-1), just(-65537), rs(65536, 65535)}, {just(5), just(5 + 3*65536), rs(65536, 5)},
		{just(5), just(5 + 3*32768), rs(32768, 5)}, {just(low), just(0), rs(65536, 0)}, {just(low), just(high), allRest()}, {just(high), just(-1), rs(65536, 65535)},
		{just(5), rs(4, 1), rs(4, 1)}, {just(6), rs(4, 1), allRest()}, {just(7), rs(4, 1), rs(2, 1)}, {just(-3), rs(4, 1), rs(4, 1)}, {just(-1), rs(4, 1), rs(2, 1)},
		{just(low), rs(65536, 0), rs(65536, 0)}, {just(high), rs(65536, 0), allRest()}, {just(high), rs(65535, 65534), allRest()},
		{rs(4, 1), rs(6, 3), rs(2, 1)}, {rs(4, 1), rs(4, 1), rs(4, 1)}, {rs(4, 1), rs(4, 3), rs(2, 1)}, {rs(4, 1), rs(4, 2), allRest()},
		{rs(4, 1), rs(8, 1), rs(4, 1)}, {rs(6, 5), rs(9, 2), rs(3, 2)}, {rs(5, 2), rs(7, 2), allRest()}, {allRest(), rs(4, 1), allRest()}, {allRest(), allRest(), allRest()},
		{rs(65536, 65535), rs(65536, 0), allRest()}, {rs(65536, 65535), rs(65536, 65535), rs(65536, 65535)}, {rs(65536, 32768), rs(65536, 0), rs(32768, 0)},
	}
	for _, c := range cases {
		for _, p := range [][2]impl.Rest{{c.a, c.b}, {c.b, c.a}} {
			if join := impl.RestJoin(p[0], p[1]); join != c.join {
				t.Errorf("RestJoin(%v, %v) is %v, not %v", p[0], p[1], join, c.join)
			}
		}
	}
}

// restMeetCase is what RestMeet must tell, whichever of them comes first.
type restMeetCase struct {
	a, b, meet impl.Rest
	some       bool
}

func TestRestMeet(t *testing.T) {
	no := rs(0, 0)
	cases := []restMeetCase{
		{just(5), just(5), just(5), true}, {just(5), just(6), no, false}, {just(0), just(0), just(0), true}, {just(0), just(1), no, false},
		{just(low), just(low), just(low), true}, {just(low), just(high), no, false},
		{just(7), rs(3, 1), just(7), true}, {just(7), rs(3, 2), no, false}, {just(-7), rs(3, 2), just(-7), true}, {just(-7), rs(3, 1), no, false},
		{just(0), rs(3, 0), just(0), true}, {just(0), rs(3, 1), no, false}, {just(high), rs(65536, 65535), just(high), true},
		{just(low), rs(65536, 1), no, false}, {just(low), allRest(), just(low), true}, {just(high), allRest(), just(high), true},
		{rs(4, 1), rs(6, 3), rs(12, 9), true}, {rs(4, 1), rs(6, 2), no, false}, {rs(2, 0), rs(2, 1), no, false}, {rs(4, 1), rs(8, 5), rs(8, 5), true},
		{rs(4, 1), rs(8, 3), no, false}, {rs(3, 2), rs(5, 4), rs(15, 14), true}, {rs(3, 0), rs(5, 0), rs(15, 0), true}, {rs(3, 1), rs(5, 0), rs(15, 10), true},
		{rs(6, 4), rs(10, 8), rs(30, 28), true}, {rs(4, 1), rs(4, 1), rs(4, 1), true}, {rs(4, 1), rs(4, 3), no, false},
		{allRest(), rs(4, 3), rs(4, 3), true}, {allRest(), allRest(), allRest(), true}, {allRest(), rs(65536, 65535), rs(65536, 65535), true},
		// The product at RestMax.
		{rs(65536, 65535), rs(65536, 65535), rs(65536, 65535), true}, {rs(65536, 0), rs(65536, 32768), no, false}, {rs(65536, 65535), rs(256, 255), rs(65536, 65535), true},
		{rs(65536, 0), rs(32768, 0), rs(65536, 0), true}, {rs(65536, 32769), rs(32768, 1), rs(65536, 32769), true}, {rs(65536, 1), rs(32768, 0), no, false},
		{rs(255, 254), rs(257, 256), rs(65535, 65534), true}, {rs(255, 0), rs(257, 256), rs(65535, 255*129), true}, {rs(255, 254), rs(257, 0), rs(65535, 257*127), true},
		// Above it, with one Mod the greater one.
		{rs(65536, 5), rs(3, 1), rs(65536, 5), true}, {rs(256, 3), rs(257, 9), rs(257, 9), true}, {rs(65535, 7), rs(65536, 8), rs(65536, 8), true},
		{rs(65536, 0), rs(49152, 0), rs(65536, 0), true}, {rs(65536, 1), rs(49152, 0), no, false}, {rs(32768, 0), rs(3, 2), rs(32768, 0), true},
		{rs(21846, 1), rs(4, 3), rs(43692, 21847), true}, {rs(32769, 1), rs(2, 0), rs(32769, 1), true}, {rs(32768, 1), rs(65535, 0), rs(65535, 0), true},
	}
	for _, c := range cases {
		for _, p := range [][2]impl.Rest{{c.a, c.b}, {c.b, c.a}} {
			if meet, some := impl.RestMeet(p[0], p[1]); meet != c.meet || some != c.some {
				t.Errorf("RestMeet(%v, %v) is %v and %v, not %v and %v", p[0], p[1], meet, some, c.meet, c.some)
			}
		}
	}
}

// restCase is what RestDo must tell.
type restCase struct {
	op   int
	a, b impl.Rest
	made impl.Rest
}

func checkRestDo(t *testing.T, cases []restCase) {
	t.Helper()
	for _, c := range cases {
		if made := impl.RestDo(c.op, c.a, c.b); made != c.made {
			t.Errorf("RestDo(%d, %v, %v) is %v, not %v", c.op, c.a, c.b, made, c.made)
		}
	}
}

func TestRestDoOfSingleNumbers(t *testing.T) {
	all := allRest()
	checkRestDo(t, []restCase{
		{impl.OpAdd, just(2), just(3), just(5)}, {impl.OpAdd, just(high), just(1), all}, {impl.OpAdd, just(high), just(low), just(-1)},
		{impl.OpSub, just(2), just(3), just(-1)}, {impl.OpSub, just(low), just(1), all}, {impl.OpSub, just(0), just(low), all}, {impl.OpSub, just(-1), just(low), just(high)},
		{impl.OpMul, just(-2), just(3), just(-6)}, {impl.OpMul, just(65536), just(32768), all}, {impl.OpMul, just(65536), just(-32768), just(low)}, {impl.OpMul, just(0), just(high), just(0)},
		{impl.OpDiv, just(7), just(-2), just(-3)}, {impl.OpDiv, just(7), just(0), all}, {impl.OpDiv, just(low), just(-1), all}, {impl.OpDiv, just(0), just(0), all},
		{impl.OpRem, just(-7), just(2), just(-1)}, {impl.OpRem, just(-7), just(0), all}, {impl.OpRem, just(low), just(-1), just(0)}, {impl.OpRem, just(0), just(0), all},
		{impl.OpAnd, just(12), just(10), just(8)}, {impl.OpOr, just(12), just(10), just(14)}, {impl.OpXor, just(12), just(10), just(6)}, {impl.OpXor, just(low), just(high), just(-1)},
		{impl.OpShl, just(3), just(4), just(48)}, {impl.OpShl, just(3), just(0), just(3)}, {impl.OpShl, just(-1), just(31), just(low)}, {impl.OpShl, just(1), just(31), all},
		{impl.OpShl, just(0), just(31), just(0)}, {impl.OpShl, just(0), just(32), all}, {impl.OpShl, just(0), just(-1), all},
		{impl.OpShr, just(-5), just(1), just(-3)}, {impl.OpShr, just(5), just(31), just(0)}, {impl.OpShr, just(5), just(32), all}, {impl.OpShr, just(5), just(-1), all},
		{impl.OpWrapAdd, just(high), just(1), just(low)}, {impl.OpWrapSub, just(low), just(1), just(high)}, {impl.OpWrapMul, just(high), just(high), just(1)},
		{impl.OpWrapMul, just(65536), just(65536), just(0)}, {impl.OpWrapAdd, just(2), just(3), just(5)}, {impl.OpWrapSub, just(2), just(3), just(-1)},
	})
}

func TestRestDoSums(t *testing.T) {
	checkRestDo(t, []restCase{
		{impl.OpAdd, rs(4, 1), rs(6, 3), rs(2, 0)}, {impl.OpAdd, rs(4, 3), rs(4, 3), rs(4, 2)}, {impl.OpAdd, rs(4, 3), just(9), rs(4, 0)}, {impl.OpAdd, just(-9), rs(4, 3), rs(4, 2)},
		{impl.OpAdd, just(low), rs(65536, 65535), rs(65536, 65535)}, {impl.OpAdd, just(high), rs(65535, 65534), rs(65535, 32766)}, {impl.OpAdd, rs(5, 1), rs(7, 1), allRest()},
		{impl.OpAdd, rs(65536, 65535), rs(65536, 65535), rs(65536, 65534)}, {impl.OpAdd, allRest(), just(5), allRest()}, {impl.OpAdd, rs(3, 1), just(1), rs(3, 2)},
		{impl.OpSub, just(1), rs(5, 2), rs(5, 4)}, {impl.OpSub, rs(5, 2), just(1), rs(5, 1)}, {impl.OpSub, rs(5, 2), just(4), rs(5, 3)}, {impl.OpSub, rs(4, 1), rs(6, 3), rs(2, 0)},
		{impl.OpSub, rs(4, 1), rs(4, 3), rs(4, 2)}, {impl.OpSub, just(low), rs(3, 2), rs(3, 2)}, {impl.OpSub, rs(3, 2), just(low), rs(3, 1)}, {impl.OpSub, rs(4, 1), rs(4, 1), rs(4, 0)},
		{impl.OpSub, rs(65536, 0), rs(65536, 65535), rs(65536, 1)}, {impl.OpSub, allRest(), allRest(), allRest()},
		// Of what is wrapped only powers of two stay.
		{impl.OpWrapAdd, rs(3, 1), just(1), allRest()}, {impl.OpWrapAdd, rs(12, 7), just(2), rs(4, 1)}, {impl.OpWrapAdd, rs(12, 7), rs(8, 2), rs(4, 1)},
		{impl.OpWrapAdd, rs(65536, 65535), just(high), rs(65536, 65534)}, {impl.OpWrapAdd, rs(65535, 1), just(1), allRest()}, {impl.OpWrapAdd, just(-7), rs(65534, 0), rs(2, 1)},
		{impl.OpWrapSub, rs(12, 1), just(3), rs(4, 2)}, {impl.OpWrapSub, just(1), rs(12, 3), rs(4, 2)}, {impl.OpWrapSub, rs(5, 2), just(1), allRest()}, {impl.OpWrapSub, rs(65536, 0), just(low), rs(65536, 0)},
	})
}

func TestRestDoProducts(t *testing.T) {
	checkRestDo(t, []restCase{
		{impl.OpMul, rs(4, 1), just(6), rs(24, 6)}, {impl.OpMul, just(6), rs(4, 1), rs(24, 6)}, {impl.OpMul, rs(4, 1), just(-6), rs(24, 18)}, {impl.OpMul, allRest(), just(7), rs(7, 0)},
		{impl.OpMul, rs(4, 1), rs(6, 3), rs(6, 3)}, {impl.OpMul, rs(4, 2), rs(6, 3), rs(12, 6)}, {impl.OpMul, rs(4, 0), rs(6, 0), rs(24, 0)}, {impl.OpMul, rs(5, 1), rs(5, 4), rs(5, 4)},
		{impl.OpMul, rs(6, 3), just(-5), rs(30, 15)}, {impl.OpMul, allRest(), allRest(), allRest()}, {impl.OpMul, rs(3, 1), just(1), rs(3, 1)}, {impl.OpMul, rs(3, 1), just(-1), rs(3, 2)},
		// All of what they stand apart is 0.
		{impl.OpMul, rs(4, 1), just(0), just(0)}, {impl.OpMul, just(0), rs(4, 1), just(0)}, {impl.OpMul, allRest(), just(0), just(0)}, {impl.OpMul, just(0), allRest(), just(0)},
		{impl.OpMul, rs(4, 0), just(0), just(0)}, {impl.OpMul, just(0), rs(4, 0), just(0)}, {impl.OpMul, rs(65536, 65535), just(0), just(0)},
		{impl.OpWrapMul, rs(4, 1), just(0), just(0)}, {impl.OpWrapMul, just(0), rs(4, 1), just(0)}, {impl.OpWrapMul, rs(4, 0), just(0), just(0)}, {impl.OpWrapMul, just(0), allRest(), just(0)},
		// Above RestMax.
		{impl.OpMul, rs(65536, 1), just(2), rs(65536, 2)}, {impl.OpMul, rs(65536, 65535), just(-1), rs(65536, 1)}, {impl.OpMul, rs(65536, 0), just(high), rs(65536, 0)},
		{impl.OpMul, rs(3, 1), just(65536), rs(65536, 0)}, {impl.OpMul, rs(3, 1), just(32768), rs(32768, 0)}, {impl.OpMul, rs(2, 1), just(32768), rs(65536, 32768)},
		{impl.OpMul, rs(257, 5), just(256), rs(256, 0)}, {impl.OpMul, rs(65536, 65535), just(low), rs(65536, 0)}, {impl.OpMul, rs(65535, 65534), just(high), allRest()},
		{impl.OpMul, rs(256, 0), rs(256, 0), rs(65536, 0)}, {impl.OpMul, rs(65536, 0), rs(65536, 0), rs(65536, 0)}, {impl.OpMul, rs(255, 0), rs(257, 0), rs(65535, 0)},
		{impl.OpMul, rs(1, 0), just(65536), rs(65536, 0)}, {impl.OpMul, rs(1, 0), just(65537), allRest()}, {impl.OpMul, rs(1, 0), just(65538), rs(2, 0)},

		{impl.OpWrapMul, rs(4, 1), just(6), rs(8, 6)}, {impl.OpWrapMul, rs(4, 1), just(-6), rs(8, 2)}, {impl.OpWrapMul, rs(3, 1), just(5), allRest()}, {impl.OpWrapMul, rs(3, 1), just(8), rs(8, 0)},
		{impl.OpWrapMul, rs(65536, 0), rs(65536, 0), rs(65536, 0)}, {impl.OpWrapMul, rs(65536, 0), just(high), rs(65536, 0)}, {impl.OpWrapMul, rs(4, 2), rs(6, 3), rs(4, 2)},
		{impl.OpWrapMul, rs(3, 2), just(low), rs(65536, 0)}, {impl.OpWrapMul, rs(4, 0), rs(6, 0), rs(8, 0)},
	})
}

func TestRestDoShifts(t *testing.T) {
	all := allRest()
	checkRestDo(t, []restCase{
		{impl.OpShl, allRest(), just(3), rs(8, 0)}, {impl.OpShl, rs(3, 1), just(0), rs(3, 1)}, {impl.OpShl, rs(3, 1), just(1), rs(6, 2)}, {impl.OpShl, rs(3, 2), just(14), rs(49152, 32768)},
		{impl.OpShl, rs(3, 2), just(15), rs(32768, 0)}, {impl.OpShl, rs(3, 2), just(16), rs(65536, 0)}, {impl.OpShl, rs(3, 2), just(31), rs(65536, 0)}, {impl.OpShl, allRest(), just(31), rs(65536, 0)},
		{impl.OpShl, rs(1, 0), just(16), rs(65536, 0)}, {impl.OpShl, rs(2, 1), just(15), rs(65536, 32768)}, {impl.OpShl, rs(65536, 65535), just(0), rs(65536, 65535)},
		{impl.OpShl, rs(65536, 65535), just(1), rs(65536, 65534)}, {impl.OpShl, rs(65536, 65535), just(31), rs(65536, 0)}, {impl.OpShl, rs(65535, 65534), just(31), rs(65536, 0)},
		{impl.OpShl, rs(65535, 65534), just(1), rs(2, 0)},
		{impl.OpShl, rs(4, 0), just(-1), all}, {impl.OpShl, rs(4, 0), just(32), all}, {impl.OpShl, rs(4, 0), just(low), all}, {impl.OpShl, rs(4, 0), just(high), all}, {impl.OpShl, rs(4, 0), just(64), all},
		{impl.OpShl, rs(4, 0), rs(4, 0), all}, {impl.OpShl, rs(4, 0), rs(4, 1), all}, {impl.OpShl, rs(4, 0), rs(65536, 2), all}, {impl.OpShl, just(4), rs(4, 1), all}, {impl.OpShl, just(0), rs(32, 1), all}, {impl.OpShl, just(4), allRest(), all},
	})
}

func TestRestDoRemainders(t *testing.T) {
	all := allRest()
	checkRestDo(t, []restCase{
		{impl.OpRem, rs(6, 5), just(4), rs(2, 1)}, {impl.OpRem, rs(6, 5), just(-4), rs(2, 1)}, {impl.OpRem, rs(6, 5), just(12), rs(6, 5)}, {impl.OpRem, rs(6, 5), just(0), rs(6, 5)},
		{impl.OpRem, rs(6, 5), just(5), all}, {impl.OpRem, rs(6, 5), just(1), all}, {impl.OpRem, rs(6, 0), rs(4, 0), rs(2, 0)}, {impl.OpRem, rs(6, 4), rs(9, 6), rs(3, 1)}, {impl.OpRem, rs(6, 4), rs(9, 1), all},
		{impl.OpRem, just(7), rs(4, 0), rs(4, 3)}, {impl.OpRem, just(-7), rs(4, 0), rs(4, 1)}, {impl.OpRem, just(-7), rs(4, 2), rs(2, 1)}, {impl.OpRem, just(-7), rs(4, 1), all}, {impl.OpRem, just(-1), rs(65536, 0), rs(65536, 65535)},
		{impl.OpRem, just(low), rs(65536, 0), rs(65536, 0)}, {impl.OpRem, just(high), rs(65535, 0), rs(65535, 32767)}, {impl.OpRem, just(0), rs(4, 0), rs(4, 0)}, {impl.OpRem, just(0), rs(4, 2), rs(2, 0)},
		{impl.OpRem, allRest(), just(8), all}, {impl.OpRem, just(8), allRest(), all}, {impl.OpRem, allRest(), just(0), all}, {impl.OpRem, rs(65536, 65535), just(low), rs(65536, 65535)}, {impl.OpRem, rs(4, 3), just(low), rs(4, 3)},
		{impl.OpRem, rs(65535, 65534), just(high), all},
	})
}

func TestRestDoThatTellsAll(t *testing.T) {
	for _, op := range []int{impl.OpDiv, impl.OpAnd, impl.OpOr, impl.OpXor, impl.OpShr} {
		for _, a := range []impl.Rest{rs(4, 0), rs(1, 0), rs(65536, 65535), just(0), just(1), just(8), just(low)} {
			for _, b := range []impl.Rest{rs(4, 0), rs(1, 0), rs(65536, 65535), just(0), just(1), just(2), just(-1), just(32)} {
				if a.Mod == 0 && b.Mod == 0 {
					continue
				}
				if made := impl.RestDo(op, a, b); made != allRest() {
					t.Errorf("RestDo(%d, %v, %v) is %v", op, a, b, made)
				}
			}
		}
	}
}

// Of single numbers something would be told, if an operator that is none were let through.
func TestRestNoOperator(t *testing.T) {
	for _, op := range wrongOps() {
		for _, a := range []impl.Rest{just(0), just(7), rs(4, 0), rs(65536, 65535)} {
			for _, b := range []impl.Rest{just(0), just(7), just(-1), rs(4, 0), rs(65536, 65535)} {
				if made := impl.RestDo(op, a, b); made != allRest() {
					t.Errorf("RestDo(%d, %v, %v) is %v", op, a, b, made)
				}
			}
		}
	}
}

// What is not ok has nothing, is in nothing, and tells nothing of what stands beside it.
func TestRestWrongSides(t *testing.T) {
	others := slices.Concat([]impl.Rest{allRest(), just(0), just(1), just(low), just(high), rs(3, 1), rs(65536, 0)}, wrongRests())
	for _, wrong := range wrongRests() {
		for _, v := range []int{low, -3, -1, 0, 1, 3, 4, 5, 65536, high, wrong.At, wrong.Mod} {
			if impl.RestHas(wrong, v) {
				t.Errorf("RestHas(%v, %d) is true", wrong, v)
			}
		}
		for _, other := range others {
			checkWrongRests(t, wrong, other)
			checkWrongRests(t, other, wrong)
		}
	}
}

func checkWrongRests(t *testing.T, a, b impl.Rest) {
	t.Helper()
	if impl.RestIn(a, b) {
		t.Errorf("RestIn(%v, %v) is true", a, b)
	}
	if join := impl.RestJoin(a, b); join != allRest() {
		t.Errorf("RestJoin(%v, %v) is %v", a, b, join)
	}
	if meet, some := impl.RestMeet(a, b); meet != rs(0, 0) || some {
		t.Errorf("RestMeet(%v, %v) is %v and %v", a, b, meet, some)
	}
	for _, op := range append(allOps(), wrongOps()...) {
		if made := impl.RestDo(op, a, b); made != allRest() {
			t.Errorf("RestDo(%d, %v, %v) is %v", op, a, b, made)
		}
	}
}

// A number that is none is nowhere, not even where it leaves what it must.
func TestRestHasNoWrongNumber(t *testing.T) {
	for _, v := range wrongNumbers() {
		for _, a := range append(manyRests(), just(v)) {
			if impl.RestHas(a, v) {
				t.Errorf("RestHas(%v, %d) is true", a, v)
			}
		}
	}
}

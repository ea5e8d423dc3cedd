package check

import (
	"math"
	"testing"

	"carling/api"
)

// num, over, space, let, loop are a number, an expression of parts, and statements, with nothing in them that Weight does not look at.
func num() api.Expr               { return api.Expr{Kind: api.ENum} }
func over(l ...api.Expr) api.Expr { return api.Expr{Kind: api.EBin, L: l} }
func space(n int) api.Stmt        { return api.Stmt{Kind: api.SNew, Type: api.Type{Len: n}} }
func let(x api.Expr) api.Stmt     { return api.Stmt{Kind: api.SLet, E: x} }
func loop(from, to int, l ...api.Stmt) api.Stmt {
	return api.Stmt{Kind: api.SFor, From: from, To: to, Body: l}
}

// weighs asks for the weight of a function of these statements and that Result.
func weighs(t *testing.T, want int, x api.Expr, l ...api.Stmt) {
	t.Helper()
	f := api.Func{Body: l, Result: x}
	if n := Weight(f); n != want {
		t.Errorf("Weight(%+v): %d; not %d", f, n, want)
	}
}

// P5.1: functions as they stand in texts, of each kind of statement and of expression, alone and within one another.
func TestWeightOfTexts(t *testing.T) {
	for s, want := range map[string]int{
		"(ret 1)": 2, "(ret x)": 2, "(ret (at t 0))": 3, "(ret (+ 1 2))": 4, "(ret (sel 1 2 3))": 5, "(ret (call g))": 2, "(ret (call b.g 1))": 3, "(ret (call b.g 1 2 3 4 5 6))": 8,
		"(ret (+ (+ 1 2) 3))": 6, "(ret (+ 1 (+ 2 3)))": 6, "(ret (sel (at t 0) (+ 1 2) (call g (- 1 x))))": 11, "(ret (at t (+ 1 2)))": 5,
		"(let y 1) (ret 1)": 4, "(let y (+ 1 2)) (ret 1)": 6, "(set x 1) (ret 1)": 4, "(set x (at t i)) (ret 1)": 5, "(let y 1) (set x (+ y 1)) (ret (+ x y))": 10,
		"(put t 0 1) (ret 1)": 4, "(put t (+ 1 (+ 2 3)) 1) (ret 1)": 4, "(put t i (at t 0)) (ret 1)": 5,
		"(new t pub 1) (ret 1)": 3, "(new t sec 16) (ret 1)": 18, "(new t pub 5) (new u pub 6) (ret 1)": 13,
		"(for i 0 1) (ret 1)": 2, "(for i 0 64) (ret 1)": 2, "(for i 0 1 (let x 1)) (ret 1)": 4, "(for i 0 5 (let x 1)) (ret 1)": 12, "(for i 3 5 (let x 1)) (ret 1)": 6, "(for i 5 5 (let x 1)) (ret 1)": 2, "(for i 6 5 (let x 1)) (ret 1)": 2, "(for i 64 0 (let x 1)) (ret 1)": 2, "(for i 1 4 (let x (+ i 1))) (ret 1)": 14,
		"(for i 0 3 (let x 1) (new t pub 4)) (ret 1)": 20, "(for i 0 3 (for j 0 4 (let x 1))) (ret 1)": 26, "(for i 0 3 (for j 0 4 (let x 1)) (let y 1)) (ret 1)": 32, "(for i 0 3 (for j 4 4 (let x 1)) (let y 1)) (ret 1)": 8, "(for i 3 0 (for j 0 4 (let x 1))) (ret 1)": 2,
		"(if 1 () ()) (ret 1)": 6, "(if (+ 1 2) () ()) (ret 1)": 8, "(if 1 ((let x 1)) ()) (ret 1)": 8, "(if 1 () ((new t pub 7))) (ret 1)": 13, "(if 1 ((let x 1)) ((let y (+ 1 1)))) (ret 1)": 12, "(if 1 ((if 2 () ())) ((if 3 () ()))) (ret 1)": 14,
		"(for i 0 10 (if 1 ((for j 0 2 (set x 1))) ((put t 0 x)))) (ret 1)": 102, "(if x ((for i 0 10 (let y (sel 1 2 3)))) ()) (ret 1)": 56,
	} {
		if n := Weight(read(t, "(unit a) (fn f ((x pub) (t sec 16)) sec "+s+")").Funcs[0]); n != want {
			t.Errorf("Weight of %s: %d; not %d", s, n, want)
		}
	}
}

// P5.1: whatever a function is: kinds that are none, parts that are missing, or too many.
func TestWeightOfAnything(t *testing.T) {
	weighs(t, 2, api.Expr{})
	if n := Weight(api.Func{}); n != 2 {
		t.Errorf("of nothing: %d", n)
	}
	if n := Weight(api.Func{Name: "No name", Params: make([]api.Param, 99), Sec: true}); n != 2 {
		t.Errorf("of a name and parameters alone: %d", n)
	}
	for kind := -2; kind < 12; kind++ {
		weighs(t, 2, api.Expr{Kind: kind, N: 7, Op: 99, Name: "x"})
		weighs(t, 3, api.Expr{Kind: kind, L: make([]api.Expr, 1)})
		weighs(t, 12, api.Expr{Kind: kind, L: make([]api.Expr, 10)})
		weighs(t, 5, api.Expr{Kind: kind, L: []api.Expr{{Kind: kind, L: []api.Expr{{Kind: kind, L: make([]api.Expr, 1)}}}}})
	}
	for _, kind := range []int{-1, 0, 7, 8, 100, math.MaxInt, math.MinInt} {
		s := api.Stmt{Kind: kind, Name: "x", Type: api.Type{Len: 9}, From: 0, To: 9, Index: num(), E: num(), Body: []api.Stmt{let(num())}, Else: []api.Stmt{let(num())}}
		weighs(t, 2, num(), s)
		weighs(t, 4, num(), s, let(num()), s)
	}
	// Of each kind those parts that count, and none of the others.
	full := api.Stmt{Name: "x", Type: api.Type{Len: 100}, From: 1, To: 4, Index: over(num(), num(), num()), E: over(num()), Body: []api.Stmt{space(10)}, Else: []api.Stmt{space(1000)}}
	for kind, want := range map[int]int{api.SLet: 3, api.SSet: 3, api.SPut: 3, api.SNew: 100, api.SFor: 30, api.SIf: 1015} {
		full.Kind = kind
		weighs(t, 2+want, num(), full)
		weighs(t, 2+5*want, num(), loop(0, 5, full))
		weighs(t, 2+3*want, num(), full, full, full)
	}
	for kind, want := range map[int]int{api.SLet: 2, api.SSet: 2, api.SPut: 2, api.SNew: 0, api.SFor: 0, api.SIf: 4} {
		weighs(t, 2+want, num(), api.Stmt{Kind: kind})
	}
}

// P5.1: an SNew of a Len below 0, and of great ones.
func TestWeightOfLens(t *testing.T) {
	for n, want := range map[int]int{0: 2, 1: 3, 16: 18, 17: 19, -1: 2, -2: 2, -16: 2, math.MinInt: 2, 999997: 999999, 999998: 1000000, 999999: 1000000, 1000000: 1000000, 1000001: 1000000, math.MaxInt32: 1000000, math.MaxInt - 1: 1000000, math.MaxInt: 1000000} {
		weighs(t, want, num(), space(n))
		weighs(t, want, num(), space(0), space(n), space(-7))
		weighs(t, min(want+5, 1000000), num(), space(n), space(5))
		weighs(t, 2, num(), loop(0, 0, space(n)))
	}
	weighs(t, 1000000, num(), space(math.MaxInt), space(math.MaxInt), space(math.MaxInt))
	weighs(t, 1000000, num(), api.Stmt{Kind: api.SIf, E: num(), Body: []api.Stmt{space(math.MaxInt)}, Else: []api.Stmt{space(math.MaxInt)}}, space(math.MaxInt))
}

// P5.1: loops of any From and To, also such as are further from one another than an int holds.
func TestWeightOfRounds(t *testing.T) {
	for _, c := range []struct{ from, to, want int }{
		{0, 0, 2}, {0, 1, 3}, {0, -1, 2}, {-1, 0, 3}, {-5, 5, 12}, {5, -5, 2}, {-7, -4, 5}, {-4, -7, 2}, {0, 65, 67}, {0, 1000, 1002},
		{0, 999997, 999999}, {0, 999998, 1000000}, {0, 999999, 1000000}, {0, 1000000, 1000000}, {0, 1000001, 1000000}, {0, math.MaxInt, 1000000}, {-1, math.MaxInt, 1000000}, {math.MinInt, math.MaxInt, 1000000}, {math.MinInt, 0, 1000000}, {math.MinInt, -1, 1000000}, {math.MinInt, math.MinInt + 9, 11}, {math.MaxInt - 9, math.MaxInt, 11}, {math.MaxInt, math.MinInt, 2}, {math.MaxInt, math.MaxInt, 2}, {math.MinInt, math.MinInt, 2}, {math.MaxInt, 0, 2}, {0, math.MinInt, 2},
	} {
		weighs(t, c.want, num(), loop(c.from, c.to, space(1)))
		weighs(t, 2, num(), loop(c.from, c.to))
		weighs(t, 2, num(), loop(c.from, c.to, space(0), loop(1, 0, let(num()))))
		weighs(t, 2, num(), loop(3, 3, loop(c.from, c.to, space(1))))
	}
	weighs(t, 1000000, num(), loop(math.MinInt, math.MaxInt, space(math.MaxInt)))
	weighs(t, 1000000, num(), loop(0, math.MaxInt, loop(0, math.MaxInt, loop(0, math.MaxInt, space(2)))))
}

// P5.1: just below, at and above 1000000, of each thing that sums up.
func TestWeightAtMost(t *testing.T) {
	for extra, want := range map[int]int{-2: 999998, -1: 999999, 0: 1000000, 1: 1000000, 2: 1000000, 100: 1000000} {
		weighs(t, want, num(), space(999998+extra))
		weighs(t, want, num(), loop(0, 999998+extra, space(1)))
		weighs(t, want, num(), loop(0, 100, space(9999)), space(98+extra))
		weighs(t, want, num(), space(98+extra), loop(0, 100, loop(0, 99, loop(0, 101, space(1)))))
		weighs(t, want, over(make([]api.Expr, 999998+extra)...))
		weighs(t, want, num(), let(over(make([]api.Expr, 999996+extra)...)))
		weighs(t, want, num(), api.Stmt{Kind: api.SIf, E: num(), Body: []api.Stmt{space(500000)}, Else: []api.Stmt{space(499994 + extra)}})
		weighs(t, want, num(), api.Stmt{}, space(999998+extra), api.Stmt{})
	}
	// What counts as 1000000 does so within others, too, and 0 times.
	weighs(t, 1000000, num(), loop(0, 2, space(600000)), loop(0, 2, space(600000)))
	weighs(t, 2, num(), loop(2, 2, loop(0, 2, space(600000))))
	weighs(t, 1000000, over(over(make([]api.Expr, 600000)...), over(make([]api.Expr, 600000)...)), loop(0, 2, space(600000)))
	weighs(t, 1000000, over(make([]api.Expr, 1200000)...))
}

// P5.1, R7: expressions and statements as deep within one another as they may be.
func TestWeightOfDeep(t *testing.T) {
	x, s := num(), space(1)
	for range 999 {
		x = over(x)
		s = api.Stmt{Kind: api.SIf, Else: []api.Stmt{s}}
	}
	weighs(t, 1001, x)
	weighs(t, 999*4+3, num(), s)
	weighs(t, 1000000, num(), loop(0, 1000, let(x)))
}

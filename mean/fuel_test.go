package mean

import (
	"fmt"
	"strings"
	"testing"

	"carling/api"
	"carling/check"
)

// number is an expression of one step.
func number(n uint32) api.Expr { return api.Expr{Kind: api.ENum, N: n} }

// bin is an EBin.
func bin(op int, a, b api.Expr) api.Expr {
	return api.Expr{Kind: api.EBin, Op: op, L: []api.Expr{a, b}}
}

// spent is an expression of that many steps, which comes to 0; it weighs as many. There is none of two.
func spent(n int) api.Expr {
	switch {
	case n == 1:
		return number(0)
	case n == 4:
		return api.Expr{Kind: api.ESel, L: []api.Expr{number(7), number(0), number(3)}}
	case n == 6:
		return bin(api.Add, spent(1), spent(4))
	}
	half := (n - 1) / 2
	if half == 2 {
		half = 1
	}
	return bin(api.Add, spent(half), spent(n-1-half))
}

// wasted are statements of that many steps, one or more; they weigh nothing.
func wasted(n int) []api.Stmt {
	empty := api.Stmt{Kind: api.SFor, Name: "waste"}
	rounds := api.Stmt{Kind: api.SFor, Name: "wasted", To: 64}
	for range (n - 1) / 64 {
		rounds.Body = append(rounds.Body, empty)
	}
	l := []api.Stmt{rounds}
	for range (n - 1) % 64 {
		l = append(l, empty)
	}
	return l
}

// takes asks that a run of the last unit's last function takes that many steps: with as many more ahead of it as make 3000 it ends as it did, with one more it does not.
func takes(t *testing.T, steps int, args []uint32, texts ...string) {
	t.Helper()
	l := units(t, texts...)
	u := &l[len(l)-1]
	f := &u.Funcs[len(u.Funcs)-1]
	name, body := u.Name+"."+f.Name, f.Body
	o, b, e := Run(l, name, args)
	if e != api.OK {
		t.Errorf("%s: %d", texts, e)
		return
	}
	before := t.Failed()
	f.Body = append(wasted(3000-steps), body...)
	comes(t, l, name, args, o.Result, o.Arrays, b)
	f.Body = append(wasted(3001-steps), body...)
	fails(t, l, name, args, api.ErrFuel)
	f.Body = append(body[:len(body):len(body)], wasted(3000-steps)...)
	comes(t, l, name, args, o.Result, o.Arrays, b)
	f.Body = append(body[:len(body):len(body)], wasted(3001-steps)...)
	fails(t, l, name, args, api.ErrFuel)
	if t.Failed() && !before {
		t.Logf("%s: not %d steps", texts, steps)
	}
}

// step asks that statements of a function with words x (7), y (0) and an array t of four take that many steps, beside the one of the Result.
func step(t *testing.T, steps int, text string) {
	t.Helper()
	takes(t, steps+1, []uint32{7, 0, 1, 2, 3, 4}, "(unit a) (fn g () pub (ret 5)) (fn h ((p pub) (q pub)) pub (let r (+ p q)) (if r ((set r 2)) ()) (ret r)) (fn f ((x pub) (y pub) (t pub 4)) pub "+text+" (ret 1))")
}

// P6.1, P6.2: what is a step: each statement that is begun, and each expression, and part of one, that is worked out.
func TestSteps(t *testing.T) {
	step(t, 0, "")
	for text, steps := range map[string]int{
		"(let z 1)": 2, "(let z x)": 2, "(set x 1)": 2, "(set x y)": 2, "(new z pub 1)": 1, "(new z pub 16)": 1, "(new z sec 16) (new u sec 2)": 2,
		"(put t 0 1)": 2, "(put t 3 x)": 2, "(put t 0 (+ x y))": 4, "(for i 0 1 (put t i 1))": 3, "(for i 0 4 (put t i (at t i)))": 9,
		"(let z (at t 0))": 2, "(let z (at t 3))": 2, "(for i 0 1 (set x (at t i)))": 3, "(set x (+ (at t 0) (at t 1)))": 4,
		"(set x (+ 1 2))": 4, "(set x (== 1 2))": 4, "(set x (+ (- 1 2) (* 3 4)))": 8, "(set x (sel 1 2 3))": 5, "(set x (sel 0 2 3))": 5, "(set x (sel x (+ 1 2) (at t 0)))": 7, "(set x (sel y (sel 1 2 3) (+ x y)))": 10,
		"(for i 0 0)": 1, "(for i 0 64)": 1, "(for i 64 0 (set x 1))": 1, "(for i 3 3 (set x 1))": 1, "(for i 3 4 (set x 1))": 3, "(for i 0 64 (set x 1))": 129, "(for i 60 64 (set x i) (for j 0 2 (new z pub 3)))": 21,
		"(if 1 () ())": 2, "(if 0 () ())": 2, "(if x ((set x 1)) ())": 4, "(if x () ((set x 1)))": 2, "(if y ((set x 1)) ())": 2, "(if y () ((set x 1) (set y 1)))": 6, "(if (+ x y) ((if y () ((set x 1)))) ())": 8,
		"(set x (call g))": 3, "(let z (+ (call g) (call g)))": 6, "(set x (call h 1 2))": 13, "(set x (call h 0 0))": 11, "(set x (call h x (+ y 1)))": 15, "(put t 0 (call g))": 3, "(if (call g) () ())": 3, "(if (call h 1 1) ((set x 1)) ())": 15,
		"(set x (call h (call g) (call g)))": 15, "(set x (sel (call g) (call g) (call g)))": 8,
	} {
		step(t, steps, text)
	}
}

// P6.1, P6.2: the Result's steps, and those of calls of another unit's functions.
func TestStepsOfResults(t *testing.T) {
	takes(t, 1, nil, "(unit a) (fn f () pub (ret 1))")
	takes(t, 3, nil, "(unit a) (fn f () pub (ret (+ 1 2)))")
	takes(t, 1, []uint32{4, 5, 6}, "(unit a) (fn f ((t pub 3)) pub (ret (at t 2)))")
	takes(t, 8, []uint32{4}, "(unit a) (fn f ((x pub)) pub (ret (sel x (+ x 1) (- x 1))))")
	takes(t, 2, nil, "(unit b) (fn g () pub (ret 1))", "(unit a) (import b) (fn f () pub (ret (call b.g)))")
	takes(t, 12, []uint32{3}, "(unit b) (fn g ((x sec)) sec (for i 0 2 (set x i)) (ret x))", "(unit a) (import b) (fn f ((k sec)) sec (let y (call b.g k)) (ret (+ 1 y)))")
}

// alone is a unit of one function without parameters.
func alone(body []api.Stmt, result api.Expr) []api.Unit {
	return []api.Unit{{Name: "a", Funcs: []api.Func{{Name: "f", Body: body, Result: result}}}}
}

// P6.1: 3000 steps and one more, in loops.
func TestFuelInLoops(t *testing.T) {
	comes(t, alone(wasted(2999), number(6)), "a.f", nil, 6, nil, nil)
	fails(t, alone(wasted(3000), number(6)), "a.f", nil, api.ErrFuel)
	// 46 rounds of 65 steps, the loop itself, and the Result: 2992.
	for more, want := range map[int]api.Errno{0: api.OK, 7: api.OK, 8: api.OK, 9: api.ErrFuel, 10: api.ErrFuel} {
		text := "(unit a) (fn f () pub (for i 0 46 (for j 0 64 (for k 0 64)))" + strings.Repeat(" (for k 0 0)", more) + " (ret 5))"
		if want != api.OK {
			fails(t, units(t, text), "a.f", nil, want)
			continue
		}
		comes(t, units(t, text), "a.f", nil, 5, nil, nil)
	}
	// Loops within loops, as many as there can be: each ends, or is given up.
	s := api.Stmt{Kind: api.SFor, Name: "x", To: 64}
	for i := range 900 {
		s = api.Stmt{Kind: api.SFor, Name: fmt.Sprintf("x%d", i), To: 64, Body: []api.Stmt{s}}
	}
	fails(t, alone([]api.Stmt{s}, number(1)), "a.f", nil, api.ErrFuel)
	// Of an SIf only the way that is gone counts.
	either := func(x uint32) []api.Unit {
		return alone([]api.Stmt{{Kind: api.SIf, E: number(x), Body: wasted(2997), Else: wasted(2998)}}, number(2))
	}
	comes(t, either(1), "a.f", nil, 2, nil, []int{1})
	fails(t, either(0), "a.f", nil, api.ErrFuel)
}

// P6.1: 3000 steps and one more, in expressions: one function weighs too much for that many, so two share them.
func TestFuelInExpressions(t *testing.T) {
	call := api.Expr{Kind: api.ECall, Name: "f"}
	for _, own := range []int{1, 3, 4, 5, 6, 1001, 1500, 1990} {
		for steps, want := range map[int]api.Errno{2990: api.OK, 2999: api.OK, 3000: api.OK, 3001: api.ErrFuel, 3002: api.ErrFuel} {
			l := alone(nil, spent(own))
			rest := steps - own - 2 // the EBin and the ECall
			if rest > 1990 {
				l[0].Funcs[0].Body = wasted(rest - 1000)
				rest = 1000
			}
			l[0].Funcs = append(l[0].Funcs, api.Func{Name: "g", Result: bin(api.Sub, call, spent(rest))})
			if e, _, _ := check.All(l); e != api.OK {
				t.Fatalf("%d and %d steps: %d", own, rest, e)
			}
			if want != api.OK {
				fails(t, l, "a.g", nil, want)
				continue
			}
			comes(t, l, "a.g", nil, 0, nil, nil)
		}
	}
}

// P6.1: the steps of all calls count together, those that have come back among them.
func TestFuelOverCalls(t *testing.T) {
	// g: 1 and 48 * 2, and 3: 100. A round of f: the SSet, the ECall, its part and g's: 103. In all 2 and 1 and 29 * 103 and 1: 2991.
	l := units(t, "(unit b) (fn g ((x pub)) pub (for i 0 48 (set x i)) (ret (+ x 0)))", "(unit a) (import b) (fn f () pub (let s 0) (for i 0 29 (set s (call b.g 1))) (ret s))")
	f := &l[1].Funcs[0]
	if o, _, e := Run(l, "b.g", []uint32{1}); e != api.OK || o.Result != 47 {
		t.Fatal(o, e)
	}
	body := f.Body
	f.Body = append(wasted(9), body...)
	comes(t, l, "a.f", nil, 47, nil, nil)
	f.Body = append(wasted(10), body...)
	fails(t, l, "a.f", nil, api.ErrFuel)
	// They count in the function that is called, too.
	f.Body = body
	g := &l[0].Funcs[0]
	g.Body = append([]api.Stmt{{Kind: api.SIf, E: api.Expr{Kind: api.EBin, Op: api.Lt, L: []api.Expr{{Kind: api.EVar, Name: "x"}, number(5)}}, Else: wasted(2000)}}, g.Body...)
	fails(t, l, "a.f", nil, api.ErrFuel)
	f.Body[1].To = 28
	comes(t, l, "a.f", nil, 47, nil, oneWay(28, 1))
	// Arguments that hold the calls one in another.
	deep := number(1)
	for range 999 {
		deep = api.Expr{Kind: api.ECall, Name: "g", L: []api.Expr{deep}}
	}
	l = []api.Unit{{Name: "a", Funcs: []api.Func{{Name: "g", Params: []api.Param{{Name: "x"}}, Result: bin(api.Add, api.Expr{Kind: api.EVar, Name: "x"}, number(1))}, {Name: "f", Result: deep}}}}
	fails(t, l, "a.f", nil, api.ErrFuel)
}

// oneWay are branches that all go one way.
func oneWay(n, way int) []int {
	var l []int
	for range n {
		l = append(l, way)
	}
	return l
}

// chain are units of 16 functions each, of which each one calls the one ahead of it, the first one's being another unit's; calling is how a function's statements and Result hold the call.
func chain(t *testing.T, n int, calling string) []api.Unit {
	t.Helper()
	var texts []string
	text := ""
	for i := range n {
		name := fmt.Sprintf("f%d", i-1)
		if i%16 == 0 {
			if i > 0 {
				texts = append(texts, text)
			}
			text = fmt.Sprintf("(unit u%d) ", i/16)
			if i > 0 {
				text += fmt.Sprintf("(import u%d) ", i/16-1)
				name = fmt.Sprintf("u%d.%s", i/16-1, name)
			}
		}
		held := strings.ReplaceAll(calling, "CALL", "(call "+name+" x)")
		if i == 0 {
			held = "(ret (+ x 100))"
		}
		text += fmt.Sprintf("(fn f%d ((x pub)) pub %s) ", i, held)
	}
	return units(t, append(texts, text)...)
}

// full is the name of a function of a chain.
func full(i int) string { return fmt.Sprintf("u%d.f%d", i/16, i) }

// P6.1: a call that would stand within 32 others gives up; one that stands within 31 does not.
func TestDepth(t *testing.T) {
	for calling, result := range map[string]uint32{
		"(ret CALL)": 101, "(let y CALL) (ret y)": 101, "(set x CALL) (ret x)": 101, "(ret (+ CALL 0))": 101, "(ret (sel 0 1 CALL))": 101, "(for i 0 1 (set x CALL)) (ret x)": 101,
		"(new t pub 2) (put t 1 CALL) (ret (at t 1))": 101, "(let y 0) (if CALL ((set y 1)) ()) (ret (sel y 101 0))": 101, "(let y 0) (if x ((set y CALL)) ()) (ret y)": 101, "(ret (sel CALL 101 9))": 101,
	} {
		l := chain(t, 40, calling)
		for i := range 40 {
			if i > api.MaxDepth {
				fails(t, l, full(i), []uint32{1}, api.ErrFuel)
				continue
			}
			if o, _, e := Run(l, full(i), []uint32{1}); e != api.OK || o.Result != result {
				t.Errorf("%s: %d calls within one another: %d, %d", calling, i, o.Result, e)
			}
		}
	}
	// A call that is not come to does not count.
	l := chain(t, 40, "(let y 7) (if x ((set y CALL)) ()) (ret y)")
	comes(t, l, full(39), []uint32{0}, 7, nil, []int{0})
	fails(t, l, full(39), []uint32{1}, api.ErrFuel)
	comes(t, l, full(32), []uint32{1}, 101, nil, oneWay(32, 1))
	// Neither does one of which it was come back from: calls one behind the other, each with all the depth there is; and calls in another one's arguments.
	l = chain(t, 33, "(ret CALL)")
	last := &l[2].Funcs[0]
	call := last.Result
	for range 20 {
		last.Result = bin(api.Add, last.Result, call)
	}
	comes(t, l, full(32), []uint32{1}, 21*101, nil, nil)
	last.Result = call
	for range 20 {
		next := call
		next.L = []api.Expr{last.Result}
		last.Result = next
	}
	comes(t, l, full(32), []uint32{1}, 2101, nil, nil)
	l = units(t, "(unit a) (fn g ((x pub)) pub (ret (+ x 1))) (fn f () pub (ret 1))")
	for range 40 {
		f := &l[0].Funcs[1]
		f.Result = api.Expr{Kind: api.ECall, Name: "g", L: []api.Expr{f.Result}}
	}
	comes(t, l, "a.f", nil, 41, nil, nil)
}

// P0, R7: expressions and statements as deep within one another as they may be.
func TestDeep(t *testing.T) {
	x := number(1)
	for range 990 {
		x = bin(api.Add, number(1), x)
	}
	comes(t, alone(nil, x), "a.f", nil, 991, nil, nil)
	s := api.Stmt{Kind: api.SSet, Name: "x", E: bin(api.Add, api.Expr{Kind: api.EVar, Name: "x"}, number(1))}
	for i := range 990 {
		s = api.Stmt{Kind: api.SFor, Name: fmt.Sprintf("x%d", i), From: 5, To: 6, Body: []api.Stmt{s}}
	}
	comes(t, alone([]api.Stmt{{Kind: api.SLet, Name: "x", E: number(3)}, s}, api.Expr{Kind: api.EVar, Name: "x"}), "a.f", nil, 4, nil, nil)
	s = api.Stmt{Kind: api.SSet, Name: "x", E: number(8)}
	for range 300 {
		s = api.Stmt{Kind: api.SIf, E: number(1), Body: []api.Stmt{s}}
	}
	comes(t, alone([]api.Stmt{{Kind: api.SLet, Name: "x", E: number(3)}, s}, api.Expr{Kind: api.EVar, Name: "x"}), "a.f", nil, 8, nil, oneWay(300, 1))
}

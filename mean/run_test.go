package mean

import (
	"fmt"
	"testing"

	"carling/api"
)

// result asks what comes of a function that tells no arrays and has no branches.
func result(t testing.TB, rest string, args []uint32, want uint32) {
	t.Helper()
	runs(t, rest, args, want, nil, nil)
}

// P6.2: SLet and SSet: the word has what E comes to, and no other one.
func TestLetAndSet(t *testing.T) {
	result(t, "() pub (let x 5) (ret x)", nil, 5)
	result(t, "() pub (let x 5) (let y (+ x 1)) (ret (+ (* x 10) y))", nil, 56)
	result(t, "((x pub)) pub (set x 5) (ret x)", []uint32{1}, 5)
	result(t, "((x pub)) pub (set x (+ x x)) (set x (+ x x)) (ret x)", []uint32{3}, 12)
	result(t, "((x pub) (y pub)) pub (set x y) (set y 9) (ret (+ (* x 10) y))", []uint32{1, 2}, 29)
	result(t, "((x pub) (y pub)) pub (let z x) (set x y) (set y z) (ret (+ (* x 10) y))", []uint32{1, 2}, 21)
	result(t, "((k sec)) sec (let x k) (set k 0) (ret (- x k))", []uint32{4}, 4)
	// A name that is named again behind its scope begins anew.
	runs(t, "((x pub)) pub (if x ((let y 5) (set x y)) ()) (let y 6) (ret (+ (* x 10) y))", []uint32{1}, 56, nil, []int{1})
	runs(t, "((x pub)) pub (if x ((let y 5)) ()) (new y pub 2) (ret (at y 1))", []uint32{1}, 0, nil, []int{1})
	runs(t, "((x pub)) pub (if x ((new y pub 2) (put y 1 7)) ()) (let y 6) (ret y)", []uint32{1}, 6, nil, []int{1})
	result(t, "() pub (let s 0) (for i 0 4 (let y i) (set y (+ y y)) (set s (+ s y))) (ret s)", nil, 12)
	result(t, "() pub (for i 0 4) (let i 9) (for j 0 2) (ret i)", nil, 9)
}

// P6.2: SNew: noughts, each time that it is gone through.
func TestNew(t *testing.T) {
	for n := 1; n <= api.MaxLen; n++ {
		for i := range n {
			result(t, fmt.Sprintf("() pub (new t pub %d) (ret (at t %d))", n, i), nil, 0)
		}
	}
	result(t, "() pub (let s 0) (for i 0 4 (new t pub 2) (put t 0 (+ (at t 0) 1)) (set s (+ s (at t 0)))) (ret s)", nil, 4)
	result(t, "() pub (let s 0) (new t pub 2) (for i 0 4 (put t 0 (+ (at t 0) 1)) (set s (+ s (at t 0)))) (ret s)", nil, 10)
	runs(t, "((x pub)) pub (if x ((new t pub 3) (put t 1 8)) ()) (new t pub 2) (ret (at t 1))", []uint32{1}, 0, nil, []int{1})
	result(t, "() pub (new t pub 2) (new u pub 2) (put t 0 3) (put u 1 4) (ret (+ (+ (at t 0) (* (at t 1) 10)) (+ (* (at u 0) 100) (* (at u 1) 1000))))", nil, 4003)
	l := units(t, "(unit a) (fn g () pub (new t pub 1) (put t 0 (+ (at t 0) 1)) (ret (at t 0))) (fn f () pub (ret (+ (call g) (* 10 (call g)))))")
	comes(t, l, "a.f", nil, 11, nil, nil)
}

// P6.2: SPut and EAt: the place, of a number and of the word of a loop, and no other one.
func TestPlaces(t *testing.T) {
	args := []uint32{100, 101, 102, 103}
	for i := range 4 {
		want := []uint32{100, 101, 102, 103}
		want[i] = 7
		runs(t, fmt.Sprintf("((t pub 4)) pub (put t %d 7) (ret 1)", i), args, 1, want, nil)
		runs(t, fmt.Sprintf("((t pub 4)) pub (ret (at t %d))", i), args, args[i], args, nil)
		runs(t, fmt.Sprintf("((t pub 4)) pub (for i %d %d (put t i 7)) (ret 1)", i, i+1), args, 1, want, nil)
		runs(t, fmt.Sprintf("((t pub 4)) pub (let s 0) (for i %d %d (set s (at t i))) (ret s)", i, i+1), args, args[i], args, nil)
	}
	runs(t, "((t pub 4)) pub (put t 0 (at t 3)) (put t 3 (at t 1)) (ret (at t 3))", args, 101, []uint32{103, 101, 102, 101}, nil)
	runs(t, "((t pub 4)) pub (put t 2 (+ (at t 2) (at t 2))) (ret 1)", args, 1, []uint32{100, 101, 204, 103}, nil)
	runs(t, "((t pub 2) (u pub 2)) pub (for i 0 2 (for j 0 2 (put t i (+ (* 10 (at t i)) (at u j))))) (ret 1)", []uint32{1, 2, 3, 4}, 1, []uint32{134, 234, 3, 4}, nil)
	runs(t, "((x pub) (t pub 2)) pub (set x 5) (put t 0 x) (set x 6) (put t 1 x) (ret x)", []uint32{1, 2, 3}, 6, []uint32{5, 6}, nil)
}

// P6.2: SFor: from From to ahead of To, the word as it is each time.
func TestFor(t *testing.T) {
	for from := range 5 {
		for to := range 5 {
			want := uint32(0)
			for i := from; i < to; i++ {
				want = want*10 + uint32(i) + 1
			}
			result(t, fmt.Sprintf("() pub (let s 0) (for i %d %d (set s (+ (* s 10) (+ i 1)))) (ret s)", from, to), nil, want)
		}
	}
	for limits, want := range map[string]uint32{"0 64": 2016, "63 64": 63, "64 64": 0, "64 0": 0, "0 0": 0, "0 1": 0, "1 2": 1, "10 64": 1971, "64 63": 0} {
		result(t, "() pub (let s 0) (for i "+limits+" (set s (+ s i))) (ret s)", nil, want)
	}
	result(t, "() pub (let s 0) (for i 1 3 (for j 3 5 (set s (+ (* s 100) (+ (* i 10) j))))) (ret s)", nil, 13142324)
	result(t, "() pub (let s 0) (for i 0 3 (for j 0 2) (set s (+ (* s 10) i))) (ret s)", nil, 12)
	result(t, "() pub (let s 0) (for i 1 3 (set s (+ (* s 10) i)) (set s (+ (* s 10) 7))) (ret s)", nil, 1727)
	result(t, "() pub (let s 0) (for i 0 3 (set s (+ s i))) (for i 5 7 (set s (+ (* s 10) i))) (ret s)", nil, 356)
}

// P6.2: SIf: Body, if E is not 0; else Else.
func TestIf(t *testing.T) {
	for x, way := range map[uint32]int{0: 0, 1: 1, 2: 1, 65536: 1, 2147483648: 1, 4294967295: 1} {
		runs(t, "((x pub)) pub (let r 3) (if x ((set r 1)) ((set r 0))) (ret r)", []uint32{x}, uint32(way), nil, []int{way})
		runs(t, "((x pub)) pub (let r 3) (if x ((set r 1)) ()) (ret r)", []uint32{x}, uint32(3-2*way), nil, []int{way})
		runs(t, "((x pub)) pub (let r 3) (if x () ((set r 0))) (ret r)", []uint32{x}, uint32(3*way), nil, []int{way})
		runs(t, "((x pub)) pub (if x () ()) (ret 4)", []uint32{x}, 4, nil, []int{way})
	}
	// E is worked out once, ahead of what stands within.
	runs(t, "((x pub)) pub (if x ((set x 0) (set x (+ x 5))) ((set x 9))) (ret x)", []uint32{1}, 5, nil, []int{1})
	runs(t, "((x pub)) pub (if (== x 0) ((set x 1)) ((set x 2))) (if (== x 0) ((set x 3)) ((set x (+ x 10)))) (ret x)", []uint32{0}, 11, nil, []int{1, 0})
	runs(t, "((x pub) (t pub 2)) pub (if (at t 1) ((put t 0 x)) ((put t 1 x))) (ret 0)", []uint32{7, 5, 0}, 0, []uint32{5, 7}, []int{0})
}

// P6.1: the branches, in order: one behind the other, in loops, in one another, in calls.
func TestBranches(t *testing.T) {
	runs(t, "((x pub) (y pub) (z pub)) pub (if x () ()) (if y () ()) (if z () ()) (ret 0)", []uint32{1, 0, 5}, 0, nil, []int{1, 0, 1})
	runs(t, "((x pub) (y pub) (z pub)) pub (if z () ()) (if y () ()) (if x () ()) (ret 0)", []uint32{1, 0, 0}, 0, nil, []int{0, 0, 1})
	runs(t, "() pub (for i 0 5 (if (& i 1) () ())) (ret 0)", nil, 0, nil, []int{0, 1, 0, 1, 0})
	runs(t, "() pub (for i 0 3 (if i ((for j 0 2 (if j () ()))) ((if 7 () ())))) (ret 0)", nil, 0, nil, []int{0, 1, 1, 0, 1, 1, 0, 1})
	for x := range uint32(2) {
		for y := range uint32(2) {
			for z := range uint32(2) {
				want := []int{int(x), int(z)}
				if x == 1 {
					want = []int{int(x), int(y), int(z), int(z)}
				}
				runs(t, "((x pub) (y pub) (z pub)) pub (if x ((if y () ()) (if z () ())) ()) (if z () ()) (ret 0)", []uint32{x, y, z}, 0, nil, want)
				if x == 0 {
					want = []int{int(x), int(y), int(z), int(z)}
				} else {
					want = want[:1:1]
					want = append(want, int(z))
				}
				runs(t, "((x pub) (y pub) (z pub)) pub (if x () ((if y () ()) (if z () ()))) (if z () ()) (ret 0)", []uint32{x, y, z}, 0, nil, want)
			}
		}
	}
	// h tells its word, and goes through one branch, or through two.
	const h = "(unit a) (fn h ((x pub)) pub (if x ((if (== x 2) () ())) ()) (ret x)) "
	for text, want := range map[string][]int{
		"(fn f () pub (ret (call h 0)))": {0}, "(fn f () pub (ret (call h 1)))": {1, 0}, "(fn f () pub (ret (call h 2)))": {1, 1},
		"(fn f () pub (ret (- (call h 0) (call h 1))))": {0, 1, 0}, "(fn f () pub (ret (- (call h 1) (call h 0))))": {1, 0, 0},
		"(fn f () pub (ret (sel (call h 2) (call h 0) (call h 1))))": {1, 1, 0, 1, 0}, "(fn f () pub (ret (sel (call h 0) (call h 1) (call h 2))))": {0, 1, 0, 1, 1},
		"(fn f () pub (ret (call h (call h 2))))": {1, 1, 1, 1}, "(fn f () pub (ret (call h (- (call h 1) (call h 1)))))": {1, 0, 1, 0, 0},
		"(fn f () pub (if (call h 0) () ()) (ret 0))": {0, 0}, "(fn f () pub (if (call h 1) () ()) (ret 0))": {1, 0, 1}, "(fn f () pub (if (call h 2) ((let y (call h 0))) ()) (ret 0))": {1, 1, 1, 0},
		"(fn f () pub (if (call h 0) () ((let y (call h 1)))) (ret (call h 2)))": {0, 0, 1, 0, 1, 1}, "(fn f () pub (let y 1) (for i 0 3 (set y (call h i))) (ret y))": {0, 1, 0, 1, 1},
		"(fn g ((x pub)) pub (if x () ()) (let y (call h x)) (if y () ()) (ret y)) (fn f () pub (if 1 () ()) (let y (call g 1)) (if 0 () ()) (ret y))": {1, 1, 1, 0, 1, 0},
		"(fn g ((x pub) (y pub)) pub (if x () ()) (if y () ()) (ret 0)) (fn f () pub (ret (call g (call h 0) (call h 2))))":                            {0, 1, 1, 0, 1},
		"(fn f () pub (new t pub 1) (put t 0 (call h 1)) (if (at t 0) () ()) (ret 0))":                                                                 {1, 0, 1},
	} {
		o, b, e := Run(units(t, h+text), "a.f", nil)
		if e != api.OK || fmt.Sprint(b) != fmt.Sprint(want) {
			t.Errorf("%s: %+v, %d, %d; not %d", text, o, b, e, want)
		}
	}
}

// P6.2: EBin, of each op, its parts in order; ESel, of any word.
func TestReckoning(t *testing.T) {
	const big = 4294967295
	for _, c := range []struct {
		sign       string
		a, b, want uint32
	}{
		{"+", 7, 5, 12}, {"+", big, 2, 1}, {"-", 7, 5, 2}, {"-", 5, 7, big - 1}, {"*", 7, 5, 35}, {"*", 65536, 65537, 65536}, {"&", 12, 10, 8}, {"|", 12, 10, 14}, {"^", 12, 10, 6},
		{"<<", 1, 33, 2}, {"<<", 3, 31, 2147483648}, {">>", big, 28, 15}, {">>", 8, 35, 1}, {"<", 1, 2, 1}, {"<", 2, 1, 0}, {"<", 2, 2, 0}, {"<", 1, big, 1}, {"==", 4, 4, 1}, {"==", 4, 5, 0},
	} {
		result(t, "((x pub) (y sec)) sec (ret ("+c.sign+" x y))", []uint32{c.a, c.b}, c.want)
		result(t, fmt.Sprintf("() pub (ret (%s %d %d))", c.sign, c.a, c.b), nil, c.want)
		runs(t, fmt.Sprintf("((t pub 2)) pub (let z 0) (set z (%s (at t 0) (at t 1))) (ret z)", c.sign), []uint32{c.a, c.b}, c.want, []uint32{c.a, c.b}, nil)
	}
	for _, c := range []uint32{0, 1, 2, 256, 65536, 2147483648, big} {
		want := uint32(20)
		if c == 0 {
			want = 30
		}
		result(t, "((k sec)) sec (ret (sel k 20 30))", []uint32{c}, want)
		result(t, fmt.Sprintf("((k sec) (m sec)) sec (ret (sel %d k m))", c), []uint32{20, 30}, want)
	}
	for _, n := range []uint32{0, 1, 20, 2147483648, big} {
		result(t, fmt.Sprintf("() pub (ret %d)", n), nil, n)
		result(t, "((x pub)) pub (ret x)", []uint32{n}, n)
	}
	result(t, "() pub (ret (sel (- (+ 1 2) (* 1 3)) (sel 1 2 3) (- (<< 1 (sel 0 9 4)) (== 5 5))))", nil, 15)
	// Both ways of an ESel are worked out, and their steps count, whichever is taken.
	l := units(t, "(unit a) (fn h ((x pub)) pub (if x () ()) (ret x)) (fn f ((x pub)) pub (ret (sel x (call h 0) (call h 1))))")
	comes(t, l, "a.f", []uint32{1}, 0, nil, []int{0, 1})
	comes(t, l, "a.f", []uint32{0}, 1, nil, []int{0, 1})
}

// P6.2: ECall: of a function ahead, and of another unit's; each with the arguments of its own place.
func TestCalls(t *testing.T) {
	l := units(t,
		"(unit a) (import b c) (fn f ((x pub)) pub (ret (+ x 1))) (fn g ((x pub) (y pub) (z pub)) pub (ret (+ (* x 100) (+ (* y 10) z)))) (fn own () pub (ret (call f 5))) (fn other () pub (ret (call b.f 5))) (fn both () pub (ret (+ (call f (call b.f 2)) (* 1000 (call b.f (call f 2)))))) (fn places ((p pub) (q pub)) pub (ret (call g q (+ p 1) p))) (fn six () pub (ret (call c.six 1 2 3 4 5 6))) (fn through () pub (ret (call b.g)))",
		"(unit c) (fn six ((u pub) (v pub) (w pub) (x pub) (y pub) (z pub)) pub (ret (+ u (* 10 (+ v (* 10 (+ w (* 10 (+ x (* 10 (+ y (* 10 z))))))))))))  (fn f ((x pub)) pub (ret (* x 3)))",
		"(unit b) (import c) (fn f ((x pub)) pub (ret (* x 2))) (fn g () pub (ret (+ (call f 1) (* 100 (call c.f 1)))))")
	comes(t, l, "a.own", nil, 6, nil, nil)
	comes(t, l, "a.other", nil, 10, nil, nil)
	comes(t, l, "a.both", nil, 6005, nil, nil)
	comes(t, l, "a.places", []uint32{1, 7}, 721, nil, nil)
	comes(t, l, "a.six", nil, 654321, nil, nil)
	comes(t, l, "a.through", nil, 302, nil, nil) // a name alone is of the unit in which it stands
	comes(t, l, "b.g", nil, 302, nil, nil)
	comes(t, l, "a.f", []uint32{5}, 6, nil, nil)
	comes(t, l, "b.f", []uint32{5}, 10, nil, nil)
	comes(t, l, "c.f", []uint32{5}, 15, nil, nil)
}

// P6.2: what a function names is its own: what it calls neither sees it nor changes it.
func TestOwnNames(t *testing.T) {
	l := units(t,
		"(unit a) (import b) (fn g ((x pub)) pub (let y 50) (set x (+ x 1)) (set y (+ y x)) (new t pub 2) (put t 1 9) (for i 0 3 (put t 0 i)) (ret (+ y (at t 1)))) "+
			"(fn f ((x pub) (t pub 2)) pub (let y 3) (let z 0) (for i 0 2 (set z (+ (* 100 z) (+ i (call g x)))) (put t i (+ (at t i) i))) (ret (+ (* z 100) (+ (* y 10) x)))) "+
			"(fn h ((x pub)) pub (let y (call b.g x)) (set y (+ y (call b.g y))) (ret (+ (* y 10) x)))",
		"(unit b) (fn g ((y pub)) pub (let x (+ y 1)) (set y 0) (ret x))")
	comes(t, l, "a.g", []uint32{4}, 64, nil, nil)
	comes(t, l, "a.f", []uint32{4, 10, 20}, 646534, []uint32{10, 21}, nil)
	comes(t, l, "a.h", []uint32{4}, 114, nil, nil)
	// The same function, within itself by its arguments, and again: it begins anew.
	l = units(t, "(unit a) (fn g ((x pub)) pub (new t pub 1) (let y (at t 0)) (put t 0 x) (ret (+ (+ y (at t 0)) 1))) (fn f () pub (ret (+ (call g (call g (call g 1))) (* 100 (call g 5)))))")
	comes(t, l, "a.f", nil, 604, nil, nil)
	// A function's words are its own in all its calls at once.
	l = units(t, "(unit a) (fn f1 ((x pub)) pub (set x (+ x 1)) (ret x)) (fn f2 ((x pub)) pub (let y (call f1 x)) (ret (+ (* 10 y) x))) (fn f3 ((x pub)) pub (let y (call f2 (+ x 1))) (ret (+ (* 10 y) x)))")
	comes(t, l, "a.f3", []uint32{1}, 321, nil, nil)
}

// P6.2: all of it within one another.
func TestTogether(t *testing.T) {
	// Rising order, by swaps without a branch.
	swaps := ""
	for j := range 5 {
		k := j + 1
		swaps += fmt.Sprintf("(set x (at t %d)) (set y (at t %d)) (put t %d (sel (< x y) x y)) (put t %d (sel (< x y) y x)) ", j, k, j, k)
	}
	runs(t, "((t sec 6) (x sec) (y sec)) pub (for i 0 5 "+swaps+") (ret 0)", []uint32{5, 3, 9, 1, 4294967295, 0, 0, 0}, 0, []uint32{0, 1, 3, 5, 9, 4294967295}, nil)
	// The greatest common divisor, by taking away.
	gcd := "((x pub) (y pub)) pub (for i 0 40 (if (== x y) () ((if (< x y) ((set y (- y x))) ((set x (- x y))))))) (ret x)"
	o, b, e := Run(units(t, "(unit a) (fn f "+gcd+")"), "a.f", []uint32{84, 36})
	if e != api.OK || o.Result != 12 || len(b) != 44 || fmt.Sprint(b[:9]) != "[0 0 0 0 0 1 0 1 1]" {
		t.Error(o, b, e)
	}
	// Powers, by a call in a loop in an SIf.
	l := units(t, "(unit a) (import m) (fn pow ((x sec) (n pub)) sec (let r (| 1 (& x 0))) (if n ((for i 0 16 (let bit (& (>> n i) 1)) (if bit ((set r (call m.times r x))) ()) (set x (call m.times x x)))) ()) (ret r))", "(unit m) (fn times ((x sec) (y sec)) sec (ret (* x y)))")
	comes(t, l, "a.pow", []uint32{3, 5}, 243, nil, []int{1, 1, 0, 1, 0, 0, 0, 0, 0, 0, 0, 0, 0, 0, 0, 0, 0})
	comes(t, l, "a.pow", []uint32{3, 0}, 1, nil, []int{0})
}

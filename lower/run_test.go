package lower

import (
	"fmt"
	"testing"

	"carling/api"
	"carling/irun"
	"carling/mean"
)

// comes asks what comes of a function of units, by what it means and lowered: its result, its arrays, its branches.
func comes(t testing.TB, l []api.Unit, name string, args []uint32, result uint32, arrays []uint32, branches []int) {
	t.Helper()
	want := fmt.Sprint(api.Outcome{Result: result, Arrays: arrays}, branches, api.OK)
	o, b, e := mean.Run(l, name, args)
	if got := fmt.Sprint(o, b, e); got != want {
		t.Errorf("%s of %d means %s; not %s\n%s", name, args, got, want, shown(l))
	}
	o, b, e = irun.Run(all(t, l), name, args)
	if got := fmt.Sprint(o, b, e); got != want {
		t.Errorf("%s of %d, lowered: %s; not %s\n%s", name, args, got, want, shown(l))
	}
}

// runs asks what comes of a function, of its text behind `(fn f `.
func runs(t testing.TB, rest string, args []uint32, result uint32, arrays []uint32, branches []int) {
	t.Helper()
	comes(t, units(t, "(unit a) (fn f "+rest+")"), "a.f", args, result, arrays, branches)
}

// result asks what comes of a function that tells no arrays and has no branches.
func result(t testing.TB, rest string, args []uint32, want uint32) {
	t.Helper()
	runs(t, rest, args, want, nil, nil)
}

// big is the greatest word.
const big = 4294967295

// P8.3: the examples of the chapter, of the one ahead, and of the whole.
func TestExamples(t *testing.T) {
	result(t, "((x pub)) pub (ret (+ x 1))", []uint32{4}, 5)
	result(t, "((k sec)) sec (ret (sel k 1 2))", []uint32{4}, 1)
	result(t, "((k sec)) sec (ret (sel k 1 2))", []uint32{0}, 2)
	result(t, "() pub (ret (* 5 6))", nil, 30)
	runs(t, "((x pub) (t pub 2)) pub (put t 1 x) (if x ((set x 9)) ()) (ret (+ x (at t 0)))", []uint32{5, 7, 8}, 16, []uint32{7, 5}, []int{1})
	runs(t, "((x pub) (t pub 2)) pub (put t 1 x) (if x ((set x 9)) ()) (ret (+ x (at t 0)))", []uint32{0, 7, 8}, 7, []uint32{7, 0}, []int{0})
}

// P8.3: numbers and words alone, parameters among others that are arrays, and what is told of these.
func TestWordsAlone(t *testing.T) {
	for _, n := range []uint32{0, 1, 5, 2147483648, big} {
		result(t, fmt.Sprintf("() pub (ret %d)", n), nil, n)
		result(t, "((x pub)) pub (ret x)", []uint32{n}, n)
	}
	result(t, "((z pub) (y sec) (x pub)) pub (ret (- (* z 100) x))", []uint32{3, 2, 1}, 299)
	runs(t, "((t pub 2) (x pub) (u sec 1) (y pub) (v pub 3)) pub (ret (+ x (* y 100)))", []uint32{1, 2, 3, 4, 5, 6, 7, 8}, 503, []uint32{1, 2, 4, 6, 7, 8}, nil)
	runs(t, "((x pub) (t pub 2) (u pub 2) (y pub)) pub (put t 0 y) (put u 1 x) (ret (at u 0))", []uint32{1, 2, 3, 4, 5, 6}, 4, []uint32{6, 3, 4, 1}, nil)
	runs(t, "((t pub 3)) pub (new u pub 2) (put u 0 9) (ret (at t 2))", []uint32{4, 5, 6}, 6, []uint32{4, 5, 6}, nil)
	var args, doubled []uint32
	for i := range uint32(96) {
		args, doubled = append(args, i+1), append(doubled, 2*i+2)
	}
	body := ""
	for _, name := range []string{"z", "y", "x", "w", "v", "u"} {
		body += fmt.Sprintf("(for i 0 16 (put %s i (* 2 (at %s i)))) ", name, name)
	}
	runs(t, "((z pub 16) (y pub 16) (x pub 16) (w pub 16) (v pub 16) (u pub 16)) pub "+body+"(ret 1)", args, 1, doubled, nil)
}

// P8.3: each operation, of words, of numbers, of places, and of parts that are worked out.
func TestOperations(t *testing.T) {
	for _, c := range []struct {
		sign       string
		a, b, want uint32
	}{
		{"+", 7, 5, 12}, {"+", big, 2, 1}, {"-", 7, 5, 2}, {"-", 5, 7, big - 1}, {"*", 7, 5, 35}, {"*", 65536, 65537, 65536}, {"&", 12, 10, 8}, {"|", 12, 10, 14}, {"^", 12, 10, 6},
		{"<<", 1, 33, 2}, {"<<", 3, 31, 2147483648}, {">>", big, 28, 15}, {">>", 8, 35, 1}, {"<", 1, 2, 1}, {"<", 2, 1, 0}, {"<", 2, 2, 0}, {"<", 1, big, 1}, {"==", 4, 4, 1}, {"==", 4, 5, 0},
	} {
		args := []uint32{c.a, c.b}
		result(t, "((x pub) (y sec)) sec (ret ("+c.sign+" x y))", args, c.want)
		result(t, "((y sec) (x pub)) sec (let z ("+c.sign+" x y)) (ret z)", []uint32{c.b, c.a}, c.want)
		result(t, "((x pub) (y pub)) pub (set x ("+c.sign+" x y)) (ret x)", args, c.want)
		result(t, "((x pub) (y pub)) pub (set y ("+c.sign+" x y)) (ret y)", args, c.want)
		result(t, fmt.Sprintf("() pub (ret (%s %d %d))", c.sign, c.a, c.b), nil, c.want)
		result(t, fmt.Sprintf("((x pub) (y pub)) pub (ret (%s (+ x 0) (+ 0 y)))", c.sign), args, c.want)
		runs(t, fmt.Sprintf("((t pub 2)) pub (let z 0) (set z (%s (at t 0) (at t 1))) (ret z)", c.sign), args, c.want, args, nil)
		runs(t, fmt.Sprintf("((t pub 2)) pub (put t 1 (%s (at t 0) (at t 1))) (ret (at t 1))", c.sign), args, c.want, []uint32{c.a, c.want}, nil)
	}
	result(t, "((x pub)) pub (ret (- (* (+ x 1) (- x 1)) (* x x)))", []uint32{9}, big)
}

// P8.3: a choice goes both ways, by any word; all three parts are worked out, in order.
func TestChoices(t *testing.T) {
	for _, c := range []uint32{0, 1, 2, 256, 65536, 2147483648, big} {
		want := uint32(20)
		if c == 0 {
			want = 30
		}
		result(t, "((k sec)) sec (ret (sel k 20 30))", []uint32{c}, want)
		result(t, fmt.Sprintf("((k sec) (m sec)) sec (ret (sel %d k m))", c), []uint32{20, 30}, want)
		result(t, "((k sec) (m sec) (n sec)) sec (set m (sel k m n)) (ret m)", []uint32{c, 20, 30}, want)
		result(t, "((k sec) (m sec) (n sec)) sec (set k (sel k m n)) (ret k)", []uint32{c, 20, 30}, want)
		runs(t, "((t pub 3)) pub (put t 0 (sel (at t 0) (at t 1) (at t 2))) (ret (at t 0))", []uint32{c, 20, 30}, want, []uint32{want, 20, 30}, nil)
	}
	result(t, "() pub (ret (sel (- (+ 1 2) (* 1 3)) (sel 1 2 3) (- (<< 1 (sel 0 9 4)) (== 5 5))))", nil, 15)
	l := units(t, "(unit a) (fn h ((x pub)) pub (if x () ()) (ret x)) (fn f ((x pub)) pub (ret (sel x (call h 0) (call h 1)))) (fn g ((x pub)) pub (ret (sel (call h x) (call h 2) (call h 0))))")
	comes(t, l, "a.f", []uint32{1}, 0, nil, []int{0, 1})
	comes(t, l, "a.f", []uint32{0}, 1, nil, []int{0, 1})
	comes(t, l, "a.g", []uint32{3}, 2, nil, []int{1, 1, 0})
	comes(t, l, "a.g", []uint32{0}, 0, nil, []int{0, 1, 0})
}

// P8.3: words that are named and set; a name that is named again behind its scope begins anew.
func TestLetAndSet(t *testing.T) {
	result(t, "() pub (let x 5) (let y (+ x 1)) (ret (+ (* x 10) y))", nil, 56)
	result(t, "((x pub)) pub (set x (+ x x)) (set x (+ x x)) (ret x)", []uint32{3}, 12)
	result(t, "((x pub) (y pub)) pub (set x y) (set y 9) (ret (+ (* x 10) y))", []uint32{1, 2}, 29)
	result(t, "((x pub) (y pub)) pub (let z x) (set x y) (set y z) (ret (+ (* x 10) y))", []uint32{1, 2}, 21)
	result(t, "((x pub) (y pub)) pub (set x x) (set y (+ y 0)) (ret (+ (* x 10) y))", []uint32{1, 2}, 12)
	result(t, "((x pub) (y pub)) pub (let z x) (set z z) (set x y) (set z z) (ret (+ (* x 10) z))", []uint32{1, 2}, 21)
	result(t, "((k sec)) sec (let x k) (set k 0) (ret (- x k))", []uint32{4}, 4)
	runs(t, "((x pub)) pub (if x ((let y 5) (set x y)) ()) (let y 6) (ret (+ (* x 10) y))", []uint32{1}, 56, nil, []int{1})
	runs(t, "((x pub)) pub (if x ((let y 5)) ()) (new y pub 2) (ret (at y 1))", []uint32{1}, 0, nil, []int{1})
	runs(t, "((x pub)) pub (if x ((new y pub 2) (put y 1 7)) ()) (let y 6) (ret y)", []uint32{1}, 6, nil, []int{1})
	result(t, "() pub (for i 0 4) (let i 9) (for j 0 2) (ret i)", nil, 9)
	result(t, "() pub (for i 0 4 (let y i)) (let i 9) (set i (+ i 1)) (new y pub 1) (for j 0 1 (put y j i)) (ret (at y 0))", nil, 10)
}

// P8.3: a loop's word is read in its body, from From on and ahead of To, within other loops, too.
func TestLoopWords(t *testing.T) {
	const body = "() pub (let s 0) (for i %d %d (set s (+ (* s 100) (+ i 1)))) (ret s)"
	for from := range 5 {
		want := uint32(0)
		for to := from; to <= from+4; to++ {
			result(t, fmt.Sprintf(body, from, to), nil, want)
			want = want*100 + uint32(to) + 1
		}
		result(t, fmt.Sprintf(body, from+1, from), nil, 0)
	}
	result(t, fmt.Sprintf(body, 62, 64), nil, 6364)
	result(t, fmt.Sprintf(body, 64, 64), nil, 0)
	result(t, fmt.Sprintf(body, 64, 0), nil, 0)
	result(t, "() pub (let s 0) (for i 0 64 (set s (+ s i))) (ret s)", nil, 2016)
	result(t, "() pub (let s 0) (for i 1 3 (for j 5 7 (set s (+ (* s 100) (+ (* i 10) j))))) (ret s)", nil, 15162526)
	result(t, "() pub (let s 0) (for i 1 3 (for j 0 2 (set s (+ (* s 10) j))) (set s (+ (* s 10) i)) (for j 7 9 (set s (+ (* s 10) j)))) (ret s)", nil, 117801278)
	result(t, "() pub (let s 0) (for i 3 4 (set s i)) (for i 5 6 (set s (+ (* s 10) i))) (ret s)", nil, 35)
	result(t, "() pub (let s 0) (for i 0 2 (for j 0 2 (for k 0 2 (set s (+ (* s 2) (sel i (^ j k) k)))))) (ret s)", nil, 86)
	result(t, "() pub (let s 1) (for i 0 3) (for i 2 1 (set s 9)) (for i 0 3 (for j 0 0 (set s 9))) (for i 0 3 (for j 0 4 (for k 0 5))) (ret s)", nil, 1)
}

// P8.3: names of a loop's body end with it, and stand again in the next round, and behind it: as words, arrays, and words of loops.
func TestLoopNames(t *testing.T) {
	result(t, "() pub (let s 0) (for i 0 4 (let y i) (set y (+ y y)) (set s (+ s y))) (ret s)", nil, 12)
	result(t, "() pub (let s 0) (for i 0 3 (let y 1) (set s (+ (* s 10) y)) (set y 7)) (ret s)", nil, 111)
	result(t, "() pub (let s 0) (for i 0 3 (let y i) (set s (+ (* s 10) y))) (let y 5) (for i 0 2 (set s (+ (* s 10) y))) (ret s)", nil, 1255)
	result(t, "() pub (let s 0) (for i 0 2 (let y (+ i 1)) (set s (+ s y))) (for y 7 8 (let i y) (set s (+ (* s 10) i))) (new y pub 2) (for i 0 2 (put y i 4) (set s (+ (* s 10) (at y i)))) (ret s)", nil, 3744)
	result(t, "() pub (let s 0) (for i 0 2 (for j 0 2 (let y (+ i j)) (set s (+ (* s 10) y))) (let y 9) (let j 8) (set s (+ (* s 10) (- y j)))) (ret s)", nil, 11121)
}

// P8.3: arrays that are new are noughts, each time that they are gone through, whatever stood in their place.
func TestNewArrays(t *testing.T) {
	for n := 1; n <= api.MaxLen; n++ {
		for i := range n {
			result(t, fmt.Sprintf("() pub (new t pub %d) (ret (at t %d))", n, i), nil, 0)
			runs(t, fmt.Sprintf("((x pub)) pub (if x ((new u pub 16) (for i 0 16 (put u i 7))) ()) (new t pub %d) (ret (at t %d))", n, i), []uint32{1}, 0, nil, []int{1})
		}
	}
	result(t, "() pub (let s 0) (for i 0 4 (new t pub 2) (put t 0 (+ (at t 0) 1)) (set s (+ s (at t 0)))) (ret s)", nil, 4)
	result(t, "() pub (let s 0) (new t pub 2) (for i 0 4 (put t 0 (+ (at t 0) 1)) (set s (+ s (at t 0)))) (ret s)", nil, 10)
	result(t, "() pub (let s 0) (for i 0 3 (new t pub 2) (for j 0 2 (new u pub 2) (put u j (+ (at u j) 1)) (put t j (+ (at t j) (at u j)))) (set s (+ (* s 100) (+ (* 10 (at t 0)) (at t 1))))) (ret s)", nil, 111111)
	result(t, "() pub (new t pub 2) (new u pub 2) (put t 0 3) (put u 1 4) (ret (+ (+ (at t 0) (* (at t 1) 10)) (+ (* (at u 0) 100) (* (at u 1) 1000))))", nil, 4003)
	l := units(t, "(unit a) (fn g () pub (new t pub 1) (put t 0 (+ (at t 0) 1)) (ret (at t 0))) (fn f () pub (ret (+ (call g) (* 10 (call g)))))")
	comes(t, l, "a.f", nil, 11, nil, nil)
	// One that is in scope is not touched by those that come and go beside it.
	runs(t, "((x pub) (p pub 2)) pub (new t pub 2) (put t 1 5) (for i 0 3 (new u pub 3) (put u 2 8)) (if x ((new v pub 4) (put v 0 9)) ((new w pub 5) (put w 4 9))) (new z pub 2) (ret (+ (at t 1) (+ (at t 0) (+ (at z 0) (at z 1)))))", []uint32{1, 2, 3}, 5, []uint32{2, 3}, []int{1})
	runs(t, "((x pub) (p pub 2)) pub (for i 0 2 (new u pub 3) (put u 2 8) (for j 0 2 (new v pub 2) (put v j 1)) (put p i (+ (at u 2) (at u 1)))) (ret x)", []uint32{1, 2, 3}, 1, []uint32{8, 8}, nil)
}

// P8.3: places of arrays, of numbers and of the words of loops: those, and no other ones.
func TestPlaces(t *testing.T) {
	args := []uint32{100, 101, 102, 103}
	for i := range 4 {
		want := []uint32{100, 101, 102, 103}
		want[i] = 7
		runs(t, fmt.Sprintf("((t pub 4)) pub (put t %d 7) (ret 1)", i), args, 1, want, nil)
		runs(t, fmt.Sprintf("((t pub 4)) pub (ret (at t %d))", i), args, args[i], args, nil)
		runs(t, fmt.Sprintf("((t pub 4)) pub (for i %d %d (put t i 7)) (ret 1)", i, i+1), args, 1, want, nil)
		runs(t, fmt.Sprintf("((t pub 4)) pub (let s 0) (for i %d %d (set s (at t i))) (ret s)", i, i+1), args, args[i], args, nil)
		runs(t, fmt.Sprintf("((t pub 4)) pub (new u pub 4) (for i 0 4 (put u i (at t i))) (put u %d 7) (for i 0 4 (put t i (at u i))) (ret 1)", i), args, 1, want, nil)
	}
	runs(t, "((t pub 4)) pub (put t 0 (at t 3)) (put t 3 (at t 1)) (ret (at t 3))", args, 101, []uint32{103, 101, 102, 101}, nil)
	runs(t, "((t pub 4)) pub (put t 2 (+ (at t 2) (at t 2))) (ret 1)", args, 1, []uint32{100, 101, 204, 103}, nil)
	runs(t, "((t pub 4)) pub (for i 0 4 (put t i (at t i))) (put t 1 (at t 1)) (ret 1)", args, 1, args, nil)
	runs(t, "((t pub 4)) pub (for i 0 4 (put t i (at t 0))) (ret 1)", args, 1, []uint32{100, 100, 100, 100}, nil)
	runs(t, "((t pub 4)) pub (for i 0 4 (put t 0 (at t i))) (ret 1)", args, 1, []uint32{103, 101, 102, 103}, nil)
	runs(t, "((t pub 4)) pub (for i 0 2 (for j 2 4 (put t i (+ (at t i) (at t j))))) (ret 1)", args, 1, []uint32{305, 306, 102, 103}, nil)
	runs(t, "((t pub 2) (x pub) (u sec 2)) pub (for i 0 2 (put u i (- (at t i) x)) (put t i i)) (ret (at t 1))", []uint32{30, 40, 5, 1, 2}, 1, []uint32{0, 1, 25, 35}, nil)
}

// P8.3: branches both ways, in order, with words that are set in them and read behind.
func TestBranches(t *testing.T) {
	for _, x := range []uint32{0, 1, 2, big} {
		way, body, other := 0, uint32(1), uint32(20)
		if x > 0 {
			way, body, other = 1, 10, 2
		}
		args, ways := []uint32{x}, []int{way}
		runs(t, "((x pub)) pub (if x () ()) (ret 5)", args, 5, nil, ways)
		runs(t, "((x pub)) pub (let y 1) (if x ((set y 10)) ()) (ret y)", args, body, nil, ways)
		runs(t, "((x pub)) pub (let y 2) (if x () ((set y 20))) (ret y)", args, other, nil, ways)
		runs(t, "((x pub)) pub (let y 0) (if x ((set y 10)) ((set y 1))) (ret y)", args, body, nil, ways)
		runs(t, "((x pub)) pub (let y 0) (if x ((let z 10) (set y z)) ((let z 1) (set y z))) (let z y) (ret z)", args, body, nil, ways)
		runs(t, "((x pub)) pub (let y 0) (if x ((new z pub 2) (put z 1 10) (set y (at z 1))) ((let z 1) (set y z))) (ret y)", args, body, nil, ways)
		runs(t, "((x pub)) pub (let y 0) (if x ((for z 10 11 (set y z))) ((new z pub 3) (put z 2 1) (set y (at z 2)))) (ret y)", args, body, nil, ways)
		runs(t, "((x pub)) pub (if x ((set x 10)) ((set x 1))) (ret x)", args, body, nil, ways)
		runs(t, "((x pub) (t pub 1)) pub (if (+ x 0) ((put t 0 10)) ((put t 0 1))) (ret (at t 0))", []uint32{x, 5}, body, []uint32{body}, ways)
		runs(t, "((t pub 1)) pub (if (at t 0) ((put t 0 10)) ((put t 0 1))) (ret (at t 0))", args, body, []uint32{body}, ways)
		runs(t, "((x pub)) pub (if x ((for i 0 3) (for i 0 9 (for j 1 1 (set x i)))) ()) (ret 5)", args, 5, nil, ways)
	}
	runs(t, "() pub (if 1 () ()) (if 0 () ()) (if 7 ((if 0 () ((if 1 () ())))) ()) (ret 0)", nil, 0, nil, []int{1, 0, 1, 0, 1})
	runs(t, "((n pub)) pub (let s 0) (for i 0 4 (if (< i n) ((set s (+ (* s 10) i))) ((let y 5) (set s (+ (* s 10) y))))) (ret s)", []uint32{2}, 155, nil, []int{1, 1, 0, 0})
	runs(t, "() pub (let s 0) (for i 0 3 (if i ((for j 0 2 (if j ((set s (+ s i))) ()))) ((set s 100)))) (ret s)", nil, 103, nil, []int{0, 1, 0, 1, 1, 0, 1})
	runs(t, "((x pub)) pub (let s 1) (if x ((set s 2) (for i 0 3 (let y i) (if (== y 1) ((set s (+ s 10))) ())) (set s (+ s 100))) ((set s 7))) (ret s)", []uint32{4}, 112, nil, []int{1, 0, 1, 0})
}

// P8.3: words that are set in a loop, and read behind it, and in its next round.
func TestSetInLoops(t *testing.T) {
	result(t, "((n pub)) pub (let a 0) (let b 1) (for i 0 10 (let c (+ a b)) (set a b) (set b c)) (ret (+ a n))", []uint32{1000}, 1055)
	result(t, "((x pub)) pub (for i 0 3 (set x (* x x))) (ret x)", []uint32{2}, 256)
	result(t, "((x pub) (y pub)) pub (for i 0 3 (set x y) (set y (+ y i)) (for j 0 2 (set x (+ x j)))) (ret (+ (* x 100) y))", []uint32{2, 3}, 506)
}

// P8.3: branches in calls that stand in expressions, in order.
func TestBranchesOfCalls(t *testing.T) {
	const h = "(unit a) (fn h ((x pub)) pub (if x ((if (== x 2) () ())) ()) (ret x)) "
	for text, want := range map[string][]int{
		"(fn f () pub (let y (- (call h 0) (call h 1))) (ret 9))":                                                                                                     {0, 1, 0},
		"(fn f () pub (let y (sel (call h 2) (call h 0) (call h 1))) (ret 9))":                                                                                        {1, 1, 0, 1, 0},
		"(fn f () pub (let y (call h (call h 2))) (ret 9))":                                                                                                           {1, 1, 1, 1},
		"(fn f () pub (if (call h 1) () ()) (ret 9))":                                                                                                                 {1, 0, 1},
		"(fn f () pub (if (call h 2) ((let y (call h 0))) ()) (ret 9))":                                                                                               {1, 1, 1, 0},
		"(fn f () pub (let y 1) (for i 0 3 (set y (call h i))) (ret 9))":                                                                                              {0, 1, 0, 1, 1},
		"(fn f () pub (new t pub 1) (put t 0 (call h 1)) (if (at t 0) () ()) (ret 9))":                                                                                {1, 0, 1},
		"(fn g ((x pub) (y pub)) pub (if x () ()) (if y () ()) (ret 0)) (fn f () pub (let y (call g (call h 0) (call h 2))) (ret 9))":                                 {0, 1, 1, 0, 1},
		"(fn g ((x pub)) pub (if x () ()) (let y (call h x)) (if y () ()) (ret y)) (fn f () pub (if 1 () ()) (let y (call g 1)) (if 0 () ()) (ret (+ 8 (call h y))))": {1, 1, 1, 0, 1, 0, 1, 0},
	} {
		comes(t, units(t, h+text), "a.f", nil, 9, nil, want)
	}
}

// P8.3: calls of functions of the same unit, and of other ones, with arguments that are calls; each argument is at its place.
func TestCalls(t *testing.T) {
	l := units(t,
		"(unit a) (import b c) (fn f ((x pub)) pub (ret (+ x 1))) (fn g ((x pub) (y pub) (z pub)) pub (ret (+ (* x 100) (+ (* y 10) z)))) (fn own () pub (ret (call f 5))) (fn other () pub (ret (call b.f 5))) (fn both () pub (ret (+ (call f (call b.f 2)) (* 1000 (call b.f (call f 2)))))) (fn places ((p pub) (q pub)) pub (ret (call g q (+ p 1) p))) (fn six () pub (ret (call c.six 1 2 3 4 5 6))) (fn through () pub (ret (call b.g))) (fn inner ((x pub)) pub (ret (call g (call f x) (call g (call f (call b.f x)) x (call c.f x)) (call b.g))))",
		"(unit c) (fn six ((u pub) (v pub) (w pub) (x pub) (y pub) (z pub)) pub (ret (+ u (* 10 (+ v (* 10 (+ w (* 10 (+ x (* 10 (+ y (* 10 z))))))))))))  (fn f ((x pub)) pub (ret (* x 3)))",
		"(unit b) (import c) (fn f ((x pub)) pub (ret (* x 2))) (fn g () pub (ret (+ (call f 1) (* 100 (call c.f 1)))))")
	comes(t, l, "a.own", nil, 6, nil, nil)
	comes(t, l, "a.other", nil, 10, nil, nil)
	comes(t, l, "a.both", nil, 6005, nil, nil)
	comes(t, l, "a.places", []uint32{1, 7}, 721, nil, nil)
	comes(t, l, "a.six", nil, 654321, nil, nil)
	comes(t, l, "a.through", nil, 302, nil, nil) // a name alone is of the unit in which it stands
	comes(t, l, "b.g", nil, 302, nil, nil)
	comes(t, l, "a.inner", []uint32{1}, 3632, nil, nil)
	// What a function names is its own: what it calls neither sees it nor changes it.
	l = units(t,
		"(unit a) (import b) (fn g ((x pub)) pub (let y 50) (set x (+ x 1)) (set y (+ y x)) (new t pub 2) (put t 1 9) (for i 0 3 (put t 0 i)) (ret (+ y (at t 1)))) "+
			"(fn f ((x pub) (t pub 2)) pub (let y 3) (let z 0) (for i 0 2 (set z (+ (* 100 z) (+ i (call g x)))) (put t i (+ (at t i) i))) (ret (+ (* z 100) (+ (* y 10) x)))) "+
			"(fn h ((x pub)) pub (let y (call b.g x)) (set y (+ y (call b.g y))) (ret (+ (* y 10) x)))",
		"(unit b) (fn g ((y pub)) pub (let x (+ y 1)) (set y 0) (ret x))")
	comes(t, l, "a.g", []uint32{4}, 64, nil, nil)
	comes(t, l, "a.f", []uint32{4, 10, 20}, 646534, []uint32{10, 21}, nil)
	comes(t, l, "a.h", []uint32{4}, 114, nil, nil)
}

// P8.3: calls as deep within one another as mean.Run goes through.
func TestDeepCalls(t *testing.T) {
	var texts []string
	for u := range 3 {
		s := fmt.Sprintf("(unit u%d) ", u)
		if u > 0 {
			s += fmt.Sprintf("(import u%d) ", u-1)
		}
		for f := range 11 {
			callee := fmt.Sprintf("f%d", f-1)
			if f == 0 {
				callee = fmt.Sprintf("u%d.f10", u-1)
			}
			body := "(call " + callee + " (+ x 1))"
			if u == 0 && f == 0 {
				body = "x"
			}
			s += fmt.Sprintf("(fn f%d ((x pub)) pub (if x () ()) (ret %s)) ", f, body)
		}
		texts = append(texts, s)
	}
	ways := []int{0}
	for range 32 {
		ways = append(ways, 1)
	}
	comes(t, units(t, texts...), "u2.f10", []uint32{0}, 32, nil, ways)
}

// P8.3: of all that mean.Run goes through nothing is longer, lowered, than arrays that are new: a run of almost as many steps as may be, of nothing but them.
func TestLongRuns(t *testing.T) {
	run := func(g string, rounds int) {
		t.Helper()
		l := units(t, fmt.Sprintf("(unit a) (fn g () pub %s (ret 1)) (fn f () pub (let s 0) (for i 0 %d (set s (+ s (call g)))) (ret s))", g, rounds))
		comes(t, l, "a.f", nil, uint32(rounds), nil, nil)
		l[0].Funcs[1].Body[1].To++
		if _, _, e := mean.Run(l, "a.f", nil); e != api.ErrFuel {
			t.Errorf("%s, %d times: %d", g, rounds+1, e)
		}
	}
	run("(for i 0 64 (new t pub 1))", 42)
	run("(for i 0 64 (new t pub 8))", 42)
	run("(for i 0 62 (new t pub 16) (new u pub 16))", 23)
}

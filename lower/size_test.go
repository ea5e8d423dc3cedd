package lower

import (
	"fmt"
	"strings"
	"testing"

	"carling/api"
	"carling/check"
	"carling/irun"
	"carling/mean"
)

// helpers are functions that others call, ahead of them.
const helpers = "(fn none () pub (ret 7)) (fn six ((a pub) (b pub) (c pub) (d pub) (e pub) (f pub)) pub (ret (+ a (+ b (+ c (+ d (+ e f))))))) "

// last is the last function of a unit `a` of a text behind the helpers; lowered asks that it is not too long.
func last(t testing.TB, text string) api.Code {
	t.Helper()
	u := read(t, "(unit a) "+helpers+text)
	return lowered(t, u, len(u.Funcs)-1, nil)
}

// count is how many instructions of a kind there are.
func count(c api.Code, kind int) int {
	n := 0
	for _, x := range c.L {
		if x.Kind == kind {
			n++
		}
	}
	return n
}

// P8.2: each kind of expression and statement alone, in a function of the least weight that has it.
func TestSizeOfEach(t *testing.T) {
	for _, e := range []string{"0", "4294967295", "x", "y", "(at t 0)", "(at t 1)", "(+ x y)", "(+ 1 2)", "(+ x x)", "(sel x y x)", "(sel 1 2 3)", "(call none)", "(call six 1 2 3 4 5 6)", "(call six x y x y x y)", "(+ (at t 0) (at t 1))"} {
		last(t, "(fn f ((x pub) (y pub) (t pub 2)) pub (ret "+e+"))")
		last(t, "(fn f ((x pub) (y pub) (t pub 2)) pub (let z "+e+") (ret z))")
		last(t, "(fn f ((x pub) (y pub) (t pub 2)) pub (set x "+e+") (ret 0))")
		last(t, "(fn f ((x pub) (y pub) (t pub 2)) pub (put t 1 "+e+") (ret 0))")
		last(t, "(fn f ((x pub) (y pub) (t pub 2)) pub (if "+e+" () ()) (ret 0))")
		last(t, "(fn f ((x pub) (y pub) (t pub 2)) pub (for i 1 2 (put t i "+e+")) (ret 0))")
	}
	for n := 1; n <= 16; n++ {
		c := last(t, fmt.Sprintf("(fn f () pub (new t pub %d) (ret 0))", n))
		if k := count(c, api.IStore); k != n {
			t.Errorf("an array of %d: %d stores", n, k)
		}
	}
	last(t, "(fn f ((a pub) (b pub) (c pub) (d pub) (e pub) (g pub)) pub (ret g))")
	last(t, "(fn f ((a pub 16) (b pub 16) (c pub 16) (d pub 16) (e pub 16) (g pub 16)) pub (ret (at g 15)))")
}

// P8.2: a loop is its body, as often as it has rounds; without rounds, or with nothing in it, it is nothing.
func TestSizeOfLoops(t *testing.T) {
	for rounds := range 65 {
		c := last(t, fmt.Sprintf("(fn f ((t pub 2)) pub (for i 0 %d (put t 1 i)) (ret 0))", rounds))
		if n := count(c, api.IStore); n != rounds {
			t.Errorf("%d rounds: %d stores", rounds, n)
		}
		c = last(t, fmt.Sprintf("(fn f ((t pub 2)) pub (for i %d 64 (put t 1 i)) (ret 0))", rounds))
		if n := count(c, api.IStore); n != 64-rounds {
			t.Errorf("%d rounds: %d stores", 64-rounds, n)
		}
	}
	for loops, want := range map[string]int{
		"(for i 0 3 (for j 0 5 (put t 1 j)))":                             15,
		"(for i 0 64 (for j 0 10 (put t 1 j)))":                           640,
		"(for i 0 64 (for j 0 0 (put t 1 j)))":                            0,
		"(for i 0 0 (for j 0 64 (put t 1 j)))":                            0,
		"(for i 0 4 (put t 0 i) (for j 0 2 (put t 1 j)) (put t 0 1))":     16,
		"(for i 0 2 (for j 0 2 (for k 0 2 (put t 0 i) (put t 1 k))))":     16,
		"(for i 5 2 (put t 0 i))":                                         0,
		"(for i 64 64 (put t 0 i))":                                       0,
		"(for i 64 0 (for j 0 64 (for k 0 64 (for l 0 64 (put t 0 l)))))": 0,
		"(for i 0 64 (for j 0 64 (for k 0 64 (for l 2 2 (put t 0 l)))))":  0,
		"(for i 0 64 (for j 0 64 (for k 0 64 (for l 0 64))))":             0,
		"(for i 0 3 (for j 0 64 (for k 0 64 (for l 0 64))) (put t 0 i))":  3,
		"(for i 0 3 (if i ((put t 0 1)) ((for j 0 4 (put t 1 j)))))":      15,
		"(for i 0 2 (new u pub 3) (put u i 1))":                           8,
		"(if 1 ((for i 0 64 (for j 0 64 (for k 0 64 (for l 0 64))))) ())": 0,
		"(if 1 () ((for i 0 64 (for j 0 64 (for k 0 64 (for l 0 64))))))": 0,
		"(if 1 ((put t 0 1)) ((put t 0 2) (put t 1 2)))":                  3,
	} {
		c := last(t, "(fn f ((t pub 2)) pub "+loops+" (ret 0))")
		if n := count(c, api.IStore); n != want {
			t.Errorf("%s: %d stores; not %d", loops, n, want)
		}
	}
}

// P8.2, and example 5 of the whole: a loop of so many rounds is so many times its body, and no jump goes back.
func TestLoopIsItsBodyAgain(t *testing.T) {
	long := func(statements string) int {
		c := last(t, "(fn f ((x pub) (t pub 4)) pub "+statements+" (ret 0))")
		for at, x := range c.L {
			if (x.Kind == api.IJump || x.Kind == api.IZero) && x.C <= at {
				t.Errorf("%s: %d goes back: %+v", statements, at, x)
			}
		}
		return len(c.L)
	}
	nothing := long("")
	for _, body := range []string{"(let y i)", "(let y (call none)) (set y i)", "(set x (+ x i))", "(new u pub 4) (put u i 1)", "(put t i (at t i))", "(put t i (at t 0))", "(put t 2 (at t i))", "(if i ((set x i)) ())", "(if x () ((put t i x)))", "(if 0 ((set x 1)) ((set x 2)))", "(for j 0 3 (put t j i))", "(for j 0 3 (if j ((put t i j)) ()))"} {
		one := long("(for i 0 1 "+body+")") - nothing
		if one < 1 {
			t.Errorf("%s: %d instructions", body, one)
		}
		for from := range 5 {
			for to := range 5 {
				if n := long(fmt.Sprintf("(for i %d %d %s)", from, to, body)) - nothing; n != one*max(to-from, 0) {
					t.Errorf("from %d to %d: %s: %d instructions; one round is %d", from, to, body, n, one)
				}
			}
		}
	}
}

// P8.2: branches of which both sides are empty, one is, and none is; alone, in loops, and within one another.
func TestSizeOfBranches(t *testing.T) {
	sides := []string{"", "(set x 1)", "(let z x)", "(new u pub 1)", "(if y () ())", "(for i 0 2 (set x i))", "(for i 2 2 (set x i))", "(let z 1) (let v 2) (set x (+ z v))"}
	for _, body := range sides {
		for _, other := range sides {
			s := "(if x (" + body + ") (" + other + "))"
			for form, want := range map[string]int{"%s": 1, "(for k 0 9 %s)": 9, "(if y (%s) ())": 2, "(if y () (%s))": 2, "(if y (%[1]s) (%[1]s))": 3} {
				c := last(t, "(fn f ((x pub) (y pub)) pub "+fmt.Sprintf(form, s)+" (ret x))")
				inner := strings.Count(body+other, "(if") * strings.Count(form, "%")
				if form == "(for k 0 9 %s)" {
					inner *= 9
				}
				if n := count(c, api.IZero); n != want+inner {
					t.Errorf(form+": %d branches; not %d", s, n, want+inner)
				}
			}
		}
	}
}

// heaviest is a unit `a` of the helpers and of a function `f` of the greatest weight that there may be: these statements, again and again, each in a scope of their own, and arrays. The statements may read a word x and an array t of 16.
func heaviest(t testing.TB, statements string) api.Unit {
	t.Helper()
	u := read(t, "(unit a) "+helpers+"(fn f ((x pub) (t pub 16)) pub (for i 0 1 "+statements+") (ret x))")
	f := &u.Funcs[len(u.Funcs)-1]
	again := f.Body
	f.Body = nil
	for check.Weight(*f)+check.Weight(api.Func{Body: again})-2 <= api.MaxCode {
		f.Body = append(f.Body, again...)
	}
	for check.Weight(*f) < api.MaxCode {
		pad := min(api.MaxCode-check.Weight(*f), api.MaxLen)
		space := api.Stmt{Kind: api.SNew, Name: "pad", Type: api.Type{Len: pad}}
		f.Body = append(f.Body, api.Stmt{Kind: api.SFor, Name: "i", To: 1, Body: []api.Stmt{space}})
	}
	return u
}

// P8.2, P8.3: functions of the greatest weight that there may be, of each kind of statement and expression; and, of those that mean.Run can go through, what comes of them.
func TestGreatestWeight(t *testing.T) {
	statements := []string{
		"(new u pub 1)", "(new u pub 16)", "(new u pub 16) (new v pub 16) (new w pub 16)", "(for j 0 64 (new u pub 1) (new v pub 2))",
		"(let y 1)", "(set x x)", "(set x 1)", "(put t i 1)", "(put t 3 x)", "(put t i (at t 2))", "(let y (at t i))",
		"(let y (+ x 1))", "(set x (sel x (at t 1) 2))", "(set x (call none))", "(let y (call six 1 2 3 4 5 6))", "(let y (call six x x x x x x))", "(set x (- (* 3 x) (^ (at t 9) (call none))))",
		"(if x () ())", "(if 0 () ())", "(if x ((set x 1)) ())", "(if x () ((set x 1)))", "(if x ((set x 0)) ((set x 1)))", "(if x ((if x ((if x () ())) ())) ((if x () ((if x () ())))))", "(if (< x 9) ((let y x) (set x (+ y 1))) ((put t 1 x) (new u pub 3)))",
		"(for j 0 64 (set x j))", "(for j 0 64 (put t 1 j))", "(for j 0 16 (for k 0 16 (put t j k)))", "(for j 0 64 (if j ((set x j)) ((let y 1))))", "(for j 0 64 (for k 0 64 (for l 0 64))) (let y 2)",
	}
	went := 0
	for _, s := range statements {
		u := heaviest(t, s)
		codes := all(t, []api.Unit{u})
		args := make([]uint32, 17)
		o, b, e := mean.Run([]api.Unit{u}, "a.f", args)
		if e != api.OK {
			continue
		}
		went++
		gotO, gotB, gotE := irun.Run(codes, "a.f", args)
		if got, want := fmt.Sprint(gotO, gotB, gotE), fmt.Sprint(o, b, e); got != want {
			t.Errorf("%s: %s; not %s", s, got, want)
		}
	}
	if went < 20 {
		t.Errorf("of %d functions %d were gone through", len(statements), went)
	}
}

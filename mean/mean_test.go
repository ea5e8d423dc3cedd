package mean

import (
	"fmt"
	"slices"
	"testing"

	"carling/api"
	"carling/check"
	"carling/sexp"
	"carling/tree"
)

// read is the unit of a text.
func read(t testing.TB, text string) api.Unit {
	t.Helper()
	l, e, at := sexp.Parse(text)
	if e != api.OK {
		t.Fatalf("%s: Parse: %d at %d", text, e, at)
	}
	u, e, at := tree.Unit(l)
	if e != api.OK {
		t.Fatalf("%s: Unit: %d at %d", text, e, at)
	}
	return u
}

// units are those of texts.
func units(t testing.TB, texts ...string) []api.Unit {
	t.Helper()
	var l []api.Unit
	for _, s := range texts {
		l = append(l, read(t, s))
	}
	return l
}

// fails asks that a run answers an error, and nothing beside it.
func fails(t testing.TB, l []api.Unit, name string, args []uint32, want api.Errno) {
	t.Helper()
	o, branches, e := Run(l, name, args)
	if e != want || o.Result != 0 || len(o.Arrays) != 0 || len(branches) != 0 {
		t.Errorf("%q of %d: %+v, %d, %d; not %d", name, args, o, branches, e, want)
	}
}

// comes asks what comes of a run: its result, its arrays, its branches.
func comes(t testing.TB, l []api.Unit, name string, args []uint32, result uint32, arrays []uint32, branches []int) {
	t.Helper()
	o, b, e := Run(l, name, args)
	if e != api.OK || o.Result != result || !slices.Equal(o.Arrays, arrays) || !slices.Equal(b, branches) {
		t.Errorf("%q of %d: %+v, %d, %d; not %d, %d, %d", name, args, o, b, e, result, arrays, branches)
	}
}

// runs asks what comes of a function, of its text behind `(fn f `.
func runs(t testing.TB, rest string, args []uint32, result uint32, arrays []uint32, branches []int) {
	t.Helper()
	before := t.Failed()
	comes(t, units(t, "(unit a) (fn f "+rest+")"), "a.f", args, result, arrays, branches)
	if t.Failed() && !before {
		t.Log(rest)
	}
}

// slow is a function that would take too long.
const slow = "(fn slow ((x pub)) pub (for i 0 64 (for j 0 64 (for k 0 1))) (ret x)) "

// P6.1: the example of the chapter, and those of the whole.
func TestExamples(t *testing.T) {
	runs(t, "((x pub) (t pub 2)) pub (put t 1 x) (if x ((set x 9)) ()) (ret (+ x (at t 0)))", []uint32{5, 7, 8}, 16, []uint32{7, 5}, []int{1})
	runs(t, "((x pub)) pub (ret (+ x 1))", []uint32{4}, 5, nil, nil)
	runs(t, "((k sec)) sec (ret (sel k 1 2))", []uint32{4}, 1, nil, nil)
	runs(t, "((k sec)) sec (ret (sel k 1 2))", []uint32{0}, 2, nil, nil)
	runs(t, "() pub (ret (* 5 6))", nil, 30, nil, nil)
}

// P6.1: check.All's error goes ahead of all others, whichever function is asked for, and wherever the fault stands.
func TestCheckFirst(t *testing.T) {
	right := "(unit a) (fn f ((x pub)) pub (ret x)) " + slow
	long := read(t, "(unit b) (fn f () pub (ret 1))")
	for range 3 {
		long.Funcs[0].Body = append(long.Funcs[0].Body, api.Stmt{Kind: api.SFor, Name: "i", To: 64, Body: []api.Stmt{{Kind: api.SNew, Name: "t", Type: api.Type{Len: 16}}}})
	}
	cases := []struct {
		l    []api.Unit
		want api.Errno
	}{
		{append(units(t, right), api.Unit{}), api.ErrForm},
		{append(units(t, right), api.Unit{Name: "B"}), api.ErrForm},
		{append(units(t, right), api.Unit{Name: "b", Funcs: []api.Func{{Name: "f"}}}), api.ErrForm},
		{append(units(t, right), api.Unit{Name: "b", Funcs: []api.Func{{Name: "f", Result: api.Expr{Kind: api.EBin, Op: api.Add}}}}), api.ErrForm},
		{append(units(t, right), api.Unit{Name: "b", Funcs: []api.Func{{Name: "f", Result: api.Expr{Kind: 7}}}}), api.ErrForm},
		{append(units(t, right), long), api.ErrLong},
		{units(t, right, right), api.ErrTwice},
		{units(t, right, "(unit b) (fn f () pub (ret 1)) (fn f () pub (ret 1))"), api.ErrTwice},
		{units(t, right, "(unit b) (fn f () pub (let x 1) (let x 1) (ret x))"), api.ErrTwice},
		{units(t, right, "(unit b) (import c)"), api.ErrName},
		{units(t, right, "(unit b) (fn f () pub (ret x))"), api.ErrName},
		{units(t, right, "(unit b) (fn f () pub (ret (call f)))"), api.ErrName},
		{units(t, right, "(unit b) (fn f () pub (ret (call a.f 1)))"), api.ErrName},
		{units(t, right, "(unit b) (import a) (fn f () pub (ret (call a.f)))"), api.ErrType},
		{units(t, right, "(unit b) (fn f ((k sec)) pub (ret k))"), api.ErrLabel},
		{units(t, right, "(unit b) (fn f ((k sec)) pub (if k () ()) (ret 1))"), api.ErrLabel},
		{units(t, right, "(unit b) (fn f ((t pub 4)) pub (ret (at t 4)))"), api.ErrIndex},
		{units(t, right, "(unit b) (fn f ((t pub 4)) pub (for i 0 8 (put t i 0)) (ret 1))"), api.ErrIndex},
		{units(t, right, "(unit b) (import c)", "(unit c) (import b)"), api.ErrCycle},
	}
	for _, c := range cases {
		if e, _, _ := check.All(c.l); e != c.want {
			t.Fatalf("All(%+v): %d; not %d", c.l, e, c.want)
		}
		fails(t, c.l, "a.f", []uint32{1}, c.want)
		fails(t, c.l, "a.f", nil, c.want)
		fails(t, c.l, "a.slow", []uint32{1}, c.want)
		fails(t, c.l, "b.f", nil, c.want)
		fails(t, c.l, "a.none", nil, c.want)
		fails(t, c.l, "", []uint32{1, 2}, c.want)
		slices.Reverse(c.l)
		fails(t, c.l, "a.f", []uint32{1}, c.want)
		fails(t, c.l, "none", nil, c.want)
	}
	comes(t, units(t, right), "a.f", []uint32{1}, 1, nil, nil)
}

// P6.1: ErrNone of all but full names that functions have; ahead of ErrArg and ErrFuel.
func TestNone(t *testing.T) {
	l := units(t, "(unit a) (import b) (fn f ((x pub)) pub (ret x)) "+slow, "(unit b) (fn g () pub (ret 7)) (fn f ((x pub) (y pub)) pub (ret y))", "(unit c)")
	names := []string{"", ".", "a", "b", "c", "f", "g", "slow", "a.", ".f", "a.g", "b.slow", "c.f", "c.g", "c.", "a.x", "a.f.", ".a.f", "a..f", "a.a.f", "a.f.f", "a.ff", "aa.f", "a.f ", " a.f", "a f", "a-f", "A.f", "a.F", "f.a", "a.b.g", "a.f\x00", "a\x00.f", "b.g\n", "none.none"}
	for _, name := range names {
		for _, args := range [][]uint32{nil, {1}, {1, 2}} {
			fails(t, l, name, args, api.ErrNone)
			fails(t, nil, name, args, api.ErrNone)
			fails(t, l[2:], name, args, api.ErrNone)
		}
	}
	fails(t, nil, "a.f", nil, api.ErrNone)
	fails(t, []api.Unit{}, "a.f", nil, api.ErrNone)
	fails(t, l[1:], "a.f", []uint32{1}, api.ErrNone)
	comes(t, l, "a.f", []uint32{1}, 1, nil, nil)
	comes(t, l, "b.f", []uint32{1, 2}, 2, nil, nil)
	comes(t, l, "b.g", nil, 7, nil, nil)
	comes(t, l[1:], "b.g", nil, 7, nil, nil)
}

// P6.1: ErrArg of arguments more or fewer than a function has, of words and of arrays; ahead of ErrFuel.
func TestArguments(t *testing.T) {
	for params, n := range map[string]int{
		"": 0, "(x pub)": 1, "(x sec)": 1, "(x pub) (y sec)": 2, "(x pub) (y pub) (z pub) (u pub) (v pub) (w pub)": 6,
		"(t pub 1)": 1, "(t pub 2)": 2, "(t sec 3)": 3, "(t pub 16)": 16, "(t pub 2) (u pub 3)": 5,
		"(x pub) (t pub 4)": 5, "(t pub 4) (x pub)": 5, "(x pub) (t sec 4) (y sec)": 6, "(t pub 4) (x pub) (u pub 1)": 6, "(x pub) (t pub 1) (u pub 1) (y pub)": 4,
		"(t pub 16) (u pub 16) (v pub 16) (w pub 16) (x pub 16) (y pub 16)": 96,
	} {
		l := units(t, "(unit a) (fn f ("+params+") pub (ret 1)) (fn g ("+params+") pub (for i 0 64 (for j 0 64 (for k 0 1))) (ret 1))")
		for many := range 100 {
			args := make([]uint32, many)
			if many != n {
				fails(t, l, "a.f", args, api.ErrArg)
				fails(t, l, "a.g", args, api.ErrArg)
				continue
			}
			if _, _, e := Run(l, "a.f", args); e != api.OK {
				t.Errorf("(%s) of %d words: %d", params, many, e)
			}
			fails(t, l, "a.g", args, api.ErrFuel)
		}
	}
	l := units(t, "(unit a) (fn f () pub (ret 1)) "+slow)
	fails(t, l, "a.slow", nil, api.ErrArg)
	fails(t, l, "a.slow", []uint32{1, 2}, api.ErrArg)
	fails(t, l, "a.slow", []uint32{1}, api.ErrFuel)
	comes(t, l, "a.f", []uint32{}, 1, nil, nil)
}

// P6.1: Result and Arrays: of no array, of one, of several, with words between; each argument is the one of its place.
func TestOutcome(t *testing.T) {
	runs(t, "() pub (ret 3)", nil, 3, nil, nil)
	runs(t, "((x pub)) pub (set x 9) (ret 3)", []uint32{4}, 3, nil, nil)
	runs(t, "((x pub)) pub (new t pub 3) (put t 0 x) (ret (at t 0))", []uint32{4}, 4, nil, nil) // an array that is no parameter
	runs(t, "((t pub 1)) pub (ret 3)", []uint32{4}, 3, []uint32{4}, nil)
	runs(t, "((t pub 3)) pub (ret (at t 2))", []uint32{4, 5, 6}, 6, []uint32{4, 5, 6}, nil)
	runs(t, "((t sec 3)) pub (put t 1 9) (ret 3)", []uint32{4, 5, 6}, 3, []uint32{4, 9, 6}, nil)
	runs(t, "((t pub 2) (u sec 3)) sec (put u 0 7) (put t 1 8) (ret (- (at u 2) (at t 0)))", []uint32{1, 2, 3, 4, 5}, 4, []uint32{1, 8, 7, 4, 5}, nil)
	runs(t, "((u sec 3) (t pub 2)) sec (put u 0 7) (put t 1 8) (ret (- (at u 2) (at t 0)))", []uint32{1, 2, 3, 4, 5}, 4294967295, []uint32{7, 2, 3, 4, 8}, nil)
	runs(t, "((x pub) (t pub 2) (y pub)) pub (ret (+ x (* y 100)))", []uint32{1, 2, 3, 4}, 401, []uint32{2, 3}, nil)
	runs(t, "((t pub 2) (x pub) (u pub 1) (y pub) (v pub 3)) pub (ret (+ x (* y 100)))", []uint32{1, 2, 3, 4, 5, 6, 7, 8}, 503, []uint32{1, 2, 4, 6, 7, 8}, nil)
	runs(t, "((x pub) (t pub 2) (u pub 2) (y pub)) pub (put t 0 y) (put u 1 x) (ret (at u 0))", []uint32{1, 2, 3, 4, 5, 6}, 4, []uint32{6, 3, 4, 1}, nil)
	runs(t, "((z pub) (y pub) (x pub)) pub (ret (- (* z 100) (- (* y 10) x)))", []uint32{3, 2, 1}, 281, nil, nil)
	// Result is worked out behind the statements, and arrays are told as they stand at the end.
	runs(t, "((x pub) (t pub 1)) pub (put t 0 (+ (at t 0) 1)) (set x (at t 0)) (put t 0 (+ (at t 0) 1)) (ret (+ x (at t 0)))", []uint32{1, 5}, 13, []uint32{7}, nil)
	runs(t, "((x pub)) pub (ret x)", []uint32{4294967295}, 4294967295, nil, nil)
	six, doubled := make([]uint32, 96), make([]uint32, 96)
	for i := range six {
		six[i], doubled[i] = uint32(i)+1, 2*uint32(i)+2
	}
	body := ""
	for _, name := range []string{"z", "y", "x", "w", "v", "u"} {
		body += fmt.Sprintf("(for i 0 16 (put %s i (* 2 (at %s i)))) ", name, name)
	}
	runs(t, "((z pub 16) (y pub 16) (x pub 16) (w pub 16) (v pub 16) (u pub 16)) pub "+body+"(ret 1)", six, 1, doubled, nil)
}

// R3: what is handed in stays as it is, and so does what there is room for behind it; what is told is the caller's own.
func TestNothingIsShared(t *testing.T) {
	l := units(t, "(unit a) (import b) (fn f ((t pub 3) (x pub) (u sec 2)) pub (for i 0 3 (put t i (+ (at t i) i))) (set x 7) (put u 1 (call b.g x)) (if x ((new v pub 2) (put v 0 1)) ()) (ret x))", "(unit b) (fn g ((y pub)) pub (set y (+ y 1)) (ret y))", "(unit c)")
	room := []uint32{10, 20, 30, 1, 40, 50, 99, 98}
	args := room[:6]
	before := fmt.Sprintf("%+v %+v", l, room)
	var outs []api.Outcome
	var ways [][]int
	for range 3 {
		o, b, e := Run(l[:2], "a.f", args)
		if e != api.OK || o.Result != 7 || !slices.Equal(o.Arrays, []uint32{10, 21, 32, 40, 8}) || !slices.Equal(b, []int{1}) {
			t.Fatal(o, b, e)
		}
		outs, ways = append(outs, o), append(ways, b)
	}
	outs[0].Arrays[0], ways[0][0] = 77, 5
	if outs[1].Arrays[0] != 10 || ways[1][0] != 1 {
		t.Error("two answers share memory")
	}
	_ = append(outs[1].Arrays[:1], 66)
	if after := fmt.Sprintf("%+v %+v", l, room); after != before {
		t.Errorf("changed: %s", after)
	}
	// An array that nothing is put into is the caller's own, too.
	same := units(t, "(unit a) (fn f ((t pub 2)) pub (ret 1))")
	args = []uint32{1, 2}
	o, _, _ := Run(same, "a.f", args)
	o.Arrays[0] = 9
	if args[0] != 1 {
		t.Error("an answer shares memory with the arguments")
	}
	comes(t, same, "a.f", args, 1, []uint32{1, 2}, nil)
	fails(t, same, "a.f", room, api.ErrArg)
}

// R4: a run does not hang on those ahead of it, whatever came of them.
func TestSameAgain(t *testing.T) {
	l := units(t, "(unit a) (fn f ((x pub) (t pub 2)) pub (if x ((put t 0 (+ x (at t 1)))) ()) (new u pub 1) (put u 0 (+ (at u 0) 1)) (ret (+ (at u 0) x))) "+slow)
	for range 50 {
		comes(t, l, "a.f", []uint32{2, 3, 4}, 3, []uint32{6, 4}, []int{1})
		fails(t, l, "a.slow", []uint32{1}, api.ErrFuel)
		comes(t, l, "a.f", []uint32{0, 3, 4}, 1, []uint32{3, 4}, []int{0})
		fails(t, l, "a.f", nil, api.ErrArg)
		fails(t, l, "none", nil, api.ErrNone)
	}
	slices.Reverse(l[0].Funcs)
	comes(t, l, "a.f", []uint32{2, 3, 4}, 3, []uint32{6, 4}, []int{1})
}

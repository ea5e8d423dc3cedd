package lower

import (
	"fmt"
	"math"
	"slices"
	"testing"

	"carling/api"
	"carling/check"
	"carling/face"
	"carling/irun"
	"carling/sexp"
	"carling/tree"
)

// read is the unit of a text.
func read(t testing.TB, text string) api.Unit {
	t.Helper()
	l, e, at := sexp.Parse(text)
	if e != api.OK {
		t.Fatalf("%s: Parse: %d at %d", text, e, at)
	}
	u, e, at := tree.Unit(l)
	if e != api.OK {
		t.Fatalf("%s: Unit: %d at %d", text, e, at)
	}
	return u
}

// units are those of texts.
func units(t testing.TB, texts ...string) []api.Unit {
	t.Helper()
	var l []api.Unit
	for _, s := range texts {
		l = append(l, read(t, s))
	}
	return l
}

// shown are units as texts.
func shown(l []api.Unit) string {
	text := ""
	for _, u := range l {
		nodes, _ := tree.Nodes(u)
		s, _ := sexp.Print(nodes)
		text += s + "\n"
	}
	return text
}

// known are the signatures of all of some units.
func known(l []api.Unit) []api.Sig {
	var sigs []api.Sig
	for _, u := range l {
		sigs = append(sigs, face.Sigs(u)...)
	}
	return sigs
}

// lowered is a function, with what holds of each that is told with OK.
func lowered(t testing.TB, u api.Unit, i int, sigs []api.Sig) api.Code {
	t.Helper()
	c, e := Lower(u, i, sigs)
	if e != api.OK {
		t.Fatalf("%+v, %d: %d", u, i, e)
	}
	if e, at := irun.Right(c); e != api.OK {
		t.Fatalf("%+v, %d: not right: %d at %d: %+v", u, i, e, at, c)
	}
	f := u.Funcs[i]
	if c.Name != u.Name+"."+f.Name || len(c.Params) != len(f.Params) {
		t.Fatalf("%+v, %d: %s of %+v", u, i, c.Name, c.Params)
	}
	for k, p := range f.Params {
		if c.Params[k] != p.Type {
			t.Fatalf("%+v, %d: %s of %+v", u, i, c.Name, c.Params)
		}
	}
	if most := 4*check.Weight(f) + 8; len(c.L) > most || c.Regs > most {
		t.Fatalf("%+v, %d: %d instructions, %d registers; not at most %d", u, i, len(c.L), c.Regs, most)
	}
	return c
}

// all are the functions of units, each lowered with the signatures of all.
func all(t testing.TB, l []api.Unit) []api.Code {
	t.Helper()
	var codes []api.Code
	for _, u := range l {
		for i := range u.Funcs {
			codes = append(codes, lowered(t, u, i, known(l)))
		}
	}
	return codes
}

// fails asks that an error is told, and nothing beside it.
func fails(t testing.TB, u api.Unit, i int, sigs []api.Sig, want api.Errno) {
	t.Helper()
	c, e := Lower(u, i, sigs)
	if e != want || c.Name != "" || len(c.Params) != 0 || c.Regs != 0 || c.Cells != 0 || len(c.L) != 0 {
		t.Errorf("%+v, %d: %+v, %d; not %d", u, i, c, e, want)
	}
}

// numbers are which functions may be asked for of some, and which may not.
func numbers(n int) (in, out []int) {
	for i := range n {
		in = append(in, i)
	}
	return in, []int{-1, -2, n, n + 1, 16, 100, math.MinInt, math.MaxInt}
}

const good = " (fn good ((x pub)) pub (ret (+ x 1))) "

// heavy is a function whose weight is above what may be by one.
func heavy(t testing.TB) string {
	text := "(fn bad () pub (for i 0 64 (for j 0 31 (new t pub 1))) (new u pub 15) (ret 1))"
	if n := check.Weight(read(t, "(unit a) "+text).Funcs[0]); n != api.MaxCode+1 {
		t.Fatalf("%d", n)
	}
	return text
}

// P8.1: what check.Check tells of a function, wherever it stands among others, whichever one is asked for, and ahead of ErrArg.
func TestCheckFirst(t *testing.T) {
	sigs := []api.Sig{{Name: "b.h", Params: []api.Type{{}}}, {Name: "b.s", Sec: true}, {Name: "b.t", Params: []api.Type{{Len: 2}}}, {Name: "c.h", Params: []api.Type{{}}}}
	cases := map[string]api.Errno{
		"(fn bad () pub (let x 1) (let x 2) (ret x))":                     api.ErrTwice,
		"(fn bad ((x pub) (x pub)) pub (ret 1))":                          api.ErrTwice,
		"(fn bad ((x pub)) pub (new x pub 1) (ret 1))":                    api.ErrTwice,
		"(fn bad ((x pub)) pub (for x 0 1) (ret 1))":                      api.ErrTwice,
		"(fn bad () pub (ret x))":                                         api.ErrName,
		"(fn bad () pub (set x 1) (ret 1))":                               api.ErrName,
		"(fn bad () pub (if 1 ((let x 1)) ()) (ret x))":                   api.ErrName,
		"(fn bad () pub (for i 0 1) (ret i))":                             api.ErrName,
		"(fn bad () pub (for i 0 0 (put t 0 1)) (ret 1))":                 api.ErrName,
		"(fn bad () pub (ret (call bad)))":                                api.ErrName,
		"(fn bad () pub (ret (call behind)))":                             api.ErrName,
		"(fn bad () pub (ret (call b.none 1)))":                           api.ErrName,
		"(fn bad () pub (ret (call c.h 1)))":                              api.ErrName,
		"(fn bad () pub (ret (call a.good 1)))":                           api.ErrName,
		"(fn bad () pub (ret (call b.h)))":                                api.ErrType,
		"(fn bad () pub (ret (call b.h 1 2)))":                            api.ErrType,
		"(fn bad () pub (ret (call b.t 1)))":                              api.ErrType,
		"(fn bad ((t pub 2)) pub (ret t))":                                api.ErrType,
		"(fn bad ((x pub)) pub (ret (at x 0)))":                           api.ErrType,
		"(fn bad () pub (for i 0 1 (set i 1)) (ret 1))":                   api.ErrType,
		"(fn bad ((k sec)) pub (ret k))":                                  api.ErrLabel,
		"(fn bad ((k sec)) pub (if k () ()) (ret 1))":                     api.ErrLabel,
		"(fn bad ((k sec)) pub (ret (call b.h k)))":                       api.ErrLabel,
		"(fn bad () pub (ret (call b.s)))":                                api.ErrLabel,
		"(fn bad ((k sec) (t pub 1)) pub (put t 0 k) (ret 1))":            api.ErrLabel,
		"(fn bad ((t pub 4)) pub (ret (at t 4)))":                         api.ErrIndex,
		"(fn bad ((t pub 4)) pub (for i 0 8 (put t i 0)) (ret 1))":        api.ErrIndex,
		"(fn bad ((t pub 4) (x pub)) pub (put t x 0) (ret 1))":            api.ErrIndex,
		"(fn bad () pub (for i 0 64 (for j 0 64 (let x 1))) (ret 1))":     api.ErrLong,
		"(fn good ((x pub)) pub (ret x)) (fn good ((x pub)) pub (ret x))": api.ErrTwice,
		heavy(t): api.ErrLong,
	}
	for bad, want := range cases {
		for _, text := range []string{bad, good + bad, bad + " (fn behind () pub (ret 1))", good + bad + " (fn behind () pub (ret 1))"} {
			u := read(t, "(unit a) (import b) "+text)
			if e, _ := check.Check(u, sigs); e != want {
				t.Fatalf("%s: %d; not %d", text, e, want)
			}
			in, out := numbers(len(u.Funcs))
			for _, i := range append(in, out...) {
				fails(t, u, i, sigs, want)
			}
		}
	}
}

// P8.1: what check.Check tells of a unit as a whole, and of signatures that are not known.
func TestUnitFirst(t *testing.T) {
	right := read(t, "(unit a) (import b) "+good+"(fn f () pub (ret (call b.h 1)))")
	sigs := []api.Sig{{Name: "b.h", Params: []api.Type{{}}}}
	wrong := func(change func(u *api.Unit), want api.Errno) {
		t.Helper()
		u := right
		u.Funcs = slices.Clone(right.Funcs)
		change(&u)
		in, out := numbers(len(u.Funcs))
		for _, i := range append(in, out...) {
			fails(t, u, i, sigs, want)
		}
	}
	wrong(func(u *api.Unit) { u.Name = "" }, api.ErrForm)
	wrong(func(u *api.Unit) { u.Name = "A" }, api.ErrForm)
	wrong(func(u *api.Unit) { u.Imports = []string{"b.c"} }, api.ErrForm)
	wrong(func(u *api.Unit) { u.Funcs[0].Name = "x.y" }, api.ErrForm)
	wrong(func(u *api.Unit) { u.Funcs[1].Name = "" }, api.ErrForm)
	wrong(func(u *api.Unit) { u.Funcs[1].Result = api.Expr{} }, api.ErrForm)
	wrong(func(u *api.Unit) { u.Funcs[1].Result = api.Expr{Kind: api.EBin, Op: api.Add} }, api.ErrForm)
	wrong(func(u *api.Unit) { u.Funcs[1].Result = api.Expr{Kind: api.ESel} }, api.ErrForm)
	wrong(func(u *api.Unit) { u.Funcs[1].Result = api.Expr{Kind: api.EAt, Name: "t"} }, api.ErrForm)
	wrong(func(u *api.Unit) { u.Funcs[1].Result = api.Expr{Kind: 7} }, api.ErrForm)
	wrong(func(u *api.Unit) { u.Funcs[1].Body = []api.Stmt{{}} }, api.ErrForm)
	wrong(func(u *api.Unit) { u.Funcs[1].Body = []api.Stmt{{Kind: 7}} }, api.ErrForm)
	wrong(func(u *api.Unit) { u.Funcs[1].Body = []api.Stmt{{Kind: api.SNew, Name: "t"}} }, api.ErrForm)
	wrong(func(u *api.Unit) { u.Funcs[1].Body = []api.Stmt{{Kind: api.SFor, Name: "i", To: 65}} }, api.ErrForm)
	wrong(func(u *api.Unit) { u.Funcs[0].Params = make([]api.Param, 7) }, api.ErrForm)
	wrong(func(u *api.Unit) { u.Funcs = make([]api.Func, 17) }, api.ErrForm)
	wrong(func(u *api.Unit) { u.Imports = []string{"b", "b"} }, api.ErrTwice)
	wrong(func(u *api.Unit) { u.Imports = []string{"b", "a"} }, api.ErrTwice)
	wrong(func(u *api.Unit) { u.Imports = nil }, api.ErrName)
	wrong(func(u *api.Unit) { u.Funcs[1].Name = "good" }, api.ErrTwice)
	sigs = nil
	wrong(func(*api.Unit) {}, api.ErrName)
	sigs = []api.Sig{{Name: "b.h"}}
	wrong(func(*api.Unit) {}, api.ErrType)
	sigs = []api.Sig{{Name: "b.h", Params: []api.Type{{}}, Sec: true}}
	wrong(func(*api.Unit) {}, api.ErrLabel)
	fails(t, api.Unit{}, 0, nil, api.ErrForm)
}

// P8.1: ErrArg of a number that no function has, where nothing is wrong.
func TestArg(t *testing.T) {
	text := "(unit a) (import b) "
	for n := range 17 {
		u := read(t, text)
		in, out := numbers(n)
		for _, i := range in {
			if c := lowered(t, u, i, nil); c.Name != fmt.Sprintf("a.f%d", i) {
				t.Errorf("%d of %d: %s", i, n, c.Name)
			}
		}
		for _, i := range out {
			fails(t, u, i, nil, api.ErrArg)
		}
		text += fmt.Sprintf("(fn f%d () pub (ret %d))", n, n)
	}
}

// P8.1: the name and the parameters: words and arrays, public and secret ones, in order.
func TestHead(t *testing.T) {
	u := read(t, "(unit some_unit) (fn f () pub (ret 1)) (fn long_name_12 ((x pub) (t sec 3) (k sec) (u pub 16) (y pub) (v pub 1)) sec (ret k))")
	c := lowered(t, u, 0, nil)
	if c.Name != "some_unit.f" || len(c.Params) != 0 || c.Cells != 0 {
		t.Errorf("%+v", c)
	}
	c = lowered(t, u, 1, nil)
	want := []api.Type{{}, {Sec: true, Len: 3}, {Sec: true}, {Len: 16}, {}, {Len: 1}}
	if c.Name != "some_unit.long_name_12" || !slices.Equal(c.Params, want) || c.Cells < 20 || c.Regs < 3 {
		t.Errorf("%+v", c)
	}
}

// P8.1: calls are of full names, with their arguments in order, in the order in which they are worked out.
func TestCallNames(t *testing.T) {
	u := read(t, "(unit a) (import b c) (fn g ((x pub)) pub (ret x)) (fn h () pub (ret 1)) (fn f ((x pub)) pub (let y (call g (call b.g x))) (if (call h) ((set y (call c.h))) ()) (ret (call b.k (call h) (call g y))))")
	sigs := []api.Sig{{Name: "b.g", Params: []api.Type{{}}}, {Name: "c.h"}, {Name: "b.k", Params: []api.Type{{}, {}}}}
	var names []string
	for _, x := range lowered(t, u, 2, sigs).L {
		if x.Kind == api.ICall {
			names = append(names, fmt.Sprint(x.Name, len(x.Args)))
		}
	}
	if want := []string{"b.g1", "a.g1", "a.h0", "c.h0", "a.h0", "a.g1", "b.k2"}; !slices.Equal(names, want) {
		t.Errorf("%s; not %s", names, want)
	}
}

// P8.1: signatures more, of other names, and the unit's own among them, do not matter.
func TestSigsMore(t *testing.T) {
	u := read(t, "(unit a) (import b) (fn g ((x pub)) pub (ret x)) (fn f ((x pub)) pub (ret (+ (call g x) (call b.h x))))")
	sigs := []api.Sig{{Name: "b.h", Params: []api.Type{{}}}}
	want := fmt.Sprintf("%+v", lowered(t, u, 1, sigs))
	more := append(append([]api.Sig{{Name: "a.g", Sec: true}, {Name: "c.h", Params: []api.Type{{Len: 3}}}}, sigs...), face.Sigs(u)...)
	if got := fmt.Sprintf("%+v", lowered(t, u, 1, more)); got != want {
		t.Errorf("%s; not %s", got, want)
	}
}

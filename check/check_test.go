package check

import (
	"fmt"
	"strings"
	"testing"

	"carling/api"
	"carling/face"
	"carling/sexp"
	"carling/tree"
)

// read is the unit of a text.
func read(t testing.TB, s string) api.Unit {
	t.Helper()
	l, e, at := sexp.Parse(s)
	if e != api.OK {
		t.Fatalf("%s: %d at %d", s, e, at)
	}
	u, e, at := tree.Unit(l)
	if e != api.OK {
		t.Fatalf("%s: %d at %d", s, e, at)
	}
	return u
}

// told asks for what Check tells.
func told(t *testing.T, u api.Unit, l []api.Sig, want api.Errno, n int) {
	t.Helper()
	if e, m := Check(u, l); e != want || m != n {
		t.Errorf("Check(%+v, %+v): %d, %d; not %d, %d", u, l, e, m, want, n)
	}
}

// toldText asks for what Check tells of a unit's text, no other signature being known.
func toldText(t *testing.T, s string, want api.Errno, n int) {
	t.Helper()
	if e, m := Check(read(t, s), nil); e != want || m != n {
		t.Errorf("Check(%s): %d, %d; not %d, %d", s, e, m, want, n)
	}
}

// others are the signatures that a unit a knows: of b and d, which it imports, of c, which it does not, of itself, and one that is none of a unit.
func others(t testing.TB) []api.Sig {
	l, e := face.Read("b.p pub : pub\nb.q pub sec : sec\nb.r sec : pub\nb.v pub4 : pub\nb.w pub sec4 : pub\nb.y sec4 pub : pub\nb.z : sec\nb.o : pub\nb.six pub sec pub sec pub sec : pub\nd.p sec : sec\nc.p pub : pub\na.g pub : pub\na.f pub : pub\na.late : pub\n")
	if e != api.OK {
		t.Fatal(e)
	}
	return append(l, api.Sig{Name: "b"}, api.Sig{Name: "late"}, api.Sig{Name: "f"}, api.Sig{Name: "b.p", Sec: true})
}

// The functions ahead of the one that is asked about, and its parameters.
const (
	ahead  = "(unit a) (import b d) (fn g ((x pub)) pub (ret x)) (fn h ((k sec)) pub (ret 1)) (fn m () sec (ret 1)) (fn arr ((t pub 4)) pub (ret 1)) "
	number = 4
	params = "((x pub) (k sec) (t pub 4) (s sec 4)) "
)

// function asks for what Check tells of a function with those parameters behind those functions: a label, statements and (ret E). Those behind it are nobody's matter, but that a unit with which nothing is wrong ahead of it is told OK.
func function(t *testing.T, s string, want api.Errno) {
	t.Helper()
	text := ahead + "(fn f " + params + s + ")"
	n := -1
	if want != api.OK {
		n = number
	}
	if e, m := Check(read(t, text), others(t)); e != want || m != n {
		t.Errorf("%s: %d, %d; not %d, %d", s, e, m, want, n)
	}
	if e, m := Check(read(t, text+" (fn late () pub (ret 1))"), others(t)); e != want || m != n {
		t.Errorf("%s, with one behind it: %d, %d; not %d, %d", s, e, m, want, n)
	}
	if want == api.OK {
		want, n = api.ErrName, number+1
	}
	if e, m := Check(read(t, text+" (fn late () pub (ret none)) (fn late () pub (ret none))"), others(t)); e != want || m != n {
		t.Errorf("%s, with wrong ones behind it: %d, %d; not %d, %d", s, e, m, want, n)
	}
}

// statement asks for what Check tells of statements, wherever they may stand.
func statement(t *testing.T, s string, want api.Errno) {
	t.Helper()
	for _, form := range []string{"%s", "(let ahead 1) %s", "%s (let behind 1)", "(for j 0 1 %s)", "(for j 1 1 %s)", "(for j 0 1 (let ahead 1) %s (let behind 2))", "(if 1 (%s) ())", "(if 0 () (%s))", "(if x ((let ahead 1) %s) ((let ahead 2)))", "(if x ((let ahead 1)) ((let ahead 2) %s))", "(if x ((for j 0 1 (if 0 () ((if 1 (%s) ()))))) ())"} {
		function(t, "pub "+fmt.Sprintf(form, s)+" (ret 1)", want)
	}
}

// expression asks for what Check tells of an expression, wherever it may stand: wrong, whatever may be secret there.
func expression(t *testing.T, s string, want api.Errno) {
	t.Helper()
	function(t, "sec (ret "+s+")", want)
	for _, form := range []string{"(let y %s)", "(set k %s)", "(put s 0 %s)", "(let y (+ 1 %s))", "(let y (< %s 1))", "(let y (sel %s 1 2))", "(let y (sel 1 %s 2))", "(let y (sel 1 2 %s))", "(let y (call h %s))", "(let y (call b.q 1 %s))", "(let y (call d.p (- 0 %s)))"} {
		function(t, "pub "+fmt.Sprintf(form, s)+" (ret 1)", want)
	}
}

// secrecy asks whether an expression with which nothing is wrong is secret, of each thing that is told it.
func secrecy(t *testing.T, s string, secret bool) {
	t.Helper()
	expression(t, s, api.OK)
	want := api.OK
	if secret {
		want = api.ErrLabel
	}
	function(t, "pub (ret "+s+")", want)
	function(t, "pub (let y "+s+") (ret y)", want)
	for _, form := range []string{"(set x %s)", "(put t 0 %s)", "(if %s () ())", "(let y (call g %s))", "(let y %s) (set x y)", "(let y (call b.six 1 1 %s 1 1 1))", "(let y (call b.six 1 1 1 1 (+ 1 %s) 1))"} {
		function(t, "pub "+fmt.Sprintf(form, s)+" (ret 1)", want)
	}
}

// P5.2: units that have no nodes.
func TestFormOfUnits(t *testing.T) {
	one := api.Expr{Kind: api.ENum, N: 1}
	good := api.Func{Name: "f", Result: one}
	told(t, api.Unit{Name: "a", Funcs: []api.Func{good}}, nil, api.OK, -1)
	bad := []api.Unit{
		{},
		{Name: "A"},
		{Name: "a", Imports: []string{""}},
		{Name: "a", Imports: []string{"a", "a", "B"}},
		{Name: "a", Imports: []string{"b", "c", "d", "e", "f", "g", "h", "i"}},
		{Name: "a", Imports: []string{"b", "b", "b", "b", "b", "b", "b", "b"}},
		{Name: "a", Imports: []string{"a", "a"}, Funcs: []api.Func{{Name: "f"}}},
		{Name: "a", Funcs: []api.Func{good, good, {}}},
		{Name: "a", Funcs: make([]api.Func, 17)},
	}
	exprs := []api.Expr{{}, {Kind: 7, N: 1}, {Kind: -1}, {Kind: api.EVar}, {Kind: api.EVar, Name: "b.f"}, {Kind: api.EAt, Name: "t"}, {Kind: api.EBin, Op: api.Add}, {Kind: api.EBin, Op: api.Add, L: []api.Expr{one}}, {Kind: api.EBin, Op: 11, L: []api.Expr{one, one}}, {Kind: api.ESel, L: []api.Expr{one, one}}, {Kind: api.ECall, L: []api.Expr{one}}, {Kind: api.ECall, Name: "b.f.g"}, {Kind: api.ENum, L: []api.Expr{one}}}
	for _, x := range exprs {
		bad = append(bad, api.Unit{Name: "a", Funcs: []api.Func{{Name: "f", Result: x}}}, api.Unit{Name: "a", Funcs: []api.Func{good, good, {Name: "f", Body: []api.Stmt{{Kind: api.SLet, Name: "y", E: x}}, Result: one}}})
	}
	for _, s := range []api.Stmt{{}, {Kind: 7}, {Kind: -1}, {Kind: api.SLet, E: one}, {Kind: api.SNew, Name: "t"}, {Kind: api.SNew, Name: "t", Type: api.Type{Len: 17}}, {Kind: api.SFor, Name: "i", To: 65}, {Kind: api.SFor, Name: "i", From: -1}, {Kind: api.SPut, Name: "t", E: one}, {Kind: api.SIf}, {Kind: api.SIf, E: one, Else: []api.Stmt{{}}}} {
		bad = append(bad, api.Unit{Name: "a", Funcs: []api.Func{{Name: "f", Body: []api.Stmt{s}, Result: one}}})
	}
	for _, p := range []api.Param{{}, {Name: "x", Type: api.Type{Len: -1}}, {Name: "x", Type: api.Type{Len: 17}}} {
		bad = append(bad, api.Unit{Name: "a", Funcs: []api.Func{{Name: "f", Params: []api.Param{p}, Result: one}}})
	}
	for _, u := range bad {
		told(t, u, nil, api.ErrForm, -1)
		told(t, u, others(t), api.ErrForm, -1)
	}
}

// P5.2: imports that stand twice, or are the unit itself, ahead of all that is wrong with functions.
func TestImportsTwice(t *testing.T) {
	for names, want := range map[string]api.Errno{"b": api.OK, "b c d e f g h": api.OK, "aa": api.OK, "b ba": api.OK, "b b": api.ErrTwice, "b c b": api.ErrTwice, "c b b": api.ErrTwice, "a": api.ErrTwice, "b a": api.ErrTwice, "a b c": api.ErrTwice, "a a": api.ErrTwice, "b c d e f g b": api.ErrTwice, "b c d e f g a": api.ErrTwice} {
		toldText(t, "(unit a) (import "+names+")", want, -1)
		toldText(t, "(unit a) (import "+names+") (fn f () pub (ret 1))", want, -1)
		if want != api.OK {
			toldText(t, "(unit a) (import "+names+") (fn f () pub (ret x)) (fn f () pub (ret x))", want, -1)
		}
	}
	toldText(t, "(unit a)", api.OK, -1)
}

// P5.2: the first function with which something is wrong, and its number.
func TestFirstFunction(t *testing.T) {
	form := func(i int, e string) string { return fmt.Sprintf(" (fn f%d () pub (ret %s))", i, e) }
	for first := range 16 {
		for second := first; second < 16; second++ {
			text := "(unit a)"
			for i := range 16 {
				switch i {
				case first:
					text += form(i, "x")
				case second:
					text += form(i, "(call b.f)")
				default:
					text += form(i, "1")
				}
			}
			toldText(t, text, api.ErrName, first)
			toldText(t, strings.Replace(text, "(ret x)", "(new t pub 1) (ret t)", 1), api.ErrType, first)
		}
	}
}

// P5.2: functions of one name.
func TestFunctionsTwice(t *testing.T) {
	good, other := "(fn f () pub (ret 1)) ", "(fn g ((x pub)) pub (ret x)) "
	toldText(t, "(unit a) "+good+other, api.OK, -1)
	toldText(t, "(unit f) "+good+other, api.OK, -1)
	toldText(t, "(unit a) "+good+good, api.ErrTwice, 1)
	toldText(t, "(unit a) "+good+other+good, api.ErrTwice, 2)
	toldText(t, "(unit a) "+other+good+other+good, api.ErrTwice, 2)
	toldText(t, "(unit a) "+good+"(fn f ((x pub) (x pub)) pub (ret y))", api.ErrTwice, 1)
	toldText(t, "(unit a) "+good+"(fn f () pub (ret y))", api.ErrTwice, 1)
	toldText(t, "(unit a) "+good+"(fn f ((k sec)) pub (ret k))", api.ErrTwice, 1)
	toldText(t, "(unit a) "+good+"(fn g () pub (ret y)) "+good, api.ErrName, 1)
	toldText(t, "(unit a) "+good+"(fn ff () pub (ret 1)) (fn f_ () pub (ret 1))", api.OK, -1)
	// A function's name is none of a scope.
	toldText(t, "(unit a) (fn f ((f pub)) pub (let g f) (ret g)) (fn g ((f pub) (a pub)) pub (ret (call f a)))", api.OK, -1)
	toldText(t, "(unit a) (fn f () pub (ret 1)) (fn g () pub (ret f))", api.ErrName, 1)
	// What others know of a function of that name is nobody's matter.
	told(t, read(t, "(unit a) "+good+other), []api.Sig{{Name: "a.f"}, {Name: "a.g"}, {Name: "f"}, {Name: "a.f"}}, api.OK, -1)
}

// P5.2: parameters of one name, and what is ahead of it and behind it.
func TestParamsTwice(t *testing.T) {
	cases := map[string]api.Errno{
		"() pub (ret 1)":                                                api.OK,
		"((x pub)) pub (ret x)":                                         api.OK,
		"((x pub) (y sec) (z pub 3)) pub (ret x)":                       api.OK,
		"((x pub) (x pub)) pub (ret 1)":                                 api.ErrTwice,
		"((x pub) (x sec)) pub (ret 1)":                                 api.ErrTwice,
		"((x pub) (x pub 3)) pub (ret 1)":                               api.ErrTwice,
		"((x pub 3) (x pub)) pub (ret 1)":                               api.ErrTwice,
		"((x sec 3) (x sec 3)) pub (ret 1)":                             api.ErrTwice,
		"((x pub) (y pub) (x pub)) pub (ret 1)":                         api.ErrTwice,
		"((a pub) (b pub) (c pub) (d pub) (e pub) (e pub)) pub (ret 1)": api.ErrTwice,
		"((x pub) (x pub)) pub (ret y)":                                 api.ErrTwice,
		"((k sec) (k sec)) pub (let y none) (ret k)":                    api.ErrTwice,
	}
	for s, want := range cases {
		n := -1
		if want != api.OK {
			n = 0
		}
		toldText(t, "(unit a) (fn f "+s+")", want, n)
	}
	// Each function has a scope of its own.
	toldText(t, "(unit a) (fn f ((x pub)) pub (let y 1) (ret x)) (fn g ((x pub 2) (y sec)) pub (ret (at x 1)))", api.OK, -1)
	toldText(t, "(unit a) (fn f ((x pub)) pub (let y 1) (ret x)) (fn g () pub (ret x))", api.ErrName, 1)
	toldText(t, "(unit a) (fn f ((x pub)) pub (let y 1) (ret x)) (fn g () pub (ret y))", api.ErrName, 1)
}

// P5.2: the Result, of each label; behind the statements, ahead of the weight.
func TestResults(t *testing.T) {
	long := "(for i 0 64 (for j 0 64 (let y 1)))"
	cases := map[string]api.Errno{
		"pub (ret x)": api.OK, "pub (ret k)": api.ErrLabel, "sec (ret x)": api.OK, "sec (ret k)": api.OK,
		"pub (ret (at t 0))": api.OK, "pub (ret (at s 0))": api.ErrLabel, "sec (ret (at s 0))": api.OK,
		"pub (ret none)": api.ErrName, "sec (ret none)": api.ErrName, "pub (ret t)": api.ErrType, "sec (ret s)": api.ErrType,
		"pub (ret (+ k none))": api.ErrName, "pub (ret (+ k t))": api.ErrType, "pub (ret (+ k (at t 4)))": api.ErrIndex,
		"pub (let y 1) (ret y)": api.OK, "pub (let y k) (ret y)": api.ErrLabel, "pub (new y sec 1) (ret (at y 0))": api.ErrLabel, "pub (new y pub 1) (ret (at y 0))": api.OK,
		"pub (for i 0 2) (ret i)": api.ErrName, "pub (for i 0 2 (let y 1)) (ret y)": api.ErrName,
		"pub (set none 1) (ret k)": api.ErrName, "pub (put t 4 1) (ret none)": api.ErrIndex,
		"pub (set x 1) (set y 1) (set t 1) (ret k)": api.ErrName, "pub (set x 1) (set t 1) (set y 1) (ret k)": api.ErrType,
		"pub " + long + " (ret x)": api.ErrLong, "pub " + long + " (ret k)": api.ErrLabel, "pub " + long + " (ret none)": api.ErrName,
		"sec " + long + " (ret k)": api.ErrLong, "pub " + long + " (let x 1) (ret x)": api.ErrTwice,
	}
	for s, want := range cases {
		function(t, s, want)
	}
}

// P5.2: the weight, at what it may be and above.
func TestLong(t *testing.T) {
	// A loop of 64 rounds of a body of 31 is 1984: with the function and its Result 1986.
	loop := "(for i 0 64 (new t pub 16) (new s pub 15)) "
	cases := []struct {
		text   string
		weight int
		want   api.Errno
	}{
		{loop + "(new u pub 13)", 1999, api.OK},
		{loop + "(new u pub 14)", 2000, api.OK},
		{loop + "(new u pub 15)", 2001, api.ErrLong},
		{loop + "(new u pub 16)", 2002, api.ErrLong},
		{loop + loop, 3970, api.ErrLong},
		{"(for i 0 64 " + loop[:len(loop)-1] + ")", 0, api.ErrTwice},
		{"(for j 64 0 " + loop + loop + ")", 2, api.OK},
		{"(for j 0 64 (for k 0 64 (for i 0 64 (let x 1))))", 524290, api.ErrLong},
		{"(for j 0 64 (for k 0 64 (for i 0 64 (for h 0 64 (let x 1)))))", 1000000, api.ErrLong},
	}
	for _, c := range cases {
		u := read(t, "(unit a) (fn f () pub "+c.text+" (ret 1)) (fn g () pub (ret x))")
		if n := Weight(u.Funcs[0]); c.weight > 0 && n != c.weight {
			t.Errorf("Weight of %s: %d; not %d", c.text, n, c.weight)
		}
		if c.want == api.OK {
			told(t, u, nil, api.ErrName, 1)
		} else {
			told(t, u, nil, c.want, 0)
		}
	}
}

package tree

import (
	"fmt"
	"strings"
	"testing"

	"carling/api"
	"carling/sexp"
)

// nodes are those of a text, which must have some form of brackets and words.
func nodes(t *testing.T, text string) []api.Node {
	t.Helper()
	l, e, at := sexp.Parse(text)
	if e != api.OK {
		t.Fatalf("Parse(%q): %d, %d", text, e, at)
	}
	return l
}

// same tells whether two things are the same, nil and empty lists being alike (R2).
func same(x, y any) bool {
	return fmt.Sprintf("%+v", x) == fmt.Sprintf("%+v", y)
}

// unplaced are nodes, copied, without places.
func unplaced(l []api.Node) []api.Node {
	var out []api.Node
	for _, n := range l {
		out = append(out, api.Node{IsList: n.IsList, Word: n.Word, L: unplaced(n.L)})
	}
	return out
}

// tells asks that a text is that unit.
func tells(t *testing.T, text string, want api.Unit) {
	t.Helper()
	if u, e, at := Unit(nodes(t, text)); e != api.OK || at != -1 || !same(u, want) {
		t.Errorf("Unit(%q): %+v, %d, %d; not %+v", text, u, e, at, want)
	}
}

// fails asks that a text is no unit; the mark @ stands ahead of what is wrong first.
func fails(t *testing.T, want api.Errno, marked string) {
	t.Helper()
	ahead, behind, is := strings.Cut(marked, "@")
	if !is {
		t.Fatalf("no mark: %q", marked)
	}
	failsAt(t, nodes(t, ahead+behind), want, len(ahead), marked)
}

// failsAt asks that nodes are no unit, and what is wrong there.
func failsAt(t *testing.T, l []api.Node, want api.Errno, place int, what string) {
	t.Helper()
	if u, e, at := Unit(l); e != want || at != place || !same(u, api.Unit{}) {
		t.Errorf("Unit(%s): %+v, %d, %d; not %d, %d", what, u, e, at, want, place)
	}
}

// num, name, at, bin, sel, call are expressions of each kind.
func num(n uint32) api.Expr            { return api.Expr{Kind: api.ENum, N: n} }
func name(s string) api.Expr           { return api.Expr{Kind: api.EVar, Name: s} }
func at(s string, i api.Expr) api.Expr { return api.Expr{Kind: api.EAt, Name: s, L: []api.Expr{i}} }
func bin(op int, a, b api.Expr) api.Expr {
	return api.Expr{Kind: api.EBin, Op: op, L: []api.Expr{a, b}}
}
func sel(c, a, b api.Expr) api.Expr         { return api.Expr{Kind: api.ESel, L: []api.Expr{c, a, b}} }
func call(s string, l ...api.Expr) api.Expr { return api.Expr{Kind: api.ECall, Name: s, L: l} }
func param(s string, t api.Type) api.Param  { return api.Param{Name: s, Type: t} }
func let(s string, x api.Expr) api.Stmt     { return api.Stmt{Kind: api.SLet, Name: s, E: x} }
func set(s string, x api.Expr) api.Stmt     { return api.Stmt{Kind: api.SSet, Name: s, E: x} }
func array(s string, t api.Type) api.Stmt   { return api.Stmt{Kind: api.SNew, Name: s, Type: t} }
func put(s string, i, x api.Expr) api.Stmt  { return api.Stmt{Kind: api.SPut, Name: s, Index: i, E: x} }
func branch(x api.Expr, l, m []api.Stmt) api.Stmt {
	return api.Stmt{Kind: api.SIf, E: x, Body: l, Else: m}
}
func loop(s string, from, to int, l ...api.Stmt) api.Stmt {
	return api.Stmt{Kind: api.SFor, Name: s, From: from, To: to, Body: l}
}

// A name that is as long as one may be, and one that is longer.
const (
	name12 = "abcdefghij_1"
	name13 = "abcdefghij_12"
)

// exprs are texts of expressions of each kind, and what they are.
func exprs() map[string]api.Expr {
	l := map[string]api.Expr{
		"0": num(0), "1": num(1), "9": num(9), "10": num(10), "65": num(65), "4294967295": num(4294967295), "1000000000": num(1000000000), "4294967290": num(4294967290),
		"x": name("x"), "pub": name("pub"), "let": name("let"), "at": name("at"), "ret": name("ret"), "a_1": name("a_1"), name12: name(name12),
		"(at t 0)": at("t", num(0)), "(at at at)": at("at", name("at")), "(at t (at t 1))": at("t", at("t", num(1))),
		"(sel 1 2 3)": sel(num(1), num(2), num(3)), "(sel sel (+ 1 2) (sel a b c))": sel(name("sel"), bin(api.Add, num(1), num(2)), sel(name("a"), name("b"), name("c"))),
		"(call f)": call("f"), "(call b.g)": call("b.g"), "(call call call)": call("call", name("call")),
		"(call b.g 1 2 3 4 5 6)":                          call("b.g", num(1), num(2), num(3), num(4), num(5), num(6)),
		"(call " + name12 + "." + name12 + " (call f) 0)": call(name12+"."+name12, call("f"), num(0)),
	}
	for op, sign := range strings.Fields("? + - * & | ^ << >> < ==") {
		if op > 0 {
			l["("+sign+" x 7)"] = bin(op, name("x"), num(7))
			l["("+sign+" ("+sign+" x 1) (- 2 y))"] = bin(op, bin(op, name("x"), num(1)), bin(api.Sub, num(2), name("y")))
		}
	}
	return l
}

// stmts are texts of statements of each kind, and what they are.
func stmts() map[string]api.Stmt {
	inner := []api.Stmt{let("y", num(1)), set("y", num(2))}
	return map[string]api.Stmt{
		"(let x 1)":                             let("x", num(1)),
		"(let let (+ 1 let))":                   let("let", bin(api.Add, num(1), name("let"))),
		"(let " + name12 + " 1)":                let(name12, num(1)),
		"(set x y)":                             set("x", name("y")),
		"(set ret (call a.b))":                  set("ret", call("a.b")),
		"(new t pub 1)":                         array("t", api.Type{Len: 1}),
		"(new t sec 16)":                        array("t", api.Type{Sec: true, Len: 16}),
		"(new new pub 9)":                       array("new", api.Type{Len: 9}),
		"(new t sec 10)":                        array("t", api.Type{Sec: true, Len: 10}),
		"(put t 0 x)":                           put("t", num(0), name("x")),
		"(put t (at t 1) (sel 1 2 3))":          put("t", at("t", num(1)), sel(num(1), num(2), num(3))),
		"(for i 0 0)":                           loop("i", 0, 0),
		"(for i 0 64)":                          loop("i", 0, 64),
		"(for i 64 0)":                          loop("i", 64, 0),
		"(for i 64 64 (let x i))":               loop("i", 64, 64, let("x", name("i"))),
		"(for i 1 8 (let y 1) (set y 2))":       loop("i", 1, 8, inner...),
		"(for i 1 63 (for j 9 10 (let y 1)))":   loop("i", 1, 63, loop("j", 9, 10, let("y", num(1)))),
		"(if x () ())":                          branch(name("x"), nil, nil),
		"(if 1 ((let y 1) (set y 2)) ())":       branch(num(1), inner, nil),
		"(if (< 1 2) () ((let y 1) (set y 2)))": branch(bin(api.Lt, num(1), num(2)), nil, inner),
		"(if 0 ((if 1 () ())) ((for i 1 2)))":   branch(num(0), []api.Stmt{branch(num(1), nil, nil)}, []api.Stmt{loop("i", 1, 2)}),
	}
}

// P3.1: a unit with all there is, and each field of it.
func TestUnitWhole(t *testing.T) {
	text := "(unit a)\n(import b c)\n(fn f ((x pub) (t sec 8)) sec (let y (+ x 1)) (for i 0 8 (put t i (^ (at t i) y))) (if x ((set y 2)) ()) (ret (sel y (call b.g x) 3)))\n(fn g () pub (ret 0))"
	tells(t, text, api.Unit{Name: "a", Imports: []string{"b", "c"}, Funcs: []api.Func{
		{Name: "f", Params: []api.Param{param("x", api.Type{}), param("t", api.Type{Sec: true, Len: 8})}, Sec: true, Body: []api.Stmt{
			let("y", bin(api.Add, name("x"), num(1))),
			loop("i", 0, 8, put("t", name("i"), bin(api.Xor, at("t", name("i")), name("y")))),
			branch(name("x"), []api.Stmt{set("y", num(2))}, nil),
		}, Result: sel(name("y"), call("b.g", name("x")), num(3))},
		{Name: "g", Result: num(0)},
	}})
}

// P3.1: units with and without imports and functions.
func TestUnitImports(t *testing.T) {
	tells(t, "(unit a)", api.Unit{Name: "a"})
	tells(t, "(unit "+name12+")", api.Unit{Name: name12})
	tells(t, "(unit unit)", api.Unit{Name: "unit"})
	tells(t, "(unit a) (import b)", api.Unit{Name: "a", Imports: []string{"b"}})
	tells(t, "(unit a) (import a)", api.Unit{Name: "a", Imports: []string{"a"}})
	tells(t, "(unit a) (import import import)", api.Unit{Name: "a", Imports: []string{"import", "import"}})
	tells(t, "(unit a) (import b c d e f g "+name12+")", api.Unit{Name: "a", Imports: []string{"b", "c", "d", "e", "f", "g", name12}})
	f := api.Func{Name: "f", Result: num(1)}
	tells(t, "(unit a) (fn f () pub (ret 1))", api.Unit{Name: "a", Funcs: []api.Func{f}})
	tells(t, "(unit a) (import b) (fn f () pub (ret 1)) (fn f () pub (ret 1))", api.Unit{Name: "a", Imports: []string{"b"}, Funcs: []api.Func{f, f}})
	u := api.Unit{Name: "a"}
	for range 16 {
		u.Funcs = append(u.Funcs, f)
	}
	tells(t, "(unit a)"+strings.Repeat(" (fn f () pub (ret 1))", 16), u)
	u.Imports = []string{"b", "c", "d", "e", "f", "g", "h"}
	tells(t, "(unit a) (import b c d e f g h)"+strings.Repeat(" (fn f () pub (ret 1))", 16), u)
}

// P3.1: functions with parameters of each form.
func TestUnitParams(t *testing.T) {
	cases := map[string][]api.Param{
		"":                      nil,
		"(x pub)":               {param("x", api.Type{})},
		"(x sec)":               {param("x", api.Type{Sec: true})},
		"(x pub 1)":             {param("x", api.Type{Len: 1})},
		"(x sec 16)":            {param("x", api.Type{Sec: true, Len: 16})},
		"(sec pub 9) (pub sec)": {param("sec", api.Type{Len: 9}), param("pub", api.Type{Sec: true})},
		"(x pub) (x sec 2) (fn sec) (" + name12 + " pub) (y pub 10) (z sec 15)": {
			param("x", api.Type{}), param("x", api.Type{Sec: true, Len: 2}), param("fn", api.Type{Sec: true}),
			param(name12, api.Type{}), param("y", api.Type{Len: 10}), param("z", api.Type{Sec: true, Len: 15})},
	}
	for s, l := range cases {
		tells(t, "(unit a) (fn f ("+s+") pub (ret 1))", api.Unit{Name: "a", Funcs: []api.Func{{Name: "f", Params: l, Result: num(1)}}})
		tells(t, "(unit a) (fn fn ("+s+") sec (ret 1))", api.Unit{Name: "a", Funcs: []api.Func{{Name: "fn", Params: l, Sec: true, Result: num(1)}}})
	}
}

// P3.1: each kind of expression, wherever one stands; what a kind does not have is its zero value.
func TestUnitExpressions(t *testing.T) {
	for s, x := range exprs() {
		tells(t, "(unit a) (fn f () pub (ret "+s+"))", api.Unit{Name: "a", Funcs: []api.Func{{Name: "f", Result: x}}})
		body := []api.Stmt{let("v", x), set("v", x), put("v", x, num(1)), put("v", num(1), x), branch(x, nil, nil)}
		tells(t, "(unit a) (fn f () pub (let v "+s+") (set v "+s+") (put v "+s+" 1) (put v 1 "+s+") (if "+s+" () ()) (ret 1))", api.Unit{Name: "a", Funcs: []api.Func{{Name: "f", Body: body, Result: num(1)}}})
		whole := sel(at("v", x), bin(api.Add, x, num(1)), sel(num(1), call("f", num(2), x), bin(api.Sub, num(1), x)))
		tells(t, "(unit a) (fn f () pub (ret (sel (at v "+s+") (+ "+s+" 1) (sel 1 (call f 2 "+s+") (- 1 "+s+")))))", api.Unit{Name: "a", Funcs: []api.Func{{Name: "f", Result: whole}}})
	}
}

// P3.1: each kind of statement, wherever one stands; what a kind does not have is its zero value.
func TestUnitStatements(t *testing.T) {
	for s, x := range stmts() {
		tells(t, "(unit a) (fn f () pub "+s+" (ret 1))", api.Unit{Name: "a", Funcs: []api.Func{{Name: "f", Body: []api.Stmt{x}, Result: num(1)}}})
		two := []api.Stmt{x, x}
		body := []api.Stmt{x, loop("i", 0, 1, two...), branch(num(1), two, two), x}
		tells(t, "(unit a) (fn f () pub "+s+" (for i 0 1 "+s+" "+s+") (if 1 ("+s+" "+s+") ("+s+" "+s+")) "+s+" (ret 1))", api.Unit{Name: "a", Funcs: []api.Func{{Name: "f", Body: body, Result: num(1)}}})
	}
}

// P3.3: which texts are names.
func TestName(t *testing.T) {
	const small, others = "abcdefghijklmnopqrstuvwxyz", "0123456789_"
	if Name("") {
		t.Error("the empty text")
	}
	for i := range 256 {
		s := string([]byte{byte(i)})
		first, later := strings.Contains(small, s), strings.Contains(small+others, s)
		if Name(s) != first {
			t.Errorf("Name(%q): %t", s, !first)
		}
		for _, around := range [][2]string{{"a", ""}, {"z", "z"}, {"a_", "9"}, {"abcdefghijk", ""}} {
			if whole := around[0] + s + around[1]; Name(whole) != later {
				t.Errorf("Name(%q): %t", whole, !later)
			}
		}
		if whole := s + "bc"; Name(whole) != first {
			t.Errorf("Name(%q): %t", whole, !first)
		}
		if whole := "abcdefghijkl" + s; Name(whole) {
			t.Errorf("Name(%q): true", whole)
		}
	}
	for n := range 40 {
		if s := strings.Repeat("a", n); Name(s) != (n >= 1 && n <= 12) {
			t.Errorf("Name(%q): %t", s, Name(s))
		}
	}
	for _, s := range []string{"a_1", "a__", "x0123456789_", "a1b2", name12, "unit", "pub"} {
		if !Name(s) {
			t.Errorf("Name(%q): false", s)
		}
	}
	for _, s := range []string{"1", "_a", "0a", "A", "aB", "a.b", "a b", "a-b", "ä", "aä", "ａ", "aš", name13, "a\x00", "a\n", " a", strings.Repeat("a", 1000)} {
		if Name(s) {
			t.Errorf("Name(%q): true", s)
		}
	}
}

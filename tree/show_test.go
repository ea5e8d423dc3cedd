package tree

import (
	"fmt"
	"math/rand"
	"strings"
	"testing"

	"carling/api"
	"carling/sexp"
)

// shows asks that a function has these nodes, by Func and within a unit, all At 0.
func shows(t *testing.T, f api.Func, text string) {
	t.Helper()
	want := unplaced(nodes(t, text))
	if l, e := Func(f); e != api.OK || !same(l, want) {
		t.Errorf("Func(%+v): %+v, %d; not %s", f, l, e, text)
	}
	if s, _ := sexp.Print(want); s != text {
		t.Fatalf("a text of another form: %s", text)
	}
	u := api.Unit{Name: "a", Funcs: []api.Func{f}}
	if l, e := Nodes(u); e != api.OK || !same(l, append(unplaced(nodes(t, "(unit a)")), want...)) {
		t.Errorf("Nodes(%+v): %+v, %d; not %s", u, l, e, text)
	}
}

// hidden asks that a function has no nodes, by Func and within a unit.
func hidden(t *testing.T, f api.Func) {
	t.Helper()
	if l, e := Func(f); e != api.ErrForm || len(l) != 0 {
		t.Errorf("Func(%+v): %+v, %d", f, l, e)
	}
	hiddenUnit(t, api.Unit{Name: "a", Funcs: []api.Func{f}})
	hiddenUnit(t, api.Unit{Name: "a", Funcs: []api.Func{{Name: "g", Result: num(1)}, f}})
}

// hiddenUnit asks that a unit has no nodes.
func hiddenUnit(t *testing.T, u api.Unit) {
	t.Helper()
	if l, e := Nodes(u); e != api.ErrForm || len(l) != 0 {
		t.Errorf("Nodes(%+v): %+v, %d", u, l, e)
	}
}

// placesOf are the functions that have a statement, in each place where one can stand.
func placesOf(s api.Stmt) []api.Func {
	ahead := let("x", num(1))
	bodies := [][]api.Stmt{{s}, {ahead, s}, {s, ahead}, {loop("i", 0, 1, s)}, {loop("i", 0, 1, ahead, s)}, {branch(num(1), []api.Stmt{s}, nil)}, {branch(num(1), nil, []api.Stmt{s})}, {branch(num(1), nil, []api.Stmt{loop("i", 1, 2, ahead, s)})}}
	var l []api.Func
	for _, b := range bodies {
		l = append(l, api.Func{Name: "f", Body: b, Result: num(1)})
	}
	return l
}

// placesOfExpr are the functions that have an expression, in each place where one can stand.
func placesOfExpr(x api.Expr) []api.Func {
	one := num(1)
	l := []api.Func{}
	for _, y := range []api.Expr{x, at("t", x), bin(api.Add, x, one), bin(api.Eq, one, x), sel(x, one, one), sel(one, x, one), sel(one, one, x), call("f", x), call("a.b", one, one, one, one, one, x)} {
		l = append(l, api.Func{Name: "f", Result: y})
	}
	for _, s := range []api.Stmt{let("x", x), set("x", x), put("t", x, one), put("t", one, x), branch(x, nil, nil)} {
		l = append(l, api.Func{Name: "f", Body: []api.Stmt{s}, Result: one})
	}
	return l
}

// P3.2: the nodes of units, with and without imports.
func TestNodesOfUnits(t *testing.T) {
	f := api.Func{Name: "f", Result: num(1)}
	cases := map[string]api.Unit{
		"(unit a)":              {Name: "a"},
		"(unit " + name12 + ")": {Name: name12, Imports: []string{}, Funcs: []api.Func{}},
		"(unit a)\n(import b)":  {Name: "a", Imports: []string{"b"}},
		"(unit a)\n(import b c d e f g " + name12 + ")\n(fn f () pub (ret 1))\n(fn f () pub (ret 1))": {Name: "a", Imports: []string{"b", "c", "d", "e", "f", "g", name12}, Funcs: []api.Func{f, f}},
	}
	sixteen := api.Unit{Name: "a"}
	for range 16 {
		sixteen.Funcs = append(sixteen.Funcs, f)
	}
	cases["(unit a)"+strings.Repeat("\n(fn f () pub (ret 1))", 16)] = sixteen
	for text, u := range cases {
		l, e := Nodes(u)
		if e != api.OK || !same(l, unplaced(nodes(t, text))) {
			t.Errorf("Nodes(%+v): %+v, %d; not %s", u, l, e, text)
		}
		if s, e := sexp.Print(l); e != api.OK || s != text {
			t.Errorf("as a text: %q, %d; not %q", s, e, text)
		}
	}
}

// P3.2: the nodes of functions: parameters of each form, each kind of statement and of expression.
func TestNodesOfFunctions(t *testing.T) {
	shows(t, api.Func{Name: "f", Result: num(1)}, "(fn f () pub (ret 1))")
	shows(t, api.Func{Name: name12, Sec: true, Result: name("x")}, "(fn "+name12+" () sec (ret x))")
	params := []api.Param{param("x", api.Type{}), param("y", api.Type{Sec: true}), param("t", api.Type{Len: 1}), param("v", api.Type{Sec: true, Len: 16}), param("x", api.Type{Len: 9}), param(name12, api.Type{Len: 10})}
	shows(t, api.Func{Name: "f", Params: params, Result: num(1)}, "(fn f ((x pub) (y sec) (t pub 1) (v sec 16) (x pub 9) ("+name12+" pub 10)) pub (ret 1))")
	for s, x := range exprs() {
		shows(t, api.Func{Name: "f", Result: x}, "(fn f () pub (ret "+s+"))")
		shows(t, api.Func{Name: "f", Body: []api.Stmt{put("t", x, x)}, Result: bin(api.Mul, x, x)}, "(fn f () pub (put t "+s+" "+s+") (ret (* "+s+" "+s+")))")
	}
	for s, x := range stmts() {
		shows(t, api.Func{Name: "f", Body: []api.Stmt{x}, Result: num(1)}, "(fn f () pub "+s+" (ret 1))")
		shows(t, api.Func{Name: "f", Body: []api.Stmt{x, branch(num(1), []api.Stmt{x}, []api.Stmt{x, x}), x}, Result: num(1)}, "(fn f () pub "+s+" (if 1 ("+s+") ("+s+" "+s+")) "+s+" (ret 1))")
	}
}

// P3.2: names, full names and labels' lengths that may not stand there; too many of something.
func TestErrFormOfUnits(t *testing.T) {
	bad := []string{"", "1", "A", "_a", "a.b", "a b", "a\n", "(", "ä", "a-", name13, "pub sec"}
	f := api.Func{Name: "f", Result: num(1)}
	for _, s := range bad {
		hiddenUnit(t, api.Unit{Name: s})
		hiddenUnit(t, api.Unit{Name: s, Imports: []string{"b"}, Funcs: []api.Func{f}})
		hiddenUnit(t, api.Unit{Name: "a", Imports: []string{s}})
		hiddenUnit(t, api.Unit{Name: "a", Imports: []string{"b", s, "c"}, Funcs: []api.Func{f}})
		hidden(t, api.Func{Name: s, Result: num(1)})
		hidden(t, api.Func{Name: "f", Params: []api.Param{param(s, api.Type{})}, Result: num(1)})
		hidden(t, api.Func{Name: "f", Params: []api.Param{param("x", api.Type{}), param(s, api.Type{Len: 3})}, Result: num(1)})
	}
	for _, n := range []int{-1 << 63, -16, -1, 17, 18, 1<<63 - 1, 1 << 32, 1<<32 + 1} {
		hidden(t, api.Func{Name: "f", Params: []api.Param{param("x", api.Type{Len: n})}, Result: num(1)})
		hidden(t, api.Func{Name: "f", Params: []api.Param{param("x", api.Type{}), param("y", api.Type{Sec: true, Len: n})}, Result: num(1)})
	}
	hiddenUnit(t, api.Unit{Name: "a", Imports: []string{"b", "c", "d", "e", "f", "g", "h", "i"}})
	hiddenUnit(t, api.Unit{Name: "a", Imports: make([]string, 100)})
	many := api.Unit{Name: "a"}
	for range 17 {
		many.Funcs = append(many.Funcs, f)
	}
	hiddenUnit(t, many)
	hiddenUnit(t, api.Unit{})
	hidden(t, api.Func{})
	hidden(t, api.Func{Name: "f"})
	var params []api.Param
	for range 7 {
		params = append(params, param("x", api.Type{}))
	}
	hidden(t, api.Func{Name: "f", Params: params, Result: num(1)})
}

// P3.2: statements at each kind, with each choice of what a statement may have.
func TestEachStatement(t *testing.T) {
	// Which of Name, Type, From, To, Index, E, Body, Else a kind has; large letters: it must be there.
	has := map[int]string{api.SLet: "NE", api.SSet: "NE", api.SNew: "NT", api.SPut: "NIE", api.SFor: "Nfob", api.SIf: "Ebl"}
	for kind := -1; kind <= 8; kind++ {
		for some := range 256 {
			s := api.Stmt{Kind: kind}
			is := has[kind] != ""
			for i, letter := range "NTFOIEBL" {
				there := some>>i&1 == 1
				if there {
					give(&s, letter)
				}
				must, may := strings.ContainsRune(has[kind], letter), strings.ContainsRune(has[kind], letter+'a'-'A')
				is = is && (may || must == there)
			}
			for _, f := range placesOf(s) {
				if l, e := Func(f); (e == api.OK) != is || e != api.OK && (e != api.ErrForm || len(l) != 0) {
					t.Fatalf("Func(%+v): %+v, %d", f, l, e)
				}
			}
		}
	}
}

// give gives a statement what a letter stands for.
func give(s *api.Stmt, letter rune) {
	switch letter {
	case 'N':
		s.Name = "x"
	case 'T':
		s.Type.Len = 3
	case 'F':
		s.From = 2
	case 'O':
		s.To = 5
	case 'I':
		s.Index = num(1)
	case 'E':
		s.E = name("y")
	case 'B':
		s.Body = []api.Stmt{let("z", num(1))}
	case 'L':
		s.Else = []api.Stmt{let("z", num(2))}
	}
}

// P3.2: statements with a part that may not be, or with a piece of what their kind does not have.
func TestErrFormOfStatements(t *testing.T) {
	var l []api.Stmt
	for _, s := range []string{"", "1", "A", "a.b", name13, "_"} {
		l = append(l, let(s, num(1)), set(s, num(1)), array(s, api.Type{Len: 1}), put(s, num(1), num(1)), loop(s, 0, 1))
	}
	for _, n := range []int{-1 << 63, -1, 0, 17, 1<<32 + 1} {
		l = append(l, array("t", api.Type{Len: n}), array("t", api.Type{Sec: true, Len: n}))
	}
	for _, n := range []int{-1 << 63, -1, 65, 1 << 32, 1<<32 + 1, 1<<63 - 1} {
		l = append(l, loop("i", n, 1), loop("i", 1, n), loop("i", n, n))
	}
	for _, s := range []api.Stmt{let("x", num(1)), set("x", num(1)), loop("i", 0, 1), branch(num(1), nil, nil), put("t", num(1), num(1))} {
		s.Type.Sec = true
		l = append(l, s)
		s.Type = api.Type{Len: -1}
		l = append(l, s)
	}
	for _, x := range []api.Expr{{N: 1}, {Op: 1}, {Name: "x"}, {L: []api.Expr{num(1)}}, {Kind: -1}, {Kind: 7}, num(0), {L: []api.Expr{{}}}} {
		for _, s := range []api.Stmt{let("x", num(1)), set("x", num(1)), array("t", api.Type{Len: 1}), loop("i", 0, 1), branch(num(1), nil, nil)} {
			s.Index = x
			l = append(l, s)
		}
		for _, s := range []api.Stmt{array("t", api.Type{Len: 1}), loop("i", 0, 1)} {
			s.E = x
			l = append(l, s)
		}
	}
	for _, s := range []api.Stmt{let("x", num(1)), set("x", num(1)), array("t", api.Type{Len: 1}), put("t", num(1), num(1))} {
		s.From = -1
		l = append(l, s)
		s.From, s.To = 0, 1
		l = append(l, s)
		s.To, s.Body = 0, make([]api.Stmt, 1)
		l = append(l, s)
		s.Body, s.Else = nil, make([]api.Stmt, 1)
		l = append(l, s)
	}
	for _, s := range l {
		for _, f := range placesOf(s) {
			hidden(t, f)
		}
	}
}

// P3.2: expressions at each kind, with each choice of what an expression may have.
func TestEachExpression(t *testing.T) {
	for kind := -1; kind <= 8; kind++ {
		for _, n := range []uint32{0, 1, 1<<32 - 1} {
			for _, op := range []int{-1 << 63, -1, 0, 1, 5, 10, 11, 1<<32 + 1} {
				for _, s := range []string{"", "x", "a.b", name12 + "." + name12, "a.b.c", ".a", "a.", ".", "a.1", "1.a", "1", "A", name13, "a." + name13, name13 + ".a"} {
					for many := range 9 {
						x := api.Expr{Kind: kind, N: n, Op: op, Name: s}
						for i := range many {
							x.L = append(x.L, num(uint32(i)))
						}
						l, e := Func(api.Func{Name: "f", Result: x})
						if is := mayBe(x); (e == api.OK) != is || e != api.OK && (e != api.ErrForm || len(l) != 0) {
							t.Fatalf("Func of %+v: %+v, %d", x, l, e)
						}
					}
				}
			}
		}
	}
}

// mayBe tells whether an expression, with right parts, has nodes.
func mayBe(x api.Expr) bool {
	names := map[string]int{"x": 1, "a.b": 2, name12 + "." + name12: 2}[x.Name]
	switch many := len(x.L); x.Kind {
	case 1:
		return x.Op == 0 && x.Name == "" && many == 0
	case 2:
		return x.N == 0 && x.Op == 0 && names == 1 && many == 0
	case 3:
		return x.N == 0 && x.Op == 0 && names == 1 && many == 1
	case 4:
		return x.N == 0 && x.Op >= 1 && x.Op <= 10 && x.Name == "" && many == 2
	case 5:
		return x.N == 0 && x.Op == 0 && x.Name == "" && many == 3
	case 6:
		return x.N == 0 && x.Op == 0 && names >= 1 && many <= 6
	}
	return false
}

// P3.2: an expression that has no nodes leaves none to what it stands in.
func TestErrFormOfExpressions(t *testing.T) {
	for _, x := range []api.Expr{{}, {Kind: 7}, {Kind: -1}, name("1"), name("a.b"), call("a.b.c"), bin(0, num(1), num(2)), bin(11, num(1), num(2)), {Kind: api.ENum, Name: "x"}, {Kind: api.ESel}, at("", num(1)), call("f", api.Expr{}), {Kind: api.EAt, Name: "t"}} {
		for _, f := range placesOfExpr(x) {
			hidden(t, f)
		}
	}
	for _, f := range placesOfExpr(num(7)) {
		if _, e := Func(f); e != api.OK {
			t.Errorf("Func(%+v): %d", f, e)
		}
	}
}

// maker makes units by chance, the same ones in each run.
type maker struct{ *rand.Rand }

func (m maker) name() string {
	const first, later = "abcdefghijklmnopqrstuvwxyz", "abcdefghijklmnopqrstuvwxyz0123456789_"
	s := first[m.Intn(26):][:1]
	for range m.Intn(12) {
		s += later[m.Intn(len(later)):][:1]
	}
	return s
}

func (m maker) expr(deep int) api.Expr {
	kind := m.Intn(6) + 1
	if deep == 0 {
		kind = m.Intn(2) + 1
	}
	part := func() api.Expr { return m.expr(deep - 1) }
	switch kind {
	case api.ENum:
		return num(m.Uint32() >> m.Intn(32))
	case api.EVar:
		return name(m.name())
	case api.EAt:
		return at(m.name(), part())
	case api.EBin:
		return bin(m.Intn(10)+1, part(), part())
	case api.ESel:
		return sel(part(), part(), part())
	}
	s := m.name()
	if m.Intn(2) == 0 {
		s += "." + m.name()
	}
	x := call(s)
	for range m.Intn(7) {
		x.L = append(x.L, part())
	}
	return x
}

func (m maker) stmts(deep int) []api.Stmt {
	var l []api.Stmt
	for range m.Intn(4) {
		l = append(l, m.stmt(deep))
	}
	return l
}

func (m maker) stmt(deep int) api.Stmt {
	kind := m.Intn(6) + 1
	if deep == 0 {
		kind = m.Intn(4) + 1
	}
	switch kind {
	case api.SLet:
		return let(m.name(), m.expr(2))
	case api.SSet:
		return set(m.name(), m.expr(2))
	case api.SNew:
		return array(m.name(), api.Type{Sec: m.Intn(2) == 0, Len: m.Intn(16) + 1})
	case api.SPut:
		return put(m.name(), m.expr(2), m.expr(2))
	case api.SFor:
		return loop(m.name(), m.Intn(65), m.Intn(65), m.stmts(deep-1)...)
	}
	return branch(m.expr(2), m.stmts(deep-1), m.stmts(deep-1))
}

func (m maker) unit() api.Unit {
	u := api.Unit{Name: m.name()}
	for range m.Intn(8) {
		u.Imports = append(u.Imports, m.name())
	}
	for range m.Intn(17) {
		f := api.Func{Name: m.name(), Sec: m.Intn(2) == 0, Body: m.stmts(2), Result: m.expr(3)}
		for range m.Intn(7) {
			f.Params = append(f.Params, param(m.name(), api.Type{Sec: m.Intn(2) == 0, Len: m.Intn(17)}))
		}
		u.Funcs = append(u.Funcs, f)
	}
	return u
}

// P3.4: of the nodes of a unit Unit is that unit, whatever their places; the nodes of that are those again.
func TestUnitOfNodes(t *testing.T) {
	m := maker{rand.New(rand.NewSource(4))}
	for range 400 {
		u := m.unit()
		l, e := Nodes(u)
		if e != api.OK || !same(l, unplaced(l)) {
			t.Fatalf("Nodes(%+v): %+v, %d", u, l, e)
		}
		for range 2 {
			back, e, at := Unit(l)
			if e != api.OK || at != -1 || !same(back, u) {
				t.Fatalf("Unit(Nodes(%+v)): %+v, %d, %d", u, back, e, at)
			}
			numbered(l)
		}
		for i, f := range u.Funcs {
			if one, e := Func(f); e != api.OK || len(one) != 1 || !same(one[0], unplaced(l)[len(l)-len(u.Funcs)+i]) {
				t.Fatalf("Func(%+v): %+v, %d", f, one, e)
			}
		}
	}
}

// R7, P0: what is 1000 deep is read and shown; there is no other bound.
func TestDeep(t *testing.T) {
	x := num(1)
	for i := range 995 {
		x = bin(api.Add, num(uint32(i)), x)
	}
	s := let("x", num(1))
	for range 330 { // a loop is one list about what stands in it, a branch two
		s = loop("i", 0, 1, branch(num(1), nil, []api.Stmt{s}))
	}
	u := api.Unit{Name: "a", Funcs: []api.Func{{Name: "f", Result: x}, {Name: "g", Body: []api.Stmt{s}, Result: num(1)}}}
	l, e := Nodes(u)
	if e != api.OK {
		t.Fatal(e)
	}
	if back, e, at := Unit(l); e != api.OK || at != -1 || !same(back, u) {
		t.Error(e, at)
	}
}

// R3: what is handed in stays as it is; what is told shares nothing with it, nor with itself.
func TestNothingShared(t *testing.T) {
	m := maker{rand.New(rand.NewSource(5))}
	for range 50 {
		u := m.unit()
		wasUnit := fmt.Sprintf("%+v", u)
		l, _ := Nodes(u)
		wasNodes := fmt.Sprintf("%+v", l)
		back, _, _ := Unit(l)
		scribbleNodes(l, false)
		if fmt.Sprintf("%+v", l) != wasNodes {
			t.Fatal("two lists of nodes share something")
		}
		scribbleUnit(back, false)
		if fmt.Sprintf("%+v", back) != wasUnit {
			t.Fatal("two lists of a unit share something")
		}
		scribbleUnit(back, true)
		if fmt.Sprintf("%+v", u) != wasUnit || fmt.Sprintf("%+v", l) != wasNodes {
			t.Fatal("a unit that was told shares something")
		}
		scribbleNodes(l, true)
		if fmt.Sprintf("%+v", u) != wasUnit {
			t.Fatal("nodes that were told share something")
		}
	}
}

// scribble writes over what a list has room for behind its end, or, if all, over all of it.
func scribble[T any](l []T, x T, all bool) {
	whole := l[:cap(l)]
	for i := range whole {
		if all || i >= len(l) {
			whole[i] = x
		}
	}
}

func scribbleNodes(l []api.Node, all bool) {
	for _, n := range l {
		scribbleNodes(n.L, all)
	}
	scribble(l, api.Node{Word: "scribble", At: 77}, all)
}

func scribbleExpr(x api.Expr, all bool) {
	for _, y := range x.L {
		scribbleExpr(y, all)
	}
	scribble(x.L, name("scribble"), all)
}

func scribbleStmts(l []api.Stmt, all bool) {
	for _, s := range l {
		scribbleExpr(s.Index, all)
		scribbleExpr(s.E, all)
		scribbleStmts(s.Body, all)
		scribbleStmts(s.Else, all)
	}
	scribble(l, let("scribble", num(7)), all)
}

func scribbleUnit(u api.Unit, all bool) {
	for _, f := range u.Funcs {
		scribble(f.Params, param("scribble", api.Type{}), all)
		scribbleStmts(f.Body, all)
		scribbleExpr(f.Result, all)
	}
	scribble(u.Imports, "scribble", all)
	scribble(u.Funcs, api.Func{Name: "scribble"}, all)
}

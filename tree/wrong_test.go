package tree

import (
	"fmt"
	"math/rand"
	"regexp"
	"strconv"
	"strings"
	"testing"

	"carling/api"
)

// inUnit, inFunc and inRet are marked texts, put to where functions, statements and expressions stand.
func inUnit(s string) string { return "(unit a) " + s }
func inFunc(s string) string { return inUnit("(fn f () pub " + s + " (ret 1))") }
func inRet(s string) string  { return inUnit("(fn f () pub (ret " + s + "))") }

// P3.1: ErrForm, of a node that can't stand where it stands, its At.
func TestErrFormOfNodes(t *testing.T) {
	for _, s := range []string{"@x", "(unit @1)", "(unit @a1.b)", "(unit @())", "(unit @(a))", "(unit @a.b)", "(unit @_a)", "(unit @-)", "(unit @" + name13 + ")"} {
		fails(t, api.ErrForm, s)
	}
	for _, s := range []string{"@x", "@fn", "@1", "(import @1)", "(import @())", "(import b @(c))", "(import b @c.d)", "(import b c @2)", "(import @" + name13 + ")", "(import b) @x"} {
		fails(t, api.ErrForm, inUnit(s))
	}
	for _, s := range []string{"(fn @1 () pub (ret 1))", "(fn @() () pub (ret 1))", "(fn @a.b () pub (ret 1))", "(fn @" + name13 + " () pub (ret 1))",
		"(fn f @x pub (ret 1))", "(fn f @pub (ret 1))", "(fn f (@x) pub (ret 1))", "(fn f ((@1 pub)) pub (ret 1))", "(fn f ((@() pub)) pub (ret 1))", "(fn f ((@x.y pub)) pub (ret 1))",
		"(fn f ((x @y)) pub (ret 1))", "(fn f ((x @())) pub (ret 1))", "(fn f ((x @(pub))) pub (ret 1))", "(fn f ((x @1)) pub (ret 1))", "(fn f ((x @pu)) pub (ret 1))", "(fn f ((x @secx)) pub (ret 1))",
		"(fn f ((x pub @0)) pub (ret 1))", "(fn f ((x pub @17)) pub (ret 1))", "(fn f ((x pub @01)) pub (ret 1))", "(fn f ((x pub @y)) pub (ret 1))", "(fn f ((x pub @(1))) pub (ret 1))", "(fn f ((x pub @4294967297)) pub (ret 1))",
		"(fn f () @x (ret 1))", "(fn f () @(pub) (ret 1))", "(fn f () @(ret 1))", "(fn f () @sec.pub (ret 1))", "(fn f () pub @x (ret 1))", "(fn f () pub @ret 1)", "(fn f () pub (let x 1) @y (ret 1))"} {
		fails(t, api.ErrForm, inUnit(s))
	}
	for _, s := range []string{"(let @1 2)", "(let @a.b 2)", "(let @() 2)", "(let x @a.b)", "(let x @())", "(let x @-1)", "(set @1 2)", "(set x @+)", "(set x @01)",
		"(new @1 pub 1)", "(new x @y 1)", "(new x @1)", "(new x @(pub) 1)", "(new x pub @0)", "(new x pub @17)", "(new x pub @016)", "(new x pub @y)", "(new x pub @())", "(new x pub @4294967297)", "(new x pub @4294967296)",
		"(put @1 2 3)", "(put x @a.b 3)", "(put x 2 @a.b)", "(for @1 0 1)", "(for x @y 1)", "(for x @65 1)", "(for x 0 @65)", "(for x 0 @y)", "(for x @() 1)", "(for x 0 @())", "(for x @00 1)", "(for x 0 @4294967296)", "(for x 0 @4294967360)",
		"(for x 0 1 @y)", "(for x 0 1 @1)", "(for x 0 1 (let x 1) @y)", "(if @a.b () ())", "(if 1 @x ())", "(if 1 () @x)", "(if 1 (@x) ())", "(if 1 () (@x))"} {
		fails(t, api.ErrForm, inFunc(s))
	}
	for _, s := range []string{"@4294967296", "@4294967295000", "@00", "@01", "@1x", "@1_0", "@-1", "@+", "@+1", "@_", "@_a", "@.", "@a.b", "@" + name13, "@1.5", "@" + strings.Repeat("9", 400), "@0x10", "@1e3",
		"(at @1 2)", "(at @a.b 2)", "(at @(t) 2)", "(at t @x.y)", "(sel @+ 1 2)", "(sel 1 @+ 2)", "(sel 1 2 @+)", "(+ @+ 1)", "(+ 1 @+)",
		"(call @1)", "(call @())", "(call @(f))", "(call @+ 1)", "(call @a.b.c)", "(call @.a)", "(call @a.)", "(call @a..b)", "(call @.)", "(call @a.1)", "(call @1.a)", "(call @a." + name13 + ")", "(call @" + name13 + ".a)", "(call @" + name13 + ")", "(call f @a.b)", "(call f 1 @+ 2)"} {
		fails(t, api.ErrForm, inRet(s))
	}
}

// P3.1: ErrForm, of a list whose first node is none of those that may stand there, that first node's At.
func TestErrFormOfFirstNodes(t *testing.T) {
	for _, s := range []string{"(@a)", "(@unix a)", "(@fn f () pub (ret 1))", "(@import b)", "(@(unit) a)", "(@() a)", "(@1)"} {
		fails(t, api.ErrForm, s)
	}
	for _, s := range []string{"(@f)", "(@unit a)", "(@ret 1)", "(@let x 1)", "(@imports b)", "(@())", "(@(import) b)", "(@(fn) f () pub (ret 1))",
		"(import b) (@import c)", "(fn f () pub (ret 1)) (@import b)", "(fn f () pub (ret 1)) (@unit b)", "(import b) (fn f () pub (ret 1)) (@ret 1)"} {
		fails(t, api.ErrForm, inUnit(s))
	}
	for _, s := range []string{"foo", "fn f () pub (ret 1)", "+ 1 2", "call f", "sel 1 2 3", "at t 1", "x", "1", "lets x 1", "()", "(let) x 1", "import b", "(ret) 1", "unit a"} {
		fails(t, api.ErrForm, inFunc("(@"+s+")"))
		fails(t, api.ErrForm, inFunc("(for i 0 1 (let x 1) (@"+s+"))"))
		fails(t, api.ErrForm, inFunc("(if 1 ((@"+s+")) ())"))
		fails(t, api.ErrForm, inFunc("(if 1 () ((@"+s+")))"))
	}
	for _, s := range []string{"(for i 0 1 (@ret 1))", "(if 1 ((@ret 1)) ())", "(if 1 () ((@ret 1)))", "(if 1 ((if 1 () ((@ret 1)))) ())"} {
		fails(t, api.ErrForm, inFunc(s))
	}
	for _, s := range []string{"x", "1", "let x 1", "ret 1", "=", "===", "<= 1 2", "() 1 2", "(+) 1 2", "sels 1 2 3", "pub", "> 1 2", "a.b 1", "if 1 () ()"} {
		fails(t, api.ErrForm, inRet("(@"+s+")"))
		fails(t, api.ErrForm, inRet("(+ 1 (@"+s+"))"))
		fails(t, api.ErrForm, inRet("(call f (@"+s+"))"))
		fails(t, api.ErrForm, inFunc("(put t (@"+s+") 1)"))
	}
}

// P3.1: ErrForm, of a list in which a node is missing, the list's At; of the nodes themselves 0.
func TestErrFormOfMissingNodes(t *testing.T) {
	failsAt(t, nil, api.ErrForm, 0, "nil")
	failsAt(t, []api.Node{}, api.ErrForm, 0, "none")
	for _, s := range []string{"@", "@()", "@(unit)", "  @()", " @(unit) x"} {
		fails(t, api.ErrForm, s)
	}
	for _, s := range []string{"@()", "@(import)", "(import b) @()", "@(fn)", "@(fn f)", "@(fn f ())", "@(fn f () pub)", "@(fn f () pub (let x 1))", "(fn f (@()) pub (ret 1))", "(fn f (@(x)) pub (ret 1))",
		"(fn f ((x pub) @(y)) pub (ret 1))", "(fn f () pub @())", "(fn f () pub @(ret))", "(fn f () pub (let x 1) @(ret))", "(fn f () pub @() (ret 1))", "(fn f () pub (ret 1)) @(fn g () pub)"} {
		fails(t, api.ErrForm, inUnit(s))
	}
	for _, s := range []string{"@()", "@(let)", "@(let x)", "@(set)", "@(set x)", "@(new)", "@(new x)", "@(new x sec)", "@(put)", "@(put x)", "@(put x 1)", "@(for)", "@(for i)", "@(for i 0)", "(for i 0 1 @())", "(for i 0 1 @(let x))",
		"@(if)", "@(if 1)", "@(if 1 ())", "(if 1 (@()) ())", "(if 1 () (@()))", "(if 1 (@(set x)) ())", "(let x @())", "(put x @(+) 1)"} {
		fails(t, api.ErrForm, inFunc(s))
	}
	for _, s := range []string{"@()", "@(at)", "@(at t)", "@(sel)", "@(sel 1)", "@(sel 1 2)", "@(call)", "@(+)", "@(+ 1)", "@(== 1)", "(+ @(at t) 1)", "(call f @(call))", "(sel 1 2 @())"} {
		fails(t, api.ErrForm, inRet(s))
	}
}

// P3.1: ErrForm, of a list in which nodes are left, the first one's At.
func TestErrFormOfNodesLeft(t *testing.T) {
	for _, s := range []string{"(unit a @1)", "(unit a @b c)", "(unit a @())", "(unit a @(import b))"} {
		fails(t, api.ErrForm, s)
	}
	for _, s := range []string{"(fn f () pub (ret x) @y)", "(fn f () pub (ret 1) @(let x 1) (ret 2))", "(fn f () pub (ret 1) @(ret 2))", "(fn f () pub (ret 1) @() ())", "(fn f () pub (ret 1 @2))", "(fn f () pub (ret 1 @(+ 1 2)) x)",
		"(fn f ((x pub 1 @2)) pub (ret 1))", "(fn f ((x pub 16 @() y)) pub (ret 1))"} {
		fails(t, api.ErrForm, inUnit(s))
	}
	for _, s := range []string{"(let x 1 @2)", "(set x 1 @y z)", "(new t pub 1 @1)", "(new t pub 1 @())", "(put t 0 1 @2)", "(if 1 () () @())", "(if 1 () () @x)", "(if 1 ((let x 1 @2)) ())"} {
		fails(t, api.ErrForm, inFunc(s))
	}
	for _, s := range []string{"(at t 1 @2)", "(sel 1 2 3 @4)", "(+ 1 2 @3)", "(<< 1 2 @() 3)", "(call f (- 1 2 @3))"} {
		fails(t, api.ErrForm, inRet(s))
	}
}

// P3.1: ErrLong, of what would be one too many, before it is looked into.
func TestErrLong(t *testing.T) {
	funcs := strings.Repeat("(fn f () pub (ret 1)) ", 16)
	for _, s := range []string{"@(fn f () pub (ret 1))", "@(fn f () pub (ret 1)) (fn f () pub (ret 1))", "@x", "@()", "@(fn)", "@(import b)", "@(fn 1)", "@(foo)"} {
		fails(t, api.ErrLong, inUnit(funcs+s))
		fails(t, api.ErrLong, inUnit("(import b c d e f g h) "+funcs+s))
	}
	for _, s := range []string{"@i", "@i j", "@1", "@()", "@(i)", "@a.b", "@" + name13} {
		fails(t, api.ErrLong, inUnit("(import b c d e f g h "+s+")"))
		fails(t, api.ErrLong, inUnit("(import b b b b b b b "+s+") x"))
	}
	for _, s := range []string{"@(x pub)", "@(x sec 8)", "@(x pub) (x pub)", "@x", "@1", "@()", "@(1)", "@(x)", "@(x pub 17)"} {
		fails(t, api.ErrLong, inUnit("(fn f ((a pub) (b pub) (c pub) (d pub) (e pub 1) (f pub 16) "+s+") pub (ret 1))"))
	}
	for _, s := range []string{"@7", "@7 8", "@x", "@+", "@()", "@(foo)", "@(call)", "@(+ 1)", "@01"} {
		fails(t, api.ErrLong, inRet("(call f 1 2 3 4 5 (+ 1 2) "+s+")"))
		fails(t, api.ErrLong, inFunc("(let x (call a.b 1 2 3 4 5 6 "+s+"))"))
	}
}

// P3.1: where several things are wrong, what is met first is told.
func TestFirstFault(t *testing.T) {
	for _, s := range []string{"@x y", "(unit @1 2)", "(unit @1) x", "(unit a @1) x", "@(unit) (import)", "(@foo) (bar)", "(unit a) @x (fn)", "(unit a) (import @1 2)", "(unit a) (import b @1) x",
		"(unit a) (fn @1)", "(unit a) (fn f @x)", "(unit a) (fn f (@x))", "(unit a) (fn f ((@1)))", "(unit a) (fn f (@(x)) y)", "(unit a) (fn f ((x @1 17 3)))", "(unit a) (fn f () @1)", "(unit a) (fn f () pub @x)", "(unit a) (fn f () pub (@foo))",
		"(unit a) (fn f () pub (let @1) x)", "(unit a) (fn f () pub @(let x) y)", "(unit a) (fn f () pub (let x 1 @2) (foo))", "(unit a) (fn f () pub (for i @65 65 x))", "(unit a) (fn f () pub (for i 0 @65 x))", "(unit a) (fn f () pub (if @+ x y z))",
		"(unit a) (fn f () pub (if 1 @x))", "(unit a) (fn f () pub (if 1 (@x)))", "(unit a) (fn f () pub (ret @+ 2) 3)", "(unit a) (fn f () pub (ret 1 @2) 3)", "(unit a) (fn f () pub (put @1))", "(unit a) (fn f () pub (new t @1 17 3))",
		"(unit a) (fn f () pub (ret (+ @+)))", "(unit a) (fn f () pub (ret (sel 1 @+)))", "(unit a) (fn f () pub (ret (call @1 +)))", "(unit a) (fn f () pub (ret (at @1)))", "(unit a) (fn f () pub (ret (at t @+ 1)))",
		"(unit a) (fn f () pub (ret (call f 1 2 3 @+ 5 6 7 8)))", "(unit a) (import b c @1 d e f g h i)", "(unit a) (fn f ((a pub) (@1 pub) (c pub) (d pub) (e pub) (f pub) (g pub)) pub (ret 1))"} {
		fails(t, api.ErrForm, s)
	}
	funcs := strings.Repeat("(fn f () pub (ret 1)) ", 15)
	fails(t, api.ErrForm, inUnit(funcs+"@(fn f () pub) (fn f () pub (ret 1))"))
	fails(t, api.ErrLong, inUnit(funcs+"(fn f () pub (ret 1)) @(fn f () pub) x"))
	fails(t, api.ErrLong, inRet("(call f 1 2 3 4 5 6 @7) 2"))
	fails(t, api.ErrLong, inUnit("(import b c d e f g h @i) x"))
}

// P3.1: nodes of which no text has any can't stand: a list that has a word, a word that has nodes.
func TestNodesOfNoText(t *testing.T) {
	text := "(unit a) (import b c) (fn f ((x pub) (t sec 8)) sec (let y (+ x 1)) (new n pub 2) (for i 0 8 (put t i (^ (at t i) y))) (if x ((set y 2)) ()) (ret (sel y (call b.g x) 3)))"
	l := nodes(t, text)
	eachNode(l, func(n *api.Node) {
		was := *n
		if n.IsList {
			n.Word = "x"
		} else {
			n.L = []api.Node{{Word: "x", At: 1000}}
		}
		failsAt(t, l, api.ErrForm, was.At, fmt.Sprintf("%s with both at %d", text, was.At))
		*n = was
		if !n.IsList {
			n.IsList, n.L = true, []api.Node{{Word: "x", At: 1000}}
			failsAt(t, l, api.ErrForm, was.At, fmt.Sprintf("%s with a list of a word at %d", text, was.At))
		}
		*n = was
		if !n.IsList {
			for _, s := range []string{"", " ", "(", "X", "a b", "\x00", "ä"} {
				n.Word = s
				failsAt(t, l, api.ErrForm, was.At, fmt.Sprintf("%s with %q at %d", text, s, was.At))
			}
		}
		*n = was
	})
	l[0].At, l[0].Word = -7, "x"
	failsAt(t, l, api.ErrForm, -7, "a place below 0")
}

// eachNode calls f with each node, those within others behind these.
func eachNode(l []api.Node, f func(n *api.Node)) {
	for i := range l {
		f(&l[i])
		eachNode(l[i].L, f)
	}
}

// The second reader: forms are patterns of what stands behind a first word; what is wrong is handed on as a value. A letter is a sort of node; with a star, any number of it, and, if a number follows, at most so many; between brackets, a list of these.
type wrong struct {
	e  api.Errno
	at int
}

var fine = wrong{api.OK, -1}

var forms = map[string]string{
	"unit": "n", "import": "n n*6", "fn": "n (p*6) l s* r",
	"let": "n e", "set": "n e", "new": "n l a", "put": "n e e", "for": "n b b s*", "if": "e (s*) (s*)", "ret": "e",
	"at": "n e", "sel": "e e e", "call": "f e*6",
	"+": "e e", "-": "e e", "*": "e e", "&": "e e", "|": "e e", "^": "e e", "<<": "e e", ">>": "e e", "<": "e e", "==": "e e",
}

// firsts are which first words the lists of a sort may have.
var firsts = map[byte]string{
	'h': " unit ", 'i': " import ", 'd': " fn ", 'r': " ret ", 's': " let set new put for if ", 'e': " at sel call + - * & | ^ << >> < == ",
}

// words are which words a sort may be.
var words = map[byte]*regexp.Regexp{
	'n': regexp.MustCompile(`^[a-z][a-z0-9_]{0,11}$`),
	'f': regexp.MustCompile(`^[a-z][a-z0-9_]{0,11}(\.[a-z][a-z0-9_]{0,11})?$`),
	'l': regexp.MustCompile(`^(pub|sec)$`),
	'a': regexp.MustCompile(`^([1-9]|1[0-6])$`),
	'b': regexp.MustCompile(`^(0|[1-9]|[1-5][0-9]|6[0-4])$`),
	'e': regexp.MustCompile(`^([a-z][a-z0-9_]{0,11}|0|[1-9][0-9]*)$`),
}

// look is what is wrong with nodes as a unit.
func look(l []api.Node) wrong {
	if len(l) > 1 && l[1].IsList && len(l[1].L) > 0 && l[1].L[0].Word == "import" {
		return match(strings.Fields("h i d*16"), l, 0)
	}
	return match(strings.Fields("h d*16"), l, 0)
}

// match is what is wrong with nodes as such a pattern, their list standing at a place.
func match(pattern []string, l []api.Node, at int) wrong {
	for _, p := range pattern {
		if len(p) > 1 && p[1] == '*' {
			most, err := strconv.Atoi(p[2:])
			for have := 0; len(l) > 0 && (p[0] != 's' || !isRet(l[0], pattern)); have++ {
				if err == nil && have == most {
					return wrong{api.ErrLong, l[0].At}
				}
				if w := fit(p[0], l[0]); w != fine {
					return w
				}
				l = l[1:]
			}
			continue
		}
		if len(l) == 0 {
			return wrong{api.ErrForm, at}
		}
		if p[0] == '(' {
			if !l[0].IsList || l[0].Word != "" {
				return wrong{api.ErrForm, l[0].At}
			}
			if w := match([]string{p[1 : len(p)-1]}, l[0].L, l[0].At); w != fine {
				return w
			}
		} else if w := fit(p[0], l[0]); w != fine {
			return w
		}
		l = l[1:]
	}
	if len(l) > 0 {
		return wrong{api.ErrForm, l[0].At}
	}
	return fine
}

// isRet tells whether a node ends the statements of a pattern.
func isRet(n api.Node, pattern []string) bool {
	return pattern[len(pattern)-1] == "r" && n.IsList && len(n.L) > 0 && n.L[0].Word == "ret"
}

// fit is what is wrong with a node as one of that sort.
func fit(sort byte, n api.Node) wrong {
	bad := wrong{api.ErrForm, n.At}
	if n.IsList && n.Word != "" || !n.IsList && len(n.L) > 0 {
		return bad
	}
	if !n.IsList {
		if words[sort] == nil || !words[sort].MatchString(n.Word) {
			return bad
		}
		if n.Word[0] <= '9' && (len(n.Word) > 10 || len(n.Word) == 10 && n.Word > "4294967295") {
			return bad
		}
		return fine
	}
	if sort == 'p' {
		if len(n.L) > 2 {
			return match(strings.Fields("n l a"), n.L, n.At)
		}
		return match(strings.Fields("n l"), n.L, n.At)
	}
	if firsts[sort] == "" || len(n.L) == 0 {
		return bad
	}
	first := n.L[0]
	if first.IsList || len(first.L) > 0 || !strings.Contains(firsts[sort], " "+first.Word+" ") {
		return wrong{api.ErrForm, first.At}
	}
	return match(strings.Fields(forms[first.Word]), n.L[1:], n.At)
}

// agrees asks that both readers tell the same of nodes, and that the nodes of what is read are those.
func agrees(t *testing.T, l []api.Node) {
	t.Helper()
	u, e, at := Unit(l)
	if w := look(l); w != (wrong{e, at}) {
		t.Fatalf("Unit(%+v): %d, %d; not %d, %d", l, e, at, w.e, w.at)
	}
	if e != api.OK {
		if !same(u, api.Unit{}) {
			t.Fatalf("Unit(%+v): %+v beside %d", l, u, e)
		}
		return
	}
	if back, e := Nodes(u); e != api.OK || !same(back, unplaced(l)) {
		t.Fatalf("Nodes(Unit(%+v)): %+v, %d", l, back, e)
	}
}

// samples are texts of units with all that can stand in one.
func samples() []string {
	return []string{
		"", "(unit a)", "(unit a) (import b)", "(unit a) (import b c d e f g h)",
		"(unit a) (import b c) (fn f ((x pub) (t sec 8)) sec (let y (+ x 1)) (new n pub 2) (for i 0 8 (put t i (^ (at t i) y))) (if x ((set y 2)) ()) (ret (sel y (call b.g x) 3)))",
		"(unit a) (fn f ((a pub) (b sec) (c pub 1) (d sec 16) (e pub 2) (f pub)) pub (for i 64 0 (for j 1 2 (if 1 ((let x 0) (let y 1)) ((set x (call f 1 2 3 4 5 6)) (put t 0 1))))) (ret 4294967295))",
		"(unit a)" + strings.Repeat(" (fn f () pub (ret 1))", 16),
		"(unit a) (fn f () sec (if (== (<< 1 2) (>> 3 4)) () ((if (< 1 (| 2 (& 3 4))) () ()))) (ret (* (- 1 2) (call f))))",
	}
}

// odd are nodes that are put where they may or may not stand.
func odd() []api.Node {
	l := []api.Node{
		{IsList: true}, {IsList: true, Word: "x"}, {Word: "x", L: []api.Node{{Word: "y"}}}, {Word: "ret", L: []api.Node{{Word: "y"}}}, {IsList: true, L: []api.Node{{IsList: true}}},
		list(leaf("ret"), leaf("1")), list(leaf("let"), leaf("x"), leaf("1")), list(leaf("x"), leaf("pub")), list(leaf("+"), leaf("x"), leaf("1")), list(leaf("import"), leaf("b")), list(leaf("fn"), leaf("f"), list(), leaf("pub"), list(leaf("ret"), leaf("0"))),
		list(leaf("import")), list(leaf("ret")), list(leaf("x")), {IsList: true, Word: "let", L: []api.Node{leaf("let"), leaf("x"), leaf("1")}},
	}
	for _, s := range strings.Fields("unit import fn let set new put for if ret at sel call + == = pub sec x a.b a.b.c . 0 1 16 17 64 65 00 01 4294967295 4294967296 " + name12 + " " + name13) {
		l = append(l, leaf(s))
	}
	return append(l, leaf(""), leaf("X"))
}

// numbered gives each node a place of its own, so that it shows which one is told.
func numbered(l []api.Node) []api.Node {
	at := 10
	eachNode(l, func(n *api.Node) {
		n.At = at
		at++
	})
	return l
}

// lists are all lists of nodes, that of those in no list with them.
func lists(l *[]api.Node) []*[]api.Node {
	all := []*[]api.Node{l}
	eachNode(*l, func(n *api.Node) {
		if n.IsList {
			all = append(all, &n.L)
		}
	})
	return all
}

// edit is a copy of nodes with one edit, in the list of that number: at i, so many are taken away, and others put in.
func edit(l []api.Node, which, i, away int, in ...api.Node) []api.Node {
	out := unplaced(l)
	in = unplaced(in)
	to := lists(&out)[which]
	*to = append(append(append([]api.Node{}, (*to)[:i]...), in...), (*to)[i+away:]...)
	return numbered(out)
}

// P3.1, P3.4: each edit of one node of a unit is told as the second reader tells it.
func TestEachEdit(t *testing.T) {
	for _, text := range samples() {
		l := nodes(t, text)
		agrees(t, l)
		for which, in := range lists(&l) {
			for i := range len(*in) + 1 {
				for _, n := range odd() {
					agrees(t, edit(l, which, i, 0, n))
				}
				if i == len(*in) {
					continue
				}
				agrees(t, edit(l, which, i, 1))
				agrees(t, edit(l, which, i, len(*in)-i))
				agrees(t, edit(l, which, i, 0, (*in)[i]))
				agrees(t, edit(l, which, i, 1, list((*in)[i])))
				agrees(t, edit(l, which, i, 1, (*in)[i].L...))
				for _, n := range odd() {
					agrees(t, edit(l, which, i, 1, n))
				}
			}
		}
	}
}

// P3.1, P3.4: so are several edits at once: what is met first counts.
func TestManyEdits(t *testing.T) {
	chance := rand.New(rand.NewSource(3))
	all := odd()
	for range 60000 {
		text := samples()[chance.Intn(len(samples()))]
		l := nodes(t, text)
		for range chance.Intn(4) + 1 {
			which := chance.Intn(len(lists(&l)))
			in := *lists(&l)[which]
			i := chance.Intn(len(in) + 1)
			away := chance.Intn(2)
			if i == len(in) {
				away = 0
			}
			l = edit(l, which, i, away, all[chance.Intn(len(all))])
		}
		agrees(t, l)
	}
}

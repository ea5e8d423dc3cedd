package sexp

import (
	"reflect"
	"strings"
	"testing"

	"carling/api"
)

// letters are the bytes of words, written out again, so that a slip in the program shows.
const letters = "abcdefghijklmnopqrstuvwxyz0123456789_.+-*&|^<>="

// w is a word that stands at a place.
func w(at int, s string) api.Node { return api.Node{Word: s, At: at} }

// b is a list that stands at a place.
func b(at int, l ...api.Node) api.Node { return api.Node{IsList: true, L: l, At: at} }

// same are nodes with their lists nil, if empty (R2), and, unless places count, with no places.
func same(l []api.Node, places bool) []api.Node {
	var out []api.Node
	for _, n := range l {
		n.L = same(n.L, places)
		if !places {
			n.At = 0
		}
		out = append(out, n)
	}
	return out
}

// alike tells whether nodes are the same, places with them, if they count.
func alike(x, y []api.Node, places bool) bool {
	return reflect.DeepEqual(same(x, places), same(y, places))
}

// parses asks that a text has these nodes.
func parses(t *testing.T, text string, want ...api.Node) {
	t.Helper()
	if l, e, at := Parse(text); e != api.OK || at != -1 || !alike(l, want, true) {
		t.Errorf("Parse(%.60q): %v, %d, %d; not %v", text, l, e, at, want)
	}
}

// fails asks that a text has no nodes, but this fault at this place.
func fails(t *testing.T, text string, want api.Errno, place int) {
	t.Helper()
	if l, e, at := Parse(text); e != want || at != place || len(l) != 0 {
		t.Errorf("Parse(%.60q): %v, %d, %d; not %d, %d", text, l, e, at, want, place)
	}
}

// nested is a list within others, so many brackets deep, with a text in the innermost one.
func nested(deep int, in string) string {
	return strings.Repeat("(", deep) + in + strings.Repeat(")", deep)
}

// within is a node, put into so many lists.
func within(deep int, n api.Node) api.Node {
	for range deep {
		n = b(0, n)
	}
	return n
}

// P2.1: words and lists, and their places.
func TestParseNodes(t *testing.T) {
	parses(t, "")
	parses(t, "a", w(0, "a"))
	parses(t, letters, w(0, letters))
	parses(t, "ab cd", w(0, "ab"), w(3, "cd"))
	parses(t, "()", b(0))
	parses(t, "( )", b(0))
	parses(t, "()()", b(0), b(2))
	parses(t, "(a)", b(0, w(1, "a")))
	parses(t, "(ab c)", b(0, w(1, "ab"), w(4, "c")))
	parses(t, "(())", b(0, b(1)))
	parses(t, "(()())x", b(0, b(1), b(3)), w(6, "x"))
	parses(t, "a(b)c", w(0, "a"), b(1, w(2, "b")), w(4, "c"))
	parses(t, "a(b(c)d)e", w(0, "a"), b(1, w(2, "b"), b(3, w(4, "c")), w(6, "d")), w(8, "e"))
	parses(t, "(let x (+ 1 y)) z", b(0, w(1, "let"), w(5, "x"), b(7, w(8, "+"), w(10, "1"), w(12, "y"))), w(16, "z"))
	parses(t, "-1 <<= ...", w(0, "-1"), w(3, "<<="), w(7, "..."))
	parses(t, "((a) (b (c)) d)", b(0, b(1, w(2, "a")), b(5, w(6, "b"), b(8, w(9, "c"))), w(13, "d")))
}

// P2.1: blanks are left out, wherever they stand.
func TestParseBlanks(t *testing.T) {
	for _, s := range []string{"\t", "\n", "\r", " "} {
		parses(t, s)
		parses(t, s+s)
		parses(t, s+"a", w(1, "a"))
		parses(t, "a"+s, w(0, "a"))
		parses(t, "a"+s+"b", w(0, "a"), w(2, "b"))
		parses(t, "("+s+"a"+s+")"+s, b(0, w(2, "a")))
	}
	parses(t, "\t\n\r a \r\n\tb", w(4, "a"), w(9, "b"))
}

// P2.1: each byte alone, and between two words.
func TestParseEachByte(t *testing.T) {
	for i := range 256 {
		s := string([]byte{byte(i)})
		switch {
		case strings.Contains(letters, s):
			parses(t, s, w(0, s))
			parses(t, "ab"+s+"cd", w(0, "ab"+s+"cd"))
		case strings.Contains("\t\n\r ", s):
			parses(t, s)
			parses(t, "ab"+s+"cd", w(0, "ab"), w(3, "cd"))
		case s == "(":
			fails(t, s, api.ErrOpen, 1)
			fails(t, "ab"+s+"cd", api.ErrOpen, 5)
		case s == ")":
			fails(t, s, api.ErrOpen, 0)
			fails(t, "ab"+s+"cd", api.ErrOpen, 2)
		case s == ";":
			parses(t, s)
			parses(t, "ab"+s+"cd", w(0, "ab"))
		default:
			fails(t, s, api.ErrByte, 0)
			fails(t, "ab"+s+"cd", api.ErrByte, 2)
		}
	}
}

// P2.1: notes go up to the next byte 10, or the end, whatever stands in them.
func TestParseNotes(t *testing.T) {
	parses(t, ";")
	parses(t, ";\n")
	parses(t, "; all of it")
	parses(t, "; a\nb", w(4, "b"))
	parses(t, "a;b\nc", w(0, "a"), w(4, "c"))
	parses(t, "a;b", w(0, "a"))
	parses(t, ";;a\n;b\nc;", w(7, "c"))
	parses(t, "; a ; b\nc", w(8, "c"))
	parses(t, "(a ; )\n)", b(0, w(1, "a")))
	parses(t, "(a) ; ) (", b(0, w(1, "a")))
	parses(t, ";a\rb\nc", w(5, "c"))
	parses(t, ";A,\"\x00\x7f\x80\xff\nc", w(9, "c"))
	parses(t, ";ö€😀\nc", w(11, "c"))
	parses(t, ";\u010aa\nc", w(5, "c"))
	parses(t, ";\xe2\na", w(3, "a"))
	parses(t, ";\xf0\x9f\na", w(4, "a"))
	parses(t, ";"+strings.Repeat("(", 30)+"\na", w(32, "a"))
	fails(t, "(a ; )", api.ErrOpen, 6)
	fails(t, "(a ; )\n", api.ErrOpen, 7)
	fails(t, ";ö\n)", api.ErrOpen, 4)
	fails(t, ";\n;\n,", api.ErrByte, 4)
}

// P2.1: ErrByte is at the byte that may not stand there.
func TestParseErrByte(t *testing.T) {
	fails(t, "A", api.ErrByte, 0)
	fails(t, "aB", api.ErrByte, 1)
	fails(t, "a,", api.ErrByte, 1)
	fails(t, " \x00", api.ErrByte, 1)
	fails(t, "a \x7f b", api.ErrByte, 2)
	fails(t, "a\x80", api.ErrByte, 1)
	fails(t, "(a \xff)", api.ErrByte, 3)
	fails(t, "a\vb", api.ErrByte, 1)
	fails(t, "a\fb", api.ErrByte, 1)
	fails(t, "((a) [)", api.ErrByte, 5)
	for _, s := range []string{"!", "\"", "#", "$", "%", "'", ",", "/", ":", "?", "@", "[", "\\", "]", "`", "{", "}", "~"} {
		fails(t, "(a "+s+")", api.ErrByte, 3)
	}
}

// P2.1: longer letters, and pieces of them, are no part of a word, and no blank; what is told is their first byte's place.
func TestParseLongerLetters(t *testing.T) {
	l := []string{"ö", "š", "Š", "ａ", "１", "€", "😀", "\u0085", "\u00a0", "\u2028", "\u3000", "\ufeff", "\ufffd", "\u0109", "\u010a", "\u0120", "\u0128", "\u0129", "\u013b", "\u0161", "\U00010061"}
	l = append(l, "\xc3", "\xb6", "\xe2\x82", "\xf0\x9f\x98", "\x82\xac", "\xc1\xa1", "\xe0\x81\xa1", "\xed\xa0\x80", "\xf4\x90\x80\x80", "\xfe", "\xff\xff")
	for _, s := range l {
		fails(t, s, api.ErrByte, 0)
		fails(t, "ab"+s, api.ErrByte, 2)
		fails(t, "ab"+s+"c", api.ErrByte, 2)
		fails(t, "(a "+s+" c)", api.ErrByte, 3)
		fails(t, ";"+s+"\n"+s, api.ErrByte, len(s)+2)
		parses(t, ";"+s+"\na;"+s, w(len(s)+2, "a"))
	}
}

// P2.1: ErrOpen is at a bracket that closes nothing, or at the text's length.
func TestParseErrOpen(t *testing.T) {
	fails(t, ")", api.ErrOpen, 0)
	fails(t, "a)", api.ErrOpen, 1)
	fails(t, "())", api.ErrOpen, 2)
	fails(t, "(a) ) (", api.ErrOpen, 4)
	fails(t, ")(", api.ErrOpen, 0)
	fails(t, "(", api.ErrOpen, 1)
	fails(t, "(a", api.ErrOpen, 2)
	fails(t, "(a  ", api.ErrOpen, 4)
	fails(t, "(a) (b (c)", api.ErrOpen, 10)
	fails(t, "((a)", api.ErrOpen, 4)
	fails(t, "(;ö", api.ErrOpen, 4)
	fails(t, strings.Repeat("(", 24), api.ErrOpen, 24)
}

// P2.1: brackets stand at most 24 deep.
func TestParseErrDeep(t *testing.T) {
	l, e, at := Parse(nested(24, "a"))
	if e != api.OK || at != -1 || !alike(l, []api.Node{within(24, w(0, "a"))}, false) {
		t.Error("24 deep", l, e, at)
	}
	parses(t, strings.Repeat("()", 50), manyEmpty(50)...)
	if l, e, at := Parse(nested(24, "") + "a " + nested(24, "b")); e != api.OK || at != -1 || len(l) != 3 || l[2].At != 50 {
		t.Error("24 deep twice", l, e, at)
	}
	if l, e, at := Parse(nested(23, "()() (a) b")); e != api.OK || at != -1 || len(l) != 1 {
		t.Error("24 deep three times", l, e, at)
	}
	fails(t, nested(25, ""), api.ErrDeep, 24)
	fails(t, strings.Repeat("(", 25), api.ErrDeep, 24)
	fails(t, strings.Repeat("(", 16384), api.ErrDeep, 24)
	fails(t, nested(24, "a ()"), api.ErrDeep, 26)
	fails(t, nested(23, "() (())"), api.ErrDeep, 27)
	fails(t, nested(24, "")+" "+nested(25, ""), api.ErrDeep, 73)
}

// manyEmpty are so many empty lists, side by side.
func manyEmpty(n int) []api.Node {
	var l []api.Node
	for i := range n {
		l = append(l, b(2*i))
	}
	return l
}

// P2.1: a text of 16384 bytes is read, a longer one is not looked at.
func TestParseErrLong(t *testing.T) {
	parses(t, strings.Repeat(" ", 16384))
	parses(t, strings.Repeat("a", 16384), w(0, strings.Repeat("a", 16384)))
	parses(t, ";"+strings.Repeat("(", 16383))
	parses(t, "("+strings.Repeat(" ", 16381)+"z)", b(0, w(16382, "z")))
	parses(t, strings.Repeat(" ", 16383)+"z", w(16383, "z"))
	parses(t, strings.Repeat("()", 8192), manyEmpty(8192)...)
	fails(t, strings.Repeat(" ", 16383)+",", api.ErrByte, 16383)
	fails(t, strings.Repeat(" ", 16383)+"(", api.ErrOpen, 16384)
	parses(t, ";"+strings.Repeat("ö", 8191)+"\n")
	for _, s := range []string{" ", "a", ";", "(", ")", ",", "\xff"} {
		fails(t, strings.Repeat(s, 16385), api.ErrLong, 0)
		fails(t, strings.Repeat(s, 100000), api.ErrLong, 0)
	}
	fails(t, ";"+strings.Repeat("ö", 8192), api.ErrLong, 0)
}

// P2.1: of several things that are wrong the first one is told.
func TestParseWrongFirst(t *testing.T) {
	fails(t, "A)", api.ErrByte, 0)
	fails(t, ")A", api.ErrOpen, 0)
	fails(t, "(A", api.ErrByte, 1)
	fails(t, "(a))A", api.ErrOpen, 3)
	fails(t, "(a)A)", api.ErrByte, 3)
	fails(t, "a,b)c\x00", api.ErrByte, 1)
	fails(t, strings.Repeat("(", 25)+"A", api.ErrDeep, 24)
	fails(t, "A"+strings.Repeat("(", 25), api.ErrByte, 0)
	fails(t, ")"+strings.Repeat("(", 25), api.ErrOpen, 0)
	fails(t, strings.Repeat("(", 24)+"A(", api.ErrByte, 24)
	fails(t, nested(24, "")+")"+strings.Repeat("(", 25), api.ErrOpen, 48)
	fails(t, ")"+strings.Repeat(" ", 16384), api.ErrLong, 0)
}

// P2.2: which texts are words.
func TestWord(t *testing.T) {
	if Word("") {
		t.Error("the empty text is a word")
	}
	for i := range 256 {
		s := string([]byte{byte(i)})
		want := strings.Contains(letters, s)
		for _, text := range []string{s, s + s, s + "a", "a" + s, "a" + s + "b"} {
			if Word(text) != want {
				t.Errorf("Word(%q): %t", text, !want)
			}
		}
	}
	for _, s := range []string{letters, "a.b", "0", "-", "==", "_", "unit", strings.Repeat("a", 20000)} {
		if !Word(s) {
			t.Errorf("Word(%.60q): false", s)
		}
	}
	for _, s := range []string{" a", "a ", "a b", "a\n", "(a)", "a;b", "A", "aB", "ö", "aš", "ａ", "\ufffd", "a\xc3", "\x80a", "\u010a", "\u0161", strings.Repeat("a", 20000) + "!"} {
		if Word(s) {
			t.Errorf("Word(%.60q): true", s)
		}
	}
}

// P2.2: words and lists as texts.
func TestPrint(t *testing.T) {
	cases := []struct {
		l    []api.Node
		want string
	}{
		{nil, ""},
		{[]api.Node{}, ""},
		{[]api.Node{w(0, "a")}, "a"},
		{[]api.Node{w(0, "a"), w(0, "b"), w(0, "+")}, "a\nb\n+"},
		{[]api.Node{b(0)}, "()"},
		{[]api.Node{{IsList: true, L: []api.Node{}}}, "()"},
		{[]api.Node{{Word: "a", L: []api.Node{}}}, "a"},
		{[]api.Node{b(0), b(0)}, "()\n()"},
		{[]api.Node{b(0, b(0), b(0, b(0)))}, "(() (()))"},
		{[]api.Node{b(0, w(0, "a"))}, "(a)"},
		{[]api.Node{b(0, w(0, "a"), w(0, "b")), w(0, "c")}, "(a b)\nc"},
		{[]api.Node{w(0, "x"), b(0, w(0, "let"), b(0, w(0, "+"), w(0, "1"), w(0, "y")), w(0, "z"))}, "x\n(let (+ 1 y) z)"},
		{[]api.Node{w(0, letters)}, letters},
		{[]api.Node{within(24, w(0, "a"))}, nested(24, "a")},
		{[]api.Node{within(23, b(0)), within(24, w(0, "b"))}, nested(24, "") + "\n" + nested(24, "b")},
		{[]api.Node{w(0, strings.Repeat("a", 20000))}, strings.Repeat("a", 20000)},
	}
	for _, c := range cases {
		if s, e := Print(c.l); s != c.want || e != api.OK {
			t.Errorf("Print(%v): %q, %d; not %q", c.l, s, e, c.want)
		}
	}
}

// P2.2: what is no node of a text has none, alone, within others, ahead of others and behind them.
func TestPrintErrForm(t *testing.T) {
	l := []api.Node{
		{},
		{At: 3},
		w(0, "A"), w(0, " "), w(0, "a b"), w(0, "()"), w(0, "a;"), w(0, "a\n"), w(0, "ö"), w(0, "\xff"), w(0, "\x00"), w(0, "š"),
		{Word: "a", L: []api.Node{w(0, "b")}},
		{Word: "a", L: []api.Node{b(0)}},
		{L: []api.Node{w(0, "b")}},
		{IsList: true, Word: "a"},
		{IsList: true, Word: "a", L: []api.Node{w(0, "b")}},
		{IsList: true, Word: "A"},
		{IsList: true, Word: " "},
		within(25, w(0, "a")),
		within(24, b(0)),
		within(1000, w(0, "a")),
		b(0, w(0, "a"), within(24, w(0, "a"))),
	}
	for _, n := range l {
		for _, nodes := range [][]api.Node{{n}, {w(0, "a"), n}, {n, w(0, "a")}, {b(0, n)}, {b(0, b(0), n, w(0, "a"))}, {within(20, n)}} {
			if s, e := Print(nodes); s != "" || e != api.ErrForm {
				t.Errorf("Print(%v): %q, %d", nodes, s, e)
			}
		}
	}
}

// P2.2: a list that stands within 24 others is one too deep, wherever it stands.
func TestPrintDeep(t *testing.T) {
	for deep := range 40 {
		want := api.OK
		if deep >= 24 {
			want = api.ErrForm
		}
		for _, n := range []api.Node{b(0), b(0, w(0, "a"))} {
			if _, e := Print([]api.Node{w(0, "a"), within(deep, n)}); e != want {
				t.Errorf("a list within %d others: %d", deep, e)
			}
			if _, e := Print([]api.Node{within(deep, n), within(2, n)}); e != want {
				t.Errorf("a list within %d others, ahead of more: %d", deep, e)
			}
		}
	}
}

// P0: nodes that hold themselves have no text, and Print ends.
func TestPrintOfNodesWithinThemselves(t *testing.T) {
	l := []api.Node{b(0), b(0), b(0)}
	for i := range l {
		l[i].L = l
	}
	if s, e := Print(l); s != "" || e != api.ErrForm {
		t.Errorf("%q, %d", s, e)
	}
}

// P2.2: places are not looked at.
func TestPrintWithoutPlaces(t *testing.T) {
	for _, at := range []int{0, 1, -1, 7, 1 << 40, -1 << 62} {
		l := []api.Node{b(at, w(-at, "a"), b(at)), w(at, "b")}
		if s, e := Print(l); s != "(a ())\nb" || e != api.OK {
			t.Errorf("places %d: %q, %d", at, s, e)
		}
	}
}

// strewn is a rule for numbers that are the same each time.
func strewn(seed uint32) func(below int) int {
	return func(below int) int {
		seed = seed*1664525 + 1013904223
		return int(seed>>8) % below
	}
}

// strewnNodes are nodes within so many lists, places of all kinds.
func strewnNodes(pick func(below int) int, deep int) []api.Node {
	var l []api.Node
	for range pick(5) {
		n := api.Node{At: pick(100) - 50}
		if n.IsList = deep < 24 && pick(3) > 0; n.IsList {
			n.L = strewnNodes(pick, deep+1)
		} else {
			for range 1 + pick(6) {
				n.Word += string(letters[pick(len(letters))])
			}
		}
		if l = append(l, n); deep > 4 {
			break
		}
	}
	return l
}

// P2.3: what is printed is parsed as it was, but for places.
func TestPrintedIsParsed(t *testing.T) {
	pick := strewn(1)
	for range 3000 {
		l := strewnNodes(pick, 0)
		s, e := Print(l)
		if e != api.OK {
			t.Fatalf("Print(%v): %d", l, e)
		}
		if len(s) > 16384 {
			t.Fatalf("nodes of too long a text: %d", len(s))
		}
		back, e, at := Parse(s)
		if e != api.OK || at != -1 || !alike(l, back, false) {
			t.Fatalf("Parse(%q): %v, %d, %d; not %v", s, back, e, at, l)
		}
		if again, e := Print(back); again != s || e != api.OK {
			t.Fatalf("Print of what was printed: %q, %d; not %q", again, e, s)
		}
	}
}

// model is what Parse must tell of a short text, found in another way: faults first, byte by byte; then nodes, one list at a time.
func model(text string) ([]api.Node, api.Errno, int) {
	plain := []byte(text)
	for i, note := 0, false; i < len(plain); i++ {
		note = plain[i] != '\n' && (note || plain[i] == ';')
		if note {
			plain[i] = ' '
		}
	}
	open := 0
	for at, c := range plain {
		switch {
		case c == '(' && open == 24:
			return nil, api.ErrDeep, at
		case c == '(':
			open++
		case c == ')' && open == 0:
			return nil, api.ErrOpen, at
		case c == ')':
			open--
		case strings.IndexByte(letters+"\t\n\r ", c) < 0:
			return nil, api.ErrByte, at
		}
	}
	if open > 0 {
		return nil, api.ErrOpen, len(text)
	}
	l, _ := modelList(plain, 0)
	return l, api.OK, -1
}

// modelList are the nodes from a place up to the end of its list, and the place behind it.
func modelList(plain []byte, at int) ([]api.Node, int) {
	var l []api.Node
	for at < len(plain) && plain[at] != ')' {
		switch from := at; {
		case plain[at] == '(':
			n := b(at)
			n.L, at = modelList(plain, at+1)
			l = append(l, n)
		case strings.IndexByte(letters, plain[at]) < 0:
			at++
		default:
			for at < len(plain) && strings.IndexByte(letters, plain[at]) >= 0 {
				at++
			}
			l = append(l, w(from, string(plain[from:at])))
		}
	}
	return l, at + 1
}

// everyText calls f with all texts of at most so many of the pieces.
func everyText(pieces []string, most int, f func(text string)) {
	var from func(text string, left int)
	from = func(text string, left int) {
		f(text)
		for _, s := range pieces {
			if left > 0 {
				from(text+s, left-1)
			}
		}
	}
	from("", most)
}

// P2.1, P2.3: all short texts of all sorts of bytes are read as the model reads them, and printed and read again.
func TestEveryShortText(t *testing.T) {
	everyText([]string{"a", "=", "(", ")", " ", ";", "\n", "A", "\xc4", "\x8a"}, 5, func(text string) {
		agrees(t, text)
	})
}

// agrees asks that Parse tells what the model tells, and that the nodes are printed and parsed again.
func agrees(t *testing.T, text string) {
	t.Helper()
	want, fault, place := model(text)
	l, e, at := Parse(text)
	if e != fault || at != place || !alike(l, want, true) {
		t.Errorf("Parse(%q): %v, %d, %d; not %v, %d, %d", text, l, e, at, want, fault, place)
	}
	if e == api.OK {
		roundTrip(t, text, l)
	}
}

// roundTrip asks that what was parsed is printed and parsed again as it was, and that each node's first byte stands at its place.
func roundTrip(t *testing.T, text string, l []api.Node) {
	t.Helper()
	standAtPlaces(t, text, l)
	s, e := Print(l)
	if e != api.OK {
		t.Errorf("Print of %q: %d", text, e)
	}
	if len(s) > 16384 {
		fails(t, s, api.ErrLong, 0)
		return
	}
	back, e, at := Parse(s)
	if e != api.OK || at != -1 || !alike(l, back, false) {
		t.Errorf("%q, printed as %q, is %v, %d, %d; not %v", text, s, back, e, at, l)
	}
}

// standAtPlaces asks that each node stands at its place: a word all of it, a list its bracket.
func standAtPlaces(t *testing.T, text string, l []api.Node) {
	t.Helper()
	for _, n := range l {
		first := n.Word
		if n.IsList {
			first = "("
		}
		if n.At < 0 || n.At >= len(text) || !strings.HasPrefix(text[n.At:], first) {
			t.Errorf("%q: %q is not at %d", text, first, n.At)
		}
		standAtPlaces(t, text, n.L)
	}
}

// P2.1, P2.3: longer texts, strewn, most of them with closed brackets.
func TestStrewnTexts(t *testing.T) {
	pieces := []string{"a", "b2", "(", "(", ")", ")", " ", "\t", "\r", "\n", "; note )\n", ";ö(\n", "+", "()", "(x y)", "(z)"}
	wrong := []string{"A", "\x00", "ö", "\xe2", ")", "("}
	pick := strewn(2)
	for i := range 4000 {
		text := ""
		for range pick(60) {
			text += pieces[pick(len(pieces))]
		}
		if i%3 == 0 {
			text += wrong[pick(len(wrong))] + pieces[pick(len(pieces))]
		}
		agrees(t, text)
		agrees(t, nested(1+pick(24), text))
		agrees(t, strings.Repeat("(", pick(24))+text+"\n"+strings.Repeat(")", pick(30)))
	}
}

// P2.3: the text that is printed may be too long, where what was parsed was not.
func TestPrintedMayBeTooLong(t *testing.T) {
	text := strings.Repeat("()", 8192)
	l, _, _ := Parse(text)
	s, e := Print(l)
	if len(s) != 8192*3-1 || e != api.OK {
		t.Errorf("%d bytes, %d", len(s), e)
	}
	roundTrip(t, text, l)
	fits := strings.Repeat("(a b)", 2730)
	l, _, _ = Parse(fits)
	roundTrip(t, fits, l)
}

// R3: what is told is the caller's own: nothing of it is shared with what was told before, nor one list with another.
func TestParsedIsOnesOwn(t *testing.T) {
	const text = "(a (b c) (d) () e) f (g (h))"
	first, _, _ := Parse(text)
	var spoil func(l []api.Node)
	spoil = func(l []api.Node) {
		_ = append(l, w(9, "spoilt"))
		for i := range l {
			spoil(l[i].L)
		}
	}
	spoil(first)
	second, _, _ := Parse(text)
	if !alike(first, second, true) {
		t.Errorf("lists share their room: %v", first)
	}
	first[0].L[1].L[0] = w(9, "spoilt")
	first[0] = w(9, "spoilt")
	third, _, _ := Parse(text)
	if !alike(second, third, true) {
		t.Errorf("answers share their room: %v", third)
	}
}

// R3: Print leaves nodes as they are.
func TestPrintLeavesNodes(t *testing.T) {
	l := []api.Node{b(4, w(5, "a"), b(7)), w(-1, "b")}
	Print(l)
	if !reflect.DeepEqual(l, []api.Node{b(4, w(5, "a"), b(7)), w(-1, "b")}) {
		t.Errorf("%v", l)
	}
}

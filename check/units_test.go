package check

import (
	"strings"
	"testing"

	"carling/api"
)

// units are those of texts.
func units(t testing.TB, l ...string) []api.Unit {
	t.Helper()
	var out []api.Unit
	for _, s := range l {
		out = append(out, read(t, s))
	}
	return out
}

// toldAll asks for what All tells.
func toldAll(t *testing.T, l []api.Unit, want api.Errno, i, j int) {
	t.Helper()
	if e, n, m := All(l); e != want || n != i || m != j {
		t.Errorf("All(%+v): %d, %d, %d; not %d, %d, %d", l, e, n, m, want, i, j)
	}
}

// importing are units without functions: each text is a name, and the names that it imports.
func importing(l ...string) []api.Unit {
	var out []api.Unit
	for _, s := range l {
		names := strings.Fields(s)
		out = append(out, api.Unit{Name: names[0], Imports: names[1:]})
	}
	return out
}

// P5.5: no unit, one, and several, with which nothing is wrong.
func TestAllRight(t *testing.T) {
	toldAll(t, nil, api.OK, -1, -1)
	toldAll(t, []api.Unit{}, api.OK, -1, -1)
	toldAll(t, importing("a"), api.OK, -1, -1)
	a, b, c := "(unit a) (import b c) (fn f ((k sec)) sec (ret (+ (call b.g 1 k) (call c.h))))", "(unit b) (import c) (fn g ((x pub) (k sec)) sec (ret (+ k (call c.h))))", "(unit c) (fn h () pub (ret 1))"
	for _, l := range [][]string{{a, b, c}, {a, c, b}, {b, a, c}, {b, c, a}, {c, a, b}, {c, b, a}, {b, c}, {c, b}, {c}} {
		toldAll(t, units(t, l...), api.OK, -1, -1)
	}
	// Two units may have functions of one name.
	toldAll(t, units(t, "(unit a) (import b) (fn f () pub (ret (call b.f)))", "(unit b) (fn f () pub (ret 1))"), api.OK, -1, -1)
	// More than there are at most in a text.
	toldAll(t, importing("a", "b a", "c b", "d c", "e d", "f e", "g f", "h g", "i h", "j i a b c d e f"), api.OK, -1, -1)
}

// P5.5: units of one name.
func TestAllTwice(t *testing.T) {
	toldAll(t, importing("a", "a"), api.ErrTwice, 1, -1)
	toldAll(t, importing("a", "b", "c", "b"), api.ErrTwice, 3, -1)
	toldAll(t, importing("a", "b", "b", "a"), api.ErrTwice, 2, -1)
	toldAll(t, importing("a", "a", "a"), api.ErrTwice, 1, -1)
	toldAll(t, importing("a", "a none"), api.ErrTwice, 1, -1)
	toldAll(t, importing("a", "a a"), api.ErrTwice, 1, -1)
	toldAll(t, importing("a b", "b a", "a"), api.ErrTwice, 2, -1)
	one, other := "(unit a) (fn f () pub (ret 1))", "(unit a) (fn f () pub (ret x))"
	toldAll(t, units(t, one, one), api.ErrTwice, 1, -1)
	toldAll(t, units(t, one, other), api.ErrTwice, 1, -1)
	toldAll(t, units(t, other, one), api.ErrName, 0, 0)
	// A unit that has no nodes, and the name of one ahead.
	toldAll(t, []api.Unit{{Name: "a"}, {Name: "a", Funcs: make([]api.Func, 1)}}, api.ErrTwice, 1, -1)
	toldAll(t, []api.Unit{{Name: "A"}, {Name: "A"}}, api.ErrForm, 0, -1)
	toldAll(t, make([]api.Unit, 3), api.ErrForm, 0, -1)
}

// P5.5: what is imported, and is no unit.
func TestAllNames(t *testing.T) {
	toldAll(t, importing("a b"), api.ErrName, 0, -1)
	toldAll(t, importing("a b", "b c"), api.ErrName, 1, -1)
	toldAll(t, importing("a", "b a", "c a b d"), api.ErrName, 2, -1)
	toldAll(t, importing("a", "c d a", "d none", "b none"), api.ErrName, 2, -1)
	toldAll(t, importing("a b", "c", "c"), api.ErrName, 0, -1)
	toldAll(t, importing("a b b"), api.ErrName, 0, -1)
	toldAll(t, importing("a a none"), api.ErrName, 0, -1)
	toldAll(t, importing("a b c d e f g h", "b", "c", "d", "e", "f", "g"), api.ErrName, 0, -1)
	toldAll(t, importing("a b c d e f g h", "b", "c", "d", "e", "f", "g", "h"), api.OK, -1, -1)
	// Ahead of a unit's form, and of its functions.
	toldAll(t, []api.Unit{{Name: "A", Imports: []string{"B"}, Funcs: make([]api.Func, 1)}}, api.ErrName, 0, -1)
	toldAll(t, []api.Unit{{Imports: []string{"b", ""}}}, api.ErrName, 0, -1)
	toldAll(t, units(t, "(unit a) (import b) (fn f () pub (ret x))"), api.ErrName, 0, -1)
	toldAll(t, units(t, "(unit a) (import b) (fn f () pub (ret 1) )", "(unit c) (fn f () pub (ret t))"), api.ErrName, 0, -1)
}

// P5.5: what Check tells, of the first unit of which it tells something.
func TestAllChecks(t *testing.T) {
	good := "(unit g) (fn f () pub (ret 1))"
	toldAll(t, importing("a a"), api.ErrTwice, 0, -1)
	toldAll(t, importing("a", "b a a"), api.ErrTwice, 1, -1)
	toldAll(t, []api.Unit{{Name: "a"}, {Name: "B"}}, api.ErrForm, 1, -1)
	toldAll(t, []api.Unit{{Name: "a"}, {Name: "b", Funcs: make([]api.Func, 17)}, {Name: "a"}}, api.ErrForm, 1, -1)
	for text, want := range map[string]api.Errno{"(ret x)": api.ErrName, "(new t pub 1) (ret t)": api.ErrType, "(new t pub 1) (ret (at t 1))": api.ErrIndex, "(new t sec 1) (ret (at t 0))": api.ErrLabel, "(let x 1) (let x 1) (ret 1)": api.ErrTwice, "(for i 0 64 (for j 0 64 (let x 1))) (ret 1)": api.ErrLong} {
		bad := "(fn f () pub " + text + ")"
		toldAll(t, units(t, "(unit a) "+bad), want, 0, 0)
		toldAll(t, units(t, good, "(unit a) (import g) (fn a () pub (ret (call g.f))) (fn b () pub (ret 1)) "+bad+" (fn b () pub (ret 1))"), want, 1, 2)
		toldAll(t, append(units(t, good, "(unit b) (fn b () pub (ret 1)) "+bad), importing("a b", "g", "c none", "d d")...), want, 1, 1)
		// Ahead of a cycle, wherever it is.
		toldAll(t, append(importing("a b", "b a"), units(t, "(unit c) "+bad)...), want, 2, 0)
	}
	// The signatures are those of all units, those behind, too, whatever is wrong with these.
	toldAll(t, units(t, "(unit a) (import b) (fn f () pub (ret (call b.g 1)))", "(unit b) (fn g () pub (ret 1))"), api.ErrType, 0, 0)
	toldAll(t, units(t, "(unit a) (import b) (fn f () pub (ret (call b.g)))", "(unit b) (fn g () sec (ret 1))"), api.ErrLabel, 0, 0)
	toldAll(t, units(t, "(unit a) (import b) (fn f () pub (ret (call b.g)))", "(unit b) (fn h () pub (ret 1))"), api.ErrName, 0, 0)
	toldAll(t, units(t, "(unit a) (import b) (fn f () pub (ret (call b.g)))", "(unit b) (fn h () pub (ret 1)) (fn g () pub (ret x))"), api.ErrName, 1, 1)
	toldAll(t, units(t, "(unit a) (import b) (fn f () pub (ret (call b.g)))", "(unit b) (fn h () pub (ret 1))", "(unit b) (fn g () pub (ret 1))"), api.ErrTwice, 2, -1)
	toldAll(t, units(t, "(unit a) (fn f () pub (ret (call b.g)))", "(unit b) (fn g () pub (ret 1))"), api.ErrName, 0, 0)
	toldAll(t, units(t, "(unit a) (import b) (fn f () pub (ret (call c.g)))", "(unit b) (import c)", "(unit c) (fn g () pub (ret 1))"), api.ErrName, 0, 0)
}

// P5.5: units that import one another, and such as only meet again.
func TestAllCycles(t *testing.T) {
	cycles := [][]string{
		{"a b", "b a"}, {"b a", "a b"}, {"a b", "b c", "c a"}, {"a c", "b a", "c b"}, {"a b", "b c", "c d", "d e", "e f", "f g", "g h", "h a"},
		{"a", "b c", "c b"}, {"a b", "b c", "c b"}, {"a b c", "b", "c a"}, {"c", "b c", "a b d", "d a"}, {"a", "b a", "c a b", "d e a", "e d"}, {"a b c d", "b c d", "c d", "d a"}, {"a b c", "b a c", "c a b"},
	}
	for _, l := range cycles {
		toldAll(t, importing(l...), api.ErrCycle, -1, -1)
		toldAll(t, append(importing(l...), importing("z a", "y z")...), api.ErrCycle, -1, -1)
		toldAll(t, append(importing("z y", "y"), importing(l...)...), api.ErrCycle, -1, -1)
		toldAll(t, append(importing(l...), importing("a")...), api.ErrTwice, len(l), -1)
		toldAll(t, append(importing(l...), importing("z none")...), api.ErrName, len(l), -1)
	}
	for _, l := range [][]string{{"a b", "b"}, {"a b", "b c", "c"}, {"a b c", "b d", "c d", "d"}, {"d", "c d", "b d", "a b c"}, {"a b c d", "b c d", "c d", "d"}, {"b d", "a b c", "d", "c d"}, {"a", "b", "c"}, {"a b c d e f g h", "b c d e f g h", "c d e f g h", "d e f g h", "e f g h", "f g h", "g h", "h"}} {
		toldAll(t, importing(l...), api.OK, -1, -1)
	}
	toldAll(t, units(t, "(unit a) (import b) (fn f () pub (ret (call b.g))) (fn h () pub (ret 1))", "(unit b) (import a) (fn g () pub (ret (call a.h)))"), api.ErrCycle, -1, -1)
}

// P5.5: all ways in which four units may import one another, held against the second checker.
func TestAllGraphs(t *testing.T) {
	names := []string{"a", "b", "c", "d"}
	cycles := 0
	for ways := range 1 << 12 {
		var l []api.Unit
		for i, name := range names {
			u := api.Unit{Name: name}
			for j := range 3 {
				if ways>>(3*i+j)&1 == 1 {
					u.Imports = append(u.Imports, names[(i+j+1)%4])
				}
			}
			l = append(l, u)
		}
		want, _, _ := modelAll(l)
		if want == api.ErrCycle {
			cycles++
		}
		toldAll(t, l, want, -1, -1)
	}
	// Of four things there are 543 orders in which none is ahead of itself.
	if cycles != 1<<12-543 {
		t.Errorf("%d ways with a cycle", cycles)
	}
}

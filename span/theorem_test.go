package span

import (
	"math/rand"
	"slices"
	"testing"

	"carling/api"
	"carling/dead"
	"carling/face"
	"carling/fold"
	"carling/lower"
	"carling/sexp"
	"carling/tree"
)

// holds asks all that the theorem tells of a function that is right.
func holds(t testing.TB, c api.Code) {
	t.Helper()
	l := spans(t, c)
	for r, s := range l {
		holdsOf(t, c, r, s)
	}
	for _, a := range l {
		for _, b := range l {
			if Meet(a, b) != Meet(b, a) {
				t.Fatalf("%d, %d: %t; the other way %t", a, b, Meet(a, b), Meet(b, a))
			}
		}
	}
	more := c
	more.Regs++
	has(t, more, append(l, none)...)
	more.Cells++
	has(t, more, append(l, none)...)
	if t.Failed() {
		t.FailNow()
	}
}

// holdsOf asks it of one register and its span.
func holdsOf(t testing.TB, c api.Code, r int, s [2]int) {
	t.Helper()
	given := r < modelGiven(c)
	met := given
	for at, x := range c.L {
		if !modelUses(x, r) {
			continue
		}
		if at < s[0] || at > s[1] {
			t.Fatalf("%s: the register %d is in use at %d; not within %d", lines(c), r, at, s)
		}
		if modelReads(x, r) && met && at == s[0] {
			t.Fatalf("%s: the register %d is read at %d, where %d begins", lines(c), r, at, s)
		}
		met = true
	}
	switch {
	case s[1] == -1:
		if s[0] != -1 || met && !given {
			t.Fatalf("%s: %d is of the register %d, which is in use", lines(c), s, r)
		}
	case s[0] == -1 && !given, s[0] != -1 && given:
		t.Fatalf("%s: %d is of the register %d", lines(c), s, r)
	default:
		for _, end := range s {
			if end != -1 && !modelUses(c.L[end], r) {
				t.Fatalf("%s: the register %d is not in use at the end %d of %d", lines(c), r, end, s)
			}
		}
	}
}

// P11.3: functions made by chance.
func TestTheorem(t *testing.T) {
	m := maker{rand.New(rand.NewSource(13))}
	for range 5000 {
		holds(t, m.function())
	}
}

// P11.3: functions of every kind of instruction, each with all parts that it does not have.
func TestTheoremOfKinds(t *testing.T) {
	for _, o := range kinds(3) {
		for _, p := range [][]api.Type{nil, params(0), params(0, 0, 0), params(2, 0, 1, 0)} {
			holds(t, code("a.f", p, 10, 4, number(8, 1), number(3, 1), o.x, copied(9, 2), ret(8)))
			holds(t, code("a.f", p, 10, 4, copied(2, 1), copied(1, 2), o.x, reckon(api.Add, 9, 4, 1), ret(1)))
		}
	}
}

// made are all functions of a text's unit: lowered, then folded, then freed of what is dead.
func made(t testing.TB, text string) []api.Code {
	t.Helper()
	n, e, _ := sexp.Parse(text)
	u, f, _ := tree.Unit(n)
	if e != api.OK || f != api.OK {
		t.Fatalf("%s: %d, %d", text, e, f)
	}
	var l []api.Code
	for i := range u.Funcs {
		c, e := lower.Lower(u, i, face.Sigs(u))
		d, f := fold.Fold(c)
		d, g := dead.Drop(d)
		if e != api.OK || f != api.OK || g != api.OK {
			t.Fatalf("%s, %d: %d, %d, %d", text, i, e, f, g)
		}
		l = append(l, c, d)
	}
	return l
}

// P11.1, P11.3: functions of units, of which some registers are in use over a call, and others are not.
func TestUnits(t *testing.T) {
	l := slices.Concat(
		made(t, "(unit a) (fn f ((x pub)) pub (ret (+ x (* 5 6)))) (fn g () pub (let y 5) (let z (* y 6)) (let w (+ z y)) (if (< y z) ((set y (call f z)) (set w y)) ((set y 3))) (ret (sel z y w)))"),
		made(t, "(unit b) (fn g ((k sec) (y pub) (x pub)) sec (ret (^ k (- x y)))) (fn h ((t pub 4) (k sec) (x pub)) sec (new v sec 3) (for i 0 4 (put t i (+ (at t i) (* i x)))) (let z 1) (for i 0 3 (put v i (call g k z x)) (set z (+ z x))) (ret (sel k z (at v 1))))"),
	)
	over, apart := 0, 0
	for _, c := range l {
		asModel(t, c)
		holds(t, c)
		for _, s := range Spans(c) {
			want := false
			for at, x := range c.L {
				want = want || x.Kind == api.ICall && s[0] < at && at < s[1]
			}
			if Calls(c, s) != want {
				t.Errorf("%s: of %d: not %t", lines(c), s, want)
			}
			if want {
				over++
			} else {
				apart++
			}
		}
	}
	if over == 0 || apart == 0 {
		t.Error(over, apart)
	}
}

package place

import (
	"math/rand"
	"slices"
	"testing"

	"carling/api"
	"carling/dead"
	"carling/face"
	"carling/fold"
	"carling/lower"
	"carling/sexp"
	"carling/tree"
)

// same asks many times over where a function's registers are kept, handed in as it is, and as one of equal parts in unlike slices, of unlike room.
func same(t testing.TB, c api.Code, times int) {
	t.Helper()
	want, slots := kept(t, c)
	for i := range times {
		d := c
		if i%2 == 1 {
			d = copyOf(c)
			d.L = append(make([]api.Ir, 0, len(d.L)+i), d.L...)
			d.Params = append(make([]api.Type, 0, len(d.Params)+i), d.Params...)
			for k, x := range d.L {
				if len(x.Args) == 0 {
					d.L[k].Args = anyEmpty(i)
				}
			}
		}
		l, n, e := Places(d)
		if !slices.Equal(l, want) || n != slots || e != api.OK {
			t.Fatalf("%s: %d, %d slots, error %d; not %d, %d", lines(c), l, n, e, want, slots)
		}
	}
}

// anyEmpty is a list without anything: nil, or not.
func anyEmpty(i int) []int {
	if i%4 == 1 {
		return nil
	}
	return []int{}
}

// P12.3: functions made by chance.
func TestTheorem(t *testing.T) {
	m := maker{rand.New(rand.NewSource(27))}
	for range 1500 {
		same(t, m.function(), 12)
	}
	for i := range 200 {
		same(t, tight(m, 1+i%30, 100, i%7), 12)
	}
}

// P12.3: functions of which many registers begin, and end, at one place.
func TestTheoremOfMany(t *testing.T) {
	for n := range 30 {
		same(t, atOnce(n), 100)
		same(t, atOnce(n, call(n, "a.g")), 100)
	}
	c := code("a.f", params(0, 0, 0, 0, 0, 0), 30, 0)
	for at := range 4 {
		c.L = append(c.L, call(6*at+6, "a.g", 6*at, 6*at+1, 6*at+2, 6*at+3, 6*at+4, 6*at+5), pick(6*at+7, 6*at+8, 6*at+9, 6*at+10))
	}
	c.L = append(c.L, ret(29))
	same(t, c, 1000)
	same(t, rich(), 1000)
}

// P12.3: a wrong function has the same error, and nothing else, each time.
func TestTheoremOfWrong(t *testing.T) {
	for range 50 {
		fails(t, alone(number(1, 1), copied(8, 1)), api.ErrReg)
		fails(t, alone(number(1, 1), jump(0), copied(8, 1)), api.ErrJump)
	}
}

// made are all functions of a text's unit: lowered, and then folded and freed of what is dead, too.
func made(t testing.TB, text string) []api.Code {
	t.Helper()
	n, e, _ := sexp.Parse(text)
	u, f, _ := tree.Unit(n)
	if e != api.OK || f != api.OK {
		t.Fatalf("%s: %d, %d", text, e, f)
	}
	var l []api.Code
	for i := range u.Funcs {
		c, e := lower.Lower(u, i, face.Sigs(u))
		d, f := fold.Fold(c)
		d, g := dead.Drop(d)
		if e != api.OK || f != api.OK || g != api.OK {
			t.Fatalf("%s, %d: %d, %d, %d", text, i, e, f, g)
		}
		l = append(l, c, d)
	}
	return l
}

// P12.2, P12.3: functions of units, of which some need slots and others do not.
func TestUnits(t *testing.T) {
	l := slices.Concat(
		made(t, "(unit a) (fn f ((x pub)) pub (ret (+ x (* 5 6)))) (fn g () pub (let y 5) (let z (* y 6)) (let w (+ z y)) (if (< y z) ((set y (call f z)) (set w y)) ((set y 3))) (ret (sel z y w)))"),
		made(t, "(unit b) (fn g ((k sec) (y pub) (x pub)) sec (ret (^ k (- x y)))) (fn h ((t pub 4) (k sec) (x pub)) sec (new v sec 3) (for i 0 4 (put t i (+ (at t i) (* i x)))) (let z 1) (for i 0 3 (put v i (call g k z x)) (set z (+ z x))) (ret (sel k z (at v 1))))"),
		made(t, "(unit c) (fn f ((a pub) (b pub) (c pub) (d pub) (e pub) (f pub)) pub (let g (+ a b)) (let h (+ c d)) (let i (+ e f)) (ret (+ (+ (* a b) (* c d)) (+ (* e f) (+ g (+ h i))))))"),
	)
	some, none := 0, 0
	for _, c := range l {
		same(t, c, 20)
		if _, slots := kept(t, c); slots > 0 {
			some++
		} else {
			none++
		}
	}
	if some == 0 || none == 0 {
		t.Error(some, none)
	}
}

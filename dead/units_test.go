package dead

import (
	"slices"
	"testing"

	"carling/api"
	"carling/face"
	"carling/fold"
	"carling/irun"
	"carling/lower"
	"carling/mean"
	"carling/sexp"
	"carling/tree"
)

// read is the unit of a text.
func read(t testing.TB, text string) api.Unit {
	t.Helper()
	l, e, at := sexp.Parse(text)
	if e != api.OK {
		t.Fatalf("%s: Parse: %d at %d", text, e, at)
	}
	u, e, at := tree.Unit(l)
	if e != api.OK {
		t.Fatalf("%s: Unit: %d at %d", text, e, at)
	}
	return u
}

// made are all functions of units, lowered, or lowered and folded.
func made(t testing.TB, l []api.Unit, folded bool) []api.Code {
	t.Helper()
	var sigs []api.Sig
	for _, u := range l {
		sigs = append(sigs, face.Sigs(u)...)
	}
	var out []api.Code
	for _, u := range l {
		for i := range u.Funcs {
			c, e := lower.Lower(u, i, sigs)
			if e == api.OK && folded {
				c, e = fold.Fold(c)
			}
			if e != api.OK {
				t.Fatalf("%s, %d: %d", u.Name, i, e)
			}
			out = append(out, c)
		}
	}
	return out
}

// P2: what comes of a function by what it means comes of it lowered, folded and freed of what is dead; of it freed alone, too.
func TestUnits(t *testing.T) {
	texts := []string{
		"(unit a) (fn f ((x pub)) pub (ret (+ x (* 5 6)))) (fn g () pub (let y 5) (let z (* y 6)) (let w (+ z y)) (if (< y z) ((set y (+ z 1)) (set w y)) ((set y 3))) (ret (sel z y 4)))",
		"(unit b) (import a) (fn h ((t pub 4) (k sec)) sec (for i 0 4 (put t i (+ (at t i) (* i i)))) (let z 1) (let n 0) (for i 0 3 (set n (+ n i)) (set z (+ z z))) (ret (sel k z (call a.f (call a.g)))))",
		"(unit c) (import a b) (fn m ((x pub) (u sec 2)) sec (new v sec 3) (let n 7) (let c (call a.f n)) (put v 1 (<< n 2)) (if x ((for j 0 2 (put u j (+ (at v j) n)))) ((put u 0 (sel 0 x (at v 1))) (let o (at u 1)))) (ret (^ (at u 0) (call a.f x))))",
	}
	var l []api.Unit
	for _, text := range texts {
		l = append(l, read(t, text))
	}
	for _, folded := range []bool{false, true} {
		codes, gone := made(t, l, folded), 0
		for _, other := range ways(t, codes) {
			for _, x := range []uint32{0, 1, 5, 1 << 31} {
				for name, args := range map[string][]uint32{"a.f": {x}, "a.g": {}, "b.h": {1, 2, x, 4, x}, "c.m": {x, 3, 4}} {
					want, branches, e := mean.Run(l, name, args)
					if e != api.OK {
						t.Fatal(name, args, e)
					}
					o, b, e := irun.Run(other, name, args)
					if e != api.OK || o.Result != want.Result || !slices.Equal(o.Arrays, want.Arrays) || !slices.Equal(b, branches) {
						t.Errorf("%s of %d: %+v, %d, %d; not %+v, %d", name, args, o, b, e, want, branches)
					}
				}
			}
		}
		for _, c := range codes {
			asModel(t, c)
			gone += len(c.L) - len(dropping(t, c).L)
		}
		if gone == 0 {
			t.Errorf("nothing is dead, folded or not (%t)", folded)
		}
	}
	// Of 5 times 6, of a.f, nothing is left but what comes of it.
	if d := dropping(t, made(t, l, true)[0]); len(d.L) != 3 || d.L[0].Kind != api.IConst || d.L[0].N != 30 {
		t.Error(lines(d))
	}
}

package mean

import (
	"slices"
	"testing"

	"carling/api"
)

// other are arguments that differ from some in secret ones alone.
func (m *maker) other(sig api.Sig, args []uint32) []uint32 {
	out := slices.Clone(args)
	at := 0
	for _, p := range sig.Params {
		n := max(p.Len, 1)
		if p.Sec {
			copy(out[at:], m.words(n))
		}
		at += n
	}
	return out
}

// seen is what of an outcome does not hang on what is secret: a public result, and public arrays.
func seen(sig api.Sig, o api.Outcome) []uint32 {
	var l []uint32
	if !sig.Sec {
		l = append(l, o.Result)
	}
	arrays := o.Arrays
	for _, p := range sig.Params {
		if !p.Sec {
			l = append(l, arrays[:p.Len]...)
		}
		arrays = arrays[p.Len:]
	}
	return l
}

// keeps asks that runs with two lists of arguments tell the same, but for what is secret; and whether something differs at all.
func keeps(t *testing.T, l []api.Unit, sig api.Sig, args, others []uint32) (api.Errno, bool) {
	t.Helper()
	o1, b1, e1 := Run(l, sig.Name, args)
	o2, b2, e2 := Run(l, sig.Name, others)
	if e1 != e2 || !slices.Equal(b1, b2) {
		t.Fatalf("%s of %d and of %d of %+v: %d, %d; %d, %d", sig.Name, args, others, l, b1, e1, b2, e2)
	}
	if e1 == api.OK && !slices.Equal(seen(sig, o1), seen(sig, o2)) {
		t.Fatalf("%s of %d and of %d of %+v: %+v; %+v", sig.Name, args, others, l, o1, o2)
	}
	return e1, o1.Result != o2.Result || !slices.Equal(o1.Arrays, o2.Arrays)
}

// P6.3: units that are made by chance, run with arguments that differ in secret ones alone.
func TestSecrets(t *testing.T) {
	ended, gaveUp, differ := 0, 0, 0
	makers(t, 63, 500, func(m *maker, l []api.Unit, sig api.Sig) {
		args := m.words(size(sig))
		for range 3 {
			others := m.other(sig, args)
			if slices.Equal(args, others) {
				continue
			}
			e, is := keeps(t, l, sig, args, others)
			switch {
			case e == api.ErrFuel:
				gaveUp++
			case is:
				differ++
				fallthrough
			default:
				ended++
			}
		}
	})
	if ended < 3000 || gaveUp < 200 || differ < 1000 {
		t.Errorf("%d ended, of which %d differ; %d gave up", ended, differ, gaveUp)
	}
}

// P6.3: what comes of secrets is told where it may be, and is nowhere else.
func TestSecretsByHand(t *testing.T) {
	const text = "(unit a) (import b) (fn f ((k sec) (x pub) (s sec 3) (t pub 2)) sec (let y (+ k 1)) (for i 0 3 (put s i (* (at s i) y))) (if x ((put t 0 (call b.pub1 k)) (set k (call b.mix k x))) ((put t 1 x))) (for i 0 2 (if (at t i) ((set y (sel (< k 5) y k))) ())) (ret (+ y k)))" +
		" (fn g ((k sec) (s sec 2)) pub (put s 0 k) (let x (call b.pub1 (at s 0))) (if x ((set x 4)) ()) (ret x))" +
		" (fn h ((k sec) (n pub)) sec (for i 0 60 (for j 0 4 (if n ((set k (call b.mix k i))) ()))) (ret k))"
	l := units(t, text, "(unit b) (fn pub1 ((k sec)) pub (let z (+ k k)) (set z 3) (ret (+ 1 1))) (fn mix ((k sec) (x pub)) sec (ret (sel k (^ k x) (- k x))))")
	secrets := []uint32{0, 1, 2, 5, 31, 32, 65536, 2147483648, 4294967295}
	word, array := api.Type{Sec: true}, api.Type{Sec: true, Len: 3}
	for _, k := range secrets {
		for _, s := range secrets {
			for _, x := range []uint32{0, 1} {
				f := api.Sig{Name: "a.f", Params: []api.Type{word, {}, array, {Len: 2}}, Sec: true}
				keeps(t, l, f, []uint32{3, x, 1, 2, 3, 0, 9}, []uint32{k, x, s, k, s, 0, 9})
				h := api.Sig{Name: "a.h", Params: []api.Type{word, {}}, Sec: true}
				e, _ := keeps(t, l, h, []uint32{s, x}, []uint32{k, x})
				if x == 0 && e != api.OK || x == 1 && e != api.ErrFuel {
					t.Fatalf("a.h of %d: %d", x, e)
				}
			}
			g := api.Sig{Name: "a.g", Params: []api.Type{word, {Sec: true, Len: 2}}}
			keeps(t, l, g, []uint32{3, 1, 2}, []uint32{k, s, k})
		}
	}
	comes(t, l, "a.g", []uint32{7, 8, 9}, 4, []uint32{7, 9}, []int{1})
	comes(t, l, "a.f", []uint32{3, 1, 1, 2, 3, 0, 9}, 6, []uint32{4, 8, 12, 2, 9}, []int{1, 1, 1})
	comes(t, l, "a.f", []uint32{3, 0, 1, 2, 3, 0, 9}, 7, []uint32{4, 8, 12, 0, 0}, []int{0, 0, 0})
}

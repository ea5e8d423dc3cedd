package lower

import (
	"fmt"
	"testing"

	"carling/api"
	"carling/face"
	"carling/irun"
)

// rich is a unit `a` with a function of every kind of expression and statement, its number, and the signatures that it needs.
func rich(t testing.TB) (api.Unit, int, []api.Sig) {
	u := read(t, "(unit a) (import b c) (fn g ((x pub)) pub (ret x)) (fn f ((x pub) (t sec 3) (k sec) (p pub 2)) sec (let y (call g x)) (for i 0 3 (put t i (+ (at t i) i)) (for j 1 2 (new u sec 2) (put u j k) (set k (at u j)))) (if (< x y) ((set y 2) (put p 0 y)) ((if y () ((let z y) (put p 1 z))))) (for i 0 64) (set y y) (ret (sel k (call b.h y (call c.h)) 3)))")
	return u, 1, []api.Sig{{Name: "b.h", Params: []api.Type{{}, {Sec: true}}}, {Name: "c.h"}}
}

// P8.4: the same unit twice, and with other functions behind the one that is asked for: the same is told.
func TestSame(t *testing.T) {
	u, i, sigs := rich(t)
	want := fmt.Sprintf("%+v", lowered(t, u, i, sigs))
	for range 100 {
		if got := fmt.Sprintf("%+v", lowered(t, u, i, sigs)); got != want {
			t.Fatalf("%s; not %s", got, want)
		}
	}
	for _, behind := range []string{"(fn z () pub (ret 1))", "(fn y ((x pub)) pub (ret (call g x)))", "(fn z ((t pub 3)) pub (for i 0 3 (put t i (call g i))) (ret (call c.h)))", "(fn m () pub (ret 1)) (fn n () pub (ret (call m)))"} {
		other := u
		other.Funcs = append(append([]api.Func{}, u.Funcs...), read(t, "(unit a) "+behind).Funcs...)
		if got := fmt.Sprintf("%+v", lowered(t, other, i, sigs)); got != want {
			t.Errorf("%s: %s; not %s", behind, got, want)
		}
	}
	// One that is ahead, and is called, does not matter but for its signature.
	other := u
	other.Funcs = append([]api.Func{}, u.Funcs...)
	other.Funcs[0] = read(t, "(unit a) (fn g ((z pub)) pub (let x 4) (set z (+ x z)) (ret z))").Funcs[0]
	if got := fmt.Sprintf("%+v", lowered(t, other, i, sigs)); got != want {
		t.Errorf("with another g: %s; not %s", got, want)
	}
}

// R3: what is handed in stays as it is, and so does what there is room for behind it.
func TestNothingIsChanged(t *testing.T) {
	u, i, sigs := rich(t)
	room := append(append([]api.Func{}, u.Funcs...), api.Func{Name: "behind"})
	u.Funcs = room[:2]
	some := append(sigs, api.Sig{Name: "behind", Params: []api.Type{{Len: 3}}})
	before := fmt.Sprintf("%+v %+v %+v", u, room, some)
	for range 3 {
		lowered(t, u, 0, some[:2])
		lowered(t, u, i, some[:2])
		fails(t, u, 2, some[:2], api.ErrArg)
		fails(t, u, i, nil, api.ErrName)
		if after := fmt.Sprintf("%+v %+v %+v", u, room, some); after != before {
			t.Fatalf("changed: %s", after)
		}
	}
}

// R3: what is told is the caller's own, all of it.
func TestNothingIsShared(t *testing.T) {
	u, i, sigs := rich(t)
	before := fmt.Sprintf("%+v %+v", u, sigs)
	first, second := lowered(t, u, i, sigs), lowered(t, u, i, sigs)
	want := fmt.Sprintf("%+v", second)
	for k := range first.Params {
		first.Params[k] = api.Type{Len: 16}
	}
	for k, x := range first.L {
		for n := range x.Args {
			x.Args[n] = -7
		}
		_ = append(x.Args, -8, -9)
		first.L[k] = api.Ir{Kind: api.IJump}
	}
	_ = append(first.Params, api.Type{Len: 15})
	if got := fmt.Sprintf("%+v", second); got != want {
		t.Errorf("two answers share memory: %s; not %s", got, want)
	}
	if after := fmt.Sprintf("%+v %+v", u, sigs); after != before {
		t.Errorf("an answer shares memory with what is handed in: %s", after)
	}
	// Nor do two lists of one answer.
	third := lowered(t, u, i, sigs)
	for _, x := range third.L {
		_ = append(x.Args, -8, -9)
	}
	if got := fmt.Sprintf("%+v", third); got != want {
		t.Errorf("two lists of an answer share memory: %s; not %s", got, want)
	}
}

// R4: a call does not hang on those ahead of it, whatever they told.
func TestCallsAhead(t *testing.T) {
	u, i, sigs := rich(t)
	want := fmt.Sprintf("%+v", lowered(t, u, i, sigs))
	for _, text := range []string{"(unit a) (fn f ((x pub 16)) pub (new y pub 4) (let k 5) (ret k))", "(unit b) (fn g ((t pub 3)) pub (ret x))", "(unit a)"} {
		other := read(t, text)
		Lower(other, 0, face.Sigs(other))
		if got := fmt.Sprintf("%+v", lowered(t, u, i, sigs)); got != want {
			t.Errorf("behind %s: %s; not %s", text, got, want)
		}
	}
}

// P0, R7: statements and expressions as deep within one another as they may be, loops that do nothing among them.
func TestDeep(t *testing.T) {
	one, x := api.Expr{Kind: api.ENum, N: 1}, api.Expr{Kind: api.EVar, Name: "x"}
	set := api.Stmt{Kind: api.SSet, Name: "x", E: one}
	nothing, never, once, branch, sum := api.Stmt{Kind: api.SFor, Name: "j", To: 64}, api.Stmt{Kind: api.SFor, Name: "j", From: 64, To: 63, Body: []api.Stmt{set}}, set, set, x
	for i := range 990 {
		nothing = api.Stmt{Kind: api.SFor, Name: fmt.Sprint("j", i), To: 64, Body: []api.Stmt{nothing}}
		never = api.Stmt{Kind: api.SFor, Name: fmt.Sprint("j", i), To: 64, Body: []api.Stmt{never}}
		once = api.Stmt{Kind: api.SFor, Name: fmt.Sprint("i", i), To: 1, Body: []api.Stmt{nothing, once}[i%2:]}
		if i < 480 {
			branch = api.Stmt{Kind: api.SIf, E: x, Body: []api.Stmt{branch}}
			if i%2 == 0 {
				branch.E, branch.Body, branch.Else = one, nil, branch.Body
			}
		}
		if i%2 == 0 {
			sum = api.Expr{Kind: api.EBin, Op: api.Add, L: []api.Expr{one, sum}}
		} else {
			sum = api.Expr{Kind: api.EBin, Op: api.Add, L: []api.Expr{sum, one}}
		}
	}
	// The outermost branch goes into one whose way is empty, so that x stays as it is.
	for i, c := range []struct {
		body   []api.Stmt
		result api.Expr
		want   uint32
	}{{[]api.Stmt{nothing}, sum, 997}, {[]api.Stmt{never}, x, 7}, {[]api.Stmt{once}, x, 1}, {[]api.Stmt{branch}, x, 7}, {[]api.Stmt{nothing, branch, once}, x, 1}} {
		f := api.Func{Name: "f", Params: []api.Param{{Name: "x"}}, Body: c.body, Result: c.result}
		code := lowered(t, api.Unit{Name: "a", Funcs: []api.Func{f}}, 0, nil)
		if o, _, e := irun.Run([]api.Code{code}, "a.f", []uint32{7}); e != api.OK || o.Result != c.want {
			t.Errorf("%d: %+v, %d; not %d", i, o, e, c.want)
		}
	}
}

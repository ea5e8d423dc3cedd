package check

import (
	"fmt"
	"testing"

	"carling/api"
	"carling/face"
)

// R3: units, signatures and functions stay as they are, whatever is told of them, and so does what there is room for behind them.
func TestNothingIsChanged(t *testing.T) {
	texts := []string{
		"(unit a) (import b c) (fn f ((x pub) (t sec 4)) sec (let y (+ x 1)) (for i 0 4 (put t i (call b.g y))) (if x ((set x 1)) ((new u pub 2))) (ret (at t 3)))",
		"(unit b) (import c) (fn g ((k sec)) sec (ret (sel k 1 (call c.h))))",
		"(unit c) (fn h () pub (ret 1)) (fn i ((x pub)) pub (let x 1) (ret x))",
	}
	l := units(t, texts...)
	room := append(units(t, texts...), importing("z none")...)
	sigs := append(append(face.Sigs(l[2]), face.Sigs(l[1])...), api.Sig{Name: "b.g"})
	before := fmt.Sprintf("%+v %+v %+v", l, room, sigs)
	for range 3 {
		toldAll(t, l, api.ErrTwice, 2, 1)
		toldAll(t, room[:3], api.ErrTwice, 2, 1)
		for i, u := range l {
			told(t, u, sigs[:3], []api.Errno{api.OK, api.OK, api.ErrTwice}[i], []int{-1, -1, 1}[i])
			for _, f := range u.Funcs {
				Weight(f)
			}
		}
		if after := fmt.Sprintf("%+v %+v %+v", l, room, sigs); after != before {
			t.Fatalf("changed: %s", after)
		}
	}
}

// R4: what is told does not hang on the order of a map, nor on the calls ahead.
func TestSameAgain(t *testing.T) {
	for range 100 {
		toldAll(t, importing("a b c d e", "b", "c", "d", "e b b c d a"), api.ErrTwice, 4, -1)
		toldAll(t, importing("a b c d e", "b", "c", "d none", "e b b c d a"), api.ErrName, 3, -1)
		toldAll(t, importing("a b c d e", "b", "c", "d e", "e b c d"), api.ErrCycle, -1, -1)
		toldAll(t, importing("a b c d e", "b", "c", "d e", "e b c"), api.OK, -1, -1)
		toldText(t, "(unit a) (import b c d e f a) (fn f () pub (ret x))", api.ErrTwice, -1)
		toldText(t, "(unit a) (import b c d e f) (fn f ((x pub) (y sec) (z pub 3)) pub (let u 1) (let v 2) (ret y))", api.ErrLabel, 0)
	}
}

// P0, R7: statements and expressions as deep within one another as they may be.
func TestDeep(t *testing.T) {
	one := api.Expr{Kind: api.ENum, N: 1}
	word := api.Expr{Kind: api.EVar, Name: "x"}
	cases := []struct {
		inner  api.Stmt
		result api.Expr
		want   api.Errno
	}{
		{api.Stmt{Kind: api.SLet, Name: "x", E: one}, one, api.ErrLong},
		{api.Stmt{Kind: api.SLet, Name: "x", E: one}, word, api.ErrName},
		{api.Stmt{Kind: api.SSet, Name: "x", E: one}, one, api.ErrName},
		{api.Stmt{Kind: api.SSet, Name: "i", E: one}, one, api.ErrType},
		{api.Stmt{Kind: api.SLet, Name: "i", E: one}, one, api.ErrTwice},
	}
	for _, c := range cases {
		s, x := c.inner, c.result
		for i := range 990 {
			x = api.Expr{Kind: api.EBin, Op: api.Add, L: []api.Expr{one, x}}
			s = api.Stmt{Kind: api.SIf, E: one, Body: []api.Stmt{s}}
			if i%2 == 0 {
				s.Body, s.Else = s.Else, s.Body
			}
		}
		s = api.Stmt{Kind: api.SFor, Name: "i", To: 1, Body: []api.Stmt{s}}
		u := api.Unit{Name: "a", Funcs: []api.Func{{Name: "f", Body: []api.Stmt{s}, Result: x}}}
		if e, n := Check(u, nil); e != c.want || n != 0 {
			t.Errorf("%+v deep within others: %d, %d; not %d", c.inner, e, n, c.want)
		}
	}
}

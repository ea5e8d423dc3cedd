package dead

import (
	"fmt"
	"slices"
	"strings"
	"testing"

	"carling/api"
	"carling/irun"
)

// Instructions of each kind, written out.
func number(d int, n uint32) api.Ir { return api.Ir{Kind: api.IConst, D: d, N: n} }
func copied(d, a int) api.Ir        { return api.Ir{Kind: api.ICopy, D: d, A: a} }
func reckon(op, d, a, b int) api.Ir { return api.Ir{Kind: api.IBin, Op: op, D: d, A: a, B: b} }
func pick(d, a, b, c int) api.Ir    { return api.Ir{Kind: api.ISel, D: d, A: a, B: b, C: c} }
func load(d int, n uint32) api.Ir   { return api.Ir{Kind: api.ILoad, D: d, N: n} }
func store(n uint32, a int) api.Ir  { return api.Ir{Kind: api.IStore, A: a, N: n} }
func jump(c int) api.Ir             { return api.Ir{Kind: api.IJump, C: c} }
func zero(a, c int) api.Ir          { return api.Ir{Kind: api.IZero, A: a, C: c} }
func ret(a int) api.Ir              { return api.Ir{Kind: api.IRet, A: a} }
func call(d int, name string, args ...int) api.Ir {
	return api.Ir{Kind: api.ICall, D: d, Name: name, Args: args}
}

// idles are one of each idle kind; each writes the register d, and those that read read the register 0.
func idles(d int) []api.Ir {
	return []api.Ir{number(d, 5), copied(d, 0), reckon(api.Add, d, 0, 0), pick(d, 0, 0, 0), load(d, 1)}
}

// params are parameters of these lengths, 0 being a word's; every second one is secret, which does not matter.
func params(lens ...int) []api.Type {
	var l []api.Type
	for i, n := range lens {
		l = append(l, api.Type{Sec: i%2 == 1, Len: n})
	}
	return l
}

// code is a function of these instructions.
func code(name string, p []api.Type, regs, cells int, l ...api.Ir) api.Code {
	return api.Code{Name: name, Params: p, Regs: regs, Cells: cells, L: l}
}

// alone is a function of a word, in register 0, and of an array of two, with 8 registers and 4 cells; an IRet of the word stands behind the instructions.
func alone(l ...api.Ir) api.Code {
	return code("a.f", params(0, 2), 8, 4, append(slices.Clone(l), ret(0))...)
}

// equal tells whether two instructions are the same, field by field.
func equal(x, y api.Ir) bool {
	return x.Kind == y.Kind && x.Op == y.Op && x.D == y.D && x.A == y.A && x.B == y.B && x.C == y.C && x.N == y.N && x.Name == y.Name && slices.Equal(x.Args, y.Args)
}

// equalButCode tells whether two functions are the same, but for their instructions.
func equalButCode(c, d api.Code) bool {
	return c.Name == d.Name && slices.Equal(c.Params, d.Params) && c.Regs == d.Regs && c.Cells == d.Cells
}

// equalCode tells whether two functions are the same.
func equalCode(c, d api.Code) bool {
	return equalButCode(c, d) && slices.EqualFunc(c.L, d.L, equal)
}

// copyOf is a function that shares nothing with another one.
func copyOf(c api.Code) api.Code {
	c.Params = slices.Clone(c.Params)
	c.L = slices.Clone(c.L)
	for i := range c.L {
		c.L[i].Args = slices.Clone(c.L[i].Args)
	}
	return c
}

// lines are a function as a failing test shows it.
func lines(c api.Code) string {
	s := fmt.Sprintf("%s %+v %d %d\n", c.Name, c.Params, c.Regs, c.Cells)
	for i, x := range c.L {
		if i == 40 {
			return s + "..\n"
		}
		s += fmt.Sprintf("%d: %+v\n", i, x)
	}
	return s
}

// dropping is a function, freed of what is dead, with what holds of each one: nothing but its instructions becomes another, what is handed in stays as it is, and what is told is right.
func dropping(t testing.TB, c api.Code) api.Code {
	t.Helper()
	before := copyOf(c)
	d, e := Drop(c)
	if e != api.OK {
		t.Fatalf("%s: error %d", lines(c), e)
	}
	if !equalCode(c, before) {
		t.Fatalf("%s: was handed in as %s", lines(c), lines(before))
	}
	if !equalButCode(c, d) || len(d.L) > len(c.L) {
		t.Fatalf("%s: became %s", lines(c), lines(d))
	}
	if e, at := irun.Right(d); e != api.OK {
		t.Fatalf("%s: %d at %d", lines(d), e, at)
	}
	return d
}

// drops asks which instructions come of a function.
func drops(t testing.TB, c api.Code, want ...api.Ir) {
	t.Helper()
	d := dropping(t, c)
	if !slices.EqualFunc(d.L, want, equal) {
		before := lines(c)
		c.L = want
		t.Errorf("%s: became %s; not %s", before, lines(d), lines(c))
	}
}

// without are instructions without those at some places. A jump over them goes so many places less far.
func without(l []api.Ir, out ...int) []api.Ir {
	var kept []api.Ir
	for at, x := range l {
		if slices.Contains(out, at) {
			continue
		}
		if x.Kind == api.IJump || x.Kind == api.IZero {
			to := x.C
			for _, o := range out {
				if o < to {
					x.C--
				}
			}
		}
		kept = append(kept, x)
	}
	return kept
}

// leavesOut asks that the instructions at some places are left out, and no other ones.
func leavesOut(t testing.TB, c api.Code, out ...int) {
	t.Helper()
	drops(t, c, without(c.L, out...)...)
}

// stays asks that all of an alone function's instructions stay as they are.
func stays(t testing.TB, l ...api.Ir) {
	t.Helper()
	c := alone(l...)
	drops(t, c, c.L...)
}

// fails asks that a function is told to be wrong, and nothing beside it, and that nothing is read of it.
func fails(t testing.TB, c api.Code, want api.Errno) {
	t.Helper()
	before := copyOf(c)
	d, e := Drop(c)
	if e != want || d.Name != "" || len(d.Params) != 0 || d.Regs != 0 || d.Cells != 0 || len(d.L) != 0 {
		t.Errorf("%s: %s, %d; not %d", lines(c), lines(d), e, want)
	}
	for _, at := range []int{-1, 0, 1, len(c.L) - 1, len(c.L), len(c.L) + 1} {
		if l := Read(c, at); len(l) != 0 {
			t.Errorf("%s: %d are read at %d", lines(c), l, at)
		}
	}
	if !equalCode(c, before) {
		t.Errorf("%s: was handed in as %s", lines(c), lines(before))
	}
}

// P10.1: the examples of the chapter.
func TestExamples(t *testing.T) {
	drops(t, code("a.f", nil, 2, 0, number(0, 5), number(1, 6), ret(0)), number(0, 5), ret(0))
	drops(t, code("a.f", nil, 3, 0, number(0, 5), copied(1, 0), ret(2)), ret(2))
	drops(t, code("a.f", nil, 3, 0, call(1, "a.g"), ret(2)), call(1, "a.g"), ret(2))
}

// P10.1, P10.2: each error of irun.Right, and nothing beside it.
func TestErrors(t *testing.T) {
	long := slices.Repeat([]api.Ir{number(0, 1)}, 10000)
	for want, l := range map[api.Errno][]api.Code{
		api.ErrForm: {
			{}, code("", nil, 1, 0, ret(0)), code("a", nil, 1, 0, ret(0)), code("a.f.g", nil, 1, 0, ret(0)), code("a.F", nil, 1, 0, ret(0)),
			code("a.f", make([]api.Type, 7), 7, 0, ret(0)), code("a.f", params(-1), 1, 1, ret(0)), code("a.f", params(17), 1, 17, ret(0)),
			code("a.f", params(0, 0), 1, 0, ret(0)), code("a.f", nil, 10001, 0, ret(0)), code("a.f", params(2, 3), 1, 4, ret(0)), code("a.f", nil, 1, 4097, ret(0)), code("a.f", nil, 1, -1, ret(0)),
			code("a.f", nil, 1, 0), code("a.f", nil, 1, 0, append(long, ret(0))...),
		},
		api.ErrOp: {
			alone(api.Ir{}), alone(api.Ir{Kind: 11}), alone(api.Ir{Kind: -1}), alone(reckon(0, 1, 1, 1)), alone(reckon(11, 1, 1, 1)), alone(reckon(-1, 9, 9, 9)),
			alone(call(1, "a.f", 0, 0, 0, 0, 0, 0, 0)), alone(call(1, "f")), alone(call(9, "", 9)),
		},
		api.ErrReg: {
			alone(number(8, 1)), alone(number(-1, 1)), alone(copied(8, 0)), alone(copied(0, 8)), alone(reckon(api.Add, 8, 0, 0)), alone(reckon(api.Add, 0, -1, 0)), alone(reckon(api.Add, 0, 0, 8)),
			alone(pick(8, 0, 0, 0)), alone(pick(0, 8, 0, 0)), alone(pick(0, 0, 8, 0)), alone(pick(0, 0, 0, 8)), alone(load(8, 9)), alone(store(9, 8)), alone(call(8, "a.f")), alone(call(0, "a.f", 1, 8)), alone(zero(8, 0)), alone(ret(-1)),
			code("a.f", nil, 0, 0, ret(0)),
		},
		api.ErrAddr: {alone(load(0, 4)), alone(store(4, 0)), alone(load(0, 1<<31))},
		api.ErrJump: {alone(jump(0)), alone(jump(2)), alone(jump(-1)), alone(zero(0, 0)), alone(zero(0, 2)), code("a.f", nil, 1, 0, number(0, 1), jump(1))},
		api.ErrEnd:  {code("a.f", nil, 1, 0, number(0, 1)), code("a.f", nil, 1, 0, long...), code("a.f", nil, 2, 0, number(0, 1), copied(1, 0)), code("a.f", nil, 1, 1, ret(0), store(0, 0))},
	} {
		for _, c := range l {
			if e, _ := irun.Right(c); e != want {
				t.Fatalf("%s: %d; not %d", lines(c), e, want)
			}
			fails(t, c, want)
		}
	}
}

// P10.1, P10.2: what is wrong is told of all of a function, of what is dead and of what no run comes to, too; the first wrong one is told.
func TestErrorsAnywhere(t *testing.T) {
	good := []api.Ir{number(1, 5), copied(2, 1), ret(2), number(1, 5), copied(7, 1), ret(1)}
	for i := range len(good) + 1 {
		for _, wrong := range []struct {
			x    api.Ir
			want api.Errno
		}{{api.Ir{}, api.ErrOp}, {reckon(11, 7, 0, 0), api.ErrOp}, {copied(8, 1), api.ErrReg}, {copied(7, 8), api.ErrReg}, {load(7, 4), api.ErrAddr}, {jump(0), api.ErrJump}} {
			fails(t, alone(slices.Insert(slices.Clone(good), i, wrong.x)...), wrong.want)
			fails(t, alone(append(slices.Insert(slices.Clone(good), i, wrong.x), api.Ir{}, copied(8, 8))...), wrong.want)
		}
	}
	fails(t, alone(copied(8, 1), api.Ir{}), api.ErrReg)
	fails(t, alone(api.Ir{}, copied(8, 1)), api.ErrOp)
}

// unread are the letters of the fields that an instruction of a kind does not have.
func unread(kind int) string {
	return map[int]string{
		api.IConst: "oabcns", api.ICopy: "obcNns", api.IBin: "cNns", api.ISel: "oNns", api.ILoad: "oabcns",
		api.IStore: "odbcns", api.ICall: "oabcN", api.IJump: "odabNns", api.IZero: "odbNns", api.IRet: "odbcNns",
	}[kind]
}

// filled is an instruction with something in each field that its kind does not have: the registers 1 to 6, and 1 as its place.
func filled(x api.Ir) api.Ir {
	fill := func(letter string, set func()) {
		if strings.Contains(unread(x.Kind), letter) {
			set()
		}
	}
	fill("o", func() { x.Op = api.Mul })
	fill("d", func() { x.D = 1 })
	fill("a", func() { x.A = 2 })
	fill("b", func() { x.B = 3 })
	fill("c", func() { x.C = 1 })
	fill("N", func() { x.N = 77 })
	fill("n", func() { x.Name = "b.g" })
	fill("s", func() { x.Args = []int{4, 5, 6} })
	return x
}

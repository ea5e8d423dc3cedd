package irun

import (
	"reflect"
	"slices"
	"testing"

	"carling/api"
)

// Instructions of each kind, written out.
func number(d int, n uint32) api.Ir { return api.Ir{Kind: api.IConst, D: d, N: n} }
func copied(d, a int) api.Ir        { return api.Ir{Kind: api.ICopy, D: d, A: a} }
func reckon(op, d, a, b int) api.Ir { return api.Ir{Kind: api.IBin, Op: op, D: d, A: a, B: b} }
func pick(d, a, b, c int) api.Ir    { return api.Ir{Kind: api.ISel, D: d, A: a, B: b, C: c} }
func load(d int, n uint32) api.Ir   { return api.Ir{Kind: api.ILoad, D: d, N: n} }
func store(n uint32, a int) api.Ir  { return api.Ir{Kind: api.IStore, A: a, N: n} }
func jump(c int) api.Ir             { return api.Ir{Kind: api.IJump, C: c} }
func zero(a, c int) api.Ir          { return api.Ir{Kind: api.IZero, A: a, C: c} }
func ret(a int) api.Ir              { return api.Ir{Kind: api.IRet, A: a} }
func call(d int, name string, args ...int) api.Ir {
	return api.Ir{Kind: api.ICall, D: d, Name: name, Args: args}
}

// params are parameters of these lengths, 0 being a word's; every second one is secret, which does not matter.
func params(lens ...int) []api.Type {
	var l []api.Type
	for i, n := range lens {
		l = append(l, api.Type{Sec: i%2 == 1, Len: n})
	}
	return l
}

// code is a function of these instructions.
func code(name string, p []api.Type, regs, cells int, l ...api.Ir) api.Code {
	return api.Code{Name: name, Params: p, Regs: regs, Cells: cells, L: l}
}

// alone is a function without parameters, with 4 registers and 4 cells.
func alone(l ...api.Ir) api.Code { return code("a.f", nil, 4, 4, l...) }

// short is a function as a failing test shows it.
func short(c api.Code) api.Code {
	if len(c.L) > 20 {
		c.L = c.L[:20]
	}
	return c
}

// right asks what Right tells.
func right(t testing.TB, c api.Code, want api.Errno, place int) {
	t.Helper()
	if e, at := Right(c); e != want || at != place {
		t.Errorf("%+v: %d at %d; not %d at %d", short(c), e, at, want, place)
	}
}

// fails asks that a run answers an error, and nothing beside it.
func fails(t testing.TB, l []api.Code, name string, args []uint32, want api.Errno) {
	t.Helper()
	o, branches, e := Run(l, name, args)
	if e != want || o.Result != 0 || len(o.Arrays) != 0 || len(branches) != 0 {
		t.Errorf("%q of %d: %+v, %d, %d; not %d", name, args, o, branches, e, want)
	}
}

// comes asks what comes of a run: its result, its arrays, its branches.
func comes(t testing.TB, l []api.Code, name string, args []uint32, result uint32, arrays []uint32, branches []int) {
	t.Helper()
	o, b, e := Run(l, name, args)
	if e != api.OK || o.Result != result || !slices.Equal(o.Arrays, arrays) || !slices.Equal(b, branches) {
		t.Errorf("%q of %d: %+v, %d, %d; not %d, %d, %d", name, args, o, b, e, result, arrays, branches)
	}
}

// runs asks for the result of a function alone, without arguments and branches.
func runs(t testing.TB, c api.Code, result uint32) {
	t.Helper()
	comes(t, []api.Code{c}, c.Name, nil, result, nil, nil)
}

// copyOf is a list that shares nothing with another one.
func copyOf(l []api.Code) []api.Code {
	out := slices.Clone(l)
	for i := range out {
		out[i].Params = slices.Clone(out[i].Params)
		out[i].L = slices.Clone(out[i].L)
		for j := range out[i].L {
			out[i].L[j].Args = slices.Clone(out[i].L[j].Args)
		}
	}
	return out
}

// same asks that a list is as it was.
func same(t testing.TB, l, before []api.Code) {
	t.Helper()
	if !reflect.DeepEqual(l, before) {
		t.Error("what was handed in is another one")
	}
}

// P7.1, P7.2: the examples of the chapter.
func TestExamples(t *testing.T) {
	runs(t, code("a.f", nil, 3, 0, number(0, 5), copied(1, 0), reckon(api.Add, 2, 0, 1), ret(2)), 10)
	right(t, alone(jump(0)), api.ErrJump, 0)
	right(t, alone(jump(0), ret(0)), api.ErrJump, 0)
	right(t, alone(number(0, 5)), api.ErrEnd, 0)
}

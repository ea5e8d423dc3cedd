package place

import (
	"fmt"
	"math"
	"slices"
	"testing"

	"carling/api"
	"carling/irun"
)

// Instructions of each kind, written out.
func number(d int, n uint32) api.Ir { return api.Ir{Kind: api.IConst, D: d, N: n} }
func copied(d, a int) api.Ir        { return api.Ir{Kind: api.ICopy, D: d, A: a} }
func reckon(op, d, a, b int) api.Ir { return api.Ir{Kind: api.IBin, Op: op, D: d, A: a, B: b} }
func pick(d, a, b, c int) api.Ir    { return api.Ir{Kind: api.ISel, D: d, A: a, B: b, C: c} }
func load(d int, n uint32) api.Ir   { return api.Ir{Kind: api.ILoad, D: d, N: n} }
func store(n uint32, a int) api.Ir  { return api.Ir{Kind: api.IStore, A: a, N: n} }
func jump(c int) api.Ir             { return api.Ir{Kind: api.IJump, C: c} }
func zero(a, c int) api.Ir          { return api.Ir{Kind: api.IZero, A: a, C: c} }
func ret(a int) api.Ir              { return api.Ir{Kind: api.IRet, A: a} }
func call(d int, name string, args ...int) api.Ir {
	return api.Ir{Kind: api.ICall, D: d, Name: name, Args: args}
}

// params are parameters of these lengths, 0 being a word's; every second one is secret, which does not matter.
func params(lens ...int) []api.Type {
	var l []api.Type
	for i, n := range lens {
		l = append(l, api.Type{Sec: i%2 == 1, Len: n})
	}
	return l
}

// code is a function of these instructions.
func code(name string, p []api.Type, regs, cells int, l ...api.Ir) api.Code {
	return api.Code{Name: name, Params: p, Regs: regs, Cells: cells, L: l}
}

// alone is a function without parameters, with 8 registers and 4 cells; an IRet of the register 0 stands behind the instructions.
func alone(l ...api.Ir) api.Code {
	return code("a.f", nil, 8, 4, append(slices.Clone(l), ret(0))...)
}

// equal tells whether two instructions are the same, field by field.
func equal(x, y api.Ir) bool {
	return x.Kind == y.Kind && x.Op == y.Op && x.D == y.D && x.A == y.A && x.B == y.B && x.C == y.C && x.N == y.N && x.Name == y.Name && slices.Equal(x.Args, y.Args)
}

// equalCode tells whether two functions are the same.
func equalCode(c, d api.Code) bool {
	return c.Name == d.Name && slices.Equal(c.Params, d.Params) && c.Regs == d.Regs && c.Cells == d.Cells && slices.EqualFunc(c.L, d.L, equal)
}

// copyOf is a function that shares nothing with another one.
func copyOf(c api.Code) api.Code {
	c.Params = slices.Clone(c.Params)
	c.L = slices.Clone(c.L)
	for i := range c.L {
		c.L[i].Args = slices.Clone(c.L[i].Args)
	}
	return c
}

// lines are a function as a failing test shows it.
func lines(c api.Code) string {
	s := fmt.Sprintf("%s %+v %d %d\n", c.Name, c.Params, c.Regs, c.Cells)
	for i, x := range c.L {
		if i == 40 {
			return s + "..\n"
		}
		s += fmt.Sprintf("%d: %+v\n", i, x)
	}
	return s
}

// may asks whether a function's registers may be kept so; all that is handed in stays as it is.
func may(t testing.TB, c api.Code, l []int, slots int, want bool) {
	t.Helper()
	before, list := copyOf(c), slices.Clone(l)
	if Check(c, l, slots) != want {
		t.Errorf("%s: %d, %d slots: not %t", lines(c), l, slots, want)
	}
	if !equalCode(c, before) || !slices.Equal(l, list) {
		t.Errorf("%s, %d: were handed in as %s, %d", lines(c), l, lines(before), list)
	}
}

// kept are the places of a right function's registers, and how many slots there are. All that is promised of them holds, by a second Check, too.
func kept(t testing.TB, c api.Code) ([]int, int) {
	t.Helper()
	before := copyOf(c)
	l, slots, e := Places(c)
	if e != api.OK || len(l) != c.Regs || slots < 0 || slots > c.Regs {
		t.Fatalf("%s: %d, %d slots, error %d", lines(c), l, slots, e)
	}
	if !equalCode(c, before) {
		t.Fatalf("%s: was handed in as %s", lines(c), lines(before))
	}
	if why := modelWrong(c, l, slots); why != "" {
		t.Fatalf("%s: %d, %d slots: %s", lines(c), l, slots, why)
	}
	may(t, c, l, slots, true)
	// That a slot is taken again as soon as it is free no promise asks, but that none is there in some cases.
	if slots > 0 && modelFew(c) || slots > modelMost(c) {
		t.Errorf("%s: %d, %d slots, which is more than are called for", lines(c), l, slots)
	}
	return l, slots
}

// fails asks that a function is wrong, that nothing else is told of it, and that its registers may not be kept anyhow.
func fails(t testing.TB, c api.Code, want api.Errno) {
	t.Helper()
	before := copyOf(c)
	if e, _ := irun.Right(c); e != want || want == api.OK {
		t.Fatalf("%s: %d; not %d", lines(c), e, want)
	}
	if l, slots, e := Places(c); len(l) != 0 || slots != 0 || e != want {
		t.Errorf("%s: %d, %d slots, error %d; not %d", lines(c), l, slots, e, want)
	}
	if !equalCode(c, before) {
		t.Errorf("%s: was handed in as %s", lines(c), lines(before))
	}
	for _, n := range []int{0, 1, c.Regs - 1, c.Regs, c.Regs + 1} {
		if n < 0 || n > 10001 {
			continue
		}
		var l []int
		for r := range n {
			l = append(l, firstSlot+r)
		}
		for _, slots := range []int{0, n, math.MaxInt} {
			may(t, c, l, slots, false)
		}
	}
}

// P12.1, P12.2: the examples of the chapter.
func TestExamples(t *testing.T) {
	c := code("a.f", nil, 2, 0, number(0, 5), reckon(api.Add, 1, 0, 0), ret(1))
	may(t, c, []int{3, 3}, 0, true)
	if _, slots := kept(t, c); slots != 0 {
		t.Error(slots)
	}
	c = code("a.f", nil, 2, 0, number(0, 5), call(1, "a.g"), ret(0))
	may(t, c, []int{3, 3}, 1, false)
	may(t, c, []int{8, 3}, 1, true)
	if l, slots := kept(t, c); l[0] < 8 || slots != 1 {
		t.Error(l, slots)
	}
}

// P12.1, P12.2: each error of irun.Right.
func TestErrors(t *testing.T) {
	long := slices.Repeat([]api.Ir{number(0, 1)}, 10000)
	for want, l := range map[api.Errno][]api.Code{
		api.ErrForm: {
			{}, code("", nil, 1, 0, ret(0)), code("a", nil, 1, 0, ret(0)), code("a.f.g", nil, 1, 0, ret(0)), code("a.F", nil, 1, 0, ret(0)),
			code("a.f", make([]api.Type, 7), 7, 0, ret(0)), code("a.f", params(-1), 1, 1, ret(0)), code("a.f", params(17), 1, 17, ret(0)),
			code("a.f", params(0, 0), 1, 0, ret(0)), code("a.f", nil, 10001, 0, ret(0)), code("a.f", nil, -1, 0, ret(0)), code("a.f", nil, math.MinInt, 0, ret(0)), code("a.f", nil, math.MaxInt, 0, ret(0)),
			code("a.f", params(2, 3), 1, 4, ret(0)), code("a.f", nil, 1, 4097, ret(0)), code("a.f", nil, 1, -1, ret(0)),
			code("a.f", nil, 1, 0), code("a.f", nil, 0, 0), code("a.f", nil, 1, 0, append(long, ret(0))...),
		},
		api.ErrOp: {
			alone(api.Ir{}), alone(api.Ir{Kind: 11}), alone(api.Ir{Kind: -1}), alone(reckon(0, 1, 1, 1)), alone(reckon(11, 1, 1, 1)), alone(reckon(-1, 9, 9, 9)),
			alone(call(1, "a.f", 0, 0, 0, 0, 0, 0, 0)), alone(call(1, "f")), alone(call(9, "", 9)),
		},
		api.ErrReg: {
			alone(number(8, 1)), alone(number(-1, 1)), alone(copied(8, 0)), alone(copied(0, 8)), alone(reckon(api.Add, 8, 0, 0)), alone(reckon(api.Add, 0, -1, 0)), alone(reckon(api.Add, 0, 0, 8)),
			alone(pick(8, 0, 0, 0)), alone(pick(0, 8, 0, 0)), alone(pick(0, 0, 8, 0)), alone(pick(0, 0, 0, 8)), alone(load(8, 9)), alone(store(9, 8)), alone(call(8, "a.f")), alone(call(0, "a.f", 1, 8)), alone(zero(8, 0)), alone(ret(-1)),
			// Functions without registers.
			code("a.f", nil, 0, 0, ret(0)), code("a.f", params(2), 0, 2, jump(1), ret(0)),
		},
		api.ErrAddr: {alone(load(0, 4)), alone(store(4, 0)), alone(load(0, 1<<31))},
		api.ErrJump: {alone(jump(0)), alone(jump(2)), alone(jump(-1)), alone(zero(0, 0)), alone(zero(0, 2)), alone(number(1, 1), jump(0)), alone(number(1, 1), zero(1, 0)), code("a.f", nil, 1, 0, number(0, 1), jump(1))},
		api.ErrEnd:  {code("a.f", nil, 1, 0, number(0, 1)), code("a.f", nil, 1, 0, long...), code("a.f", nil, 2, 0, number(0, 1), copied(1, 0)), code("a.f", nil, 1, 1, ret(0), store(0, 0))},
	} {
		for _, c := range l {
			fails(t, c, want)
		}
	}
}

// P12.1, P12.2: what is wrong anywhere in a function, where no run comes to, too.
func TestErrorsAnywhere(t *testing.T) {
	good := []api.Ir{number(1, 5), copied(2, 1), ret(2), number(1, 5), copied(7, 1), ret(1)}
	kept(t, alone(good...))
	for i := range len(good) + 1 {
		for _, wrong := range []struct {
			x    api.Ir
			want api.Errno
		}{{api.Ir{}, api.ErrOp}, {reckon(11, 7, 0, 0), api.ErrOp}, {copied(8, 1), api.ErrReg}, {copied(7, 8), api.ErrReg}, {load(7, 4), api.ErrAddr}, {jump(0), api.ErrJump}} {
			fails(t, alone(slices.Insert(slices.Clone(good), i, wrong.x)...), wrong.want)
		}
	}
}

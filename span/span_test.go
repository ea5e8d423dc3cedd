package span

import (
	"fmt"
	"math"
	"slices"
	"testing"

	"carling/api"
	"carling/irun"
)

// Instructions of each kind, written out.
func number(d int, n uint32) api.Ir { return api.Ir{Kind: api.IConst, D: d, N: n} }
func copied(d, a int) api.Ir        { return api.Ir{Kind: api.ICopy, D: d, A: a} }
func reckon(op, d, a, b int) api.Ir { return api.Ir{Kind: api.IBin, Op: op, D: d, A: a, B: b} }
func pick(d, a, b, c int) api.Ir    { return api.Ir{Kind: api.ISel, D: d, A: a, B: b, C: c} }
func load(d int, n uint32) api.Ir   { return api.Ir{Kind: api.ILoad, D: d, N: n} }
func store(n uint32, a int) api.Ir  { return api.Ir{Kind: api.IStore, A: a, N: n} }
func jump(c int) api.Ir             { return api.Ir{Kind: api.IJump, C: c} }
func zero(a, c int) api.Ir          { return api.Ir{Kind: api.IZero, A: a, C: c} }
func ret(a int) api.Ir              { return api.Ir{Kind: api.IRet, A: a} }
func call(d int, name string, args ...int) api.Ir {
	return api.Ir{Kind: api.ICall, D: d, Name: name, Args: args}
}

// none is the span of a register that is not in use.
var none = [2]int{-1, -1}

// params are parameters of these lengths, 0 being a word's; every second one is secret, which does not matter.
func params(lens ...int) []api.Type {
	var l []api.Type
	for i, n := range lens {
		l = append(l, api.Type{Sec: i%2 == 1, Len: n})
	}
	return l
}

// code is a function of these instructions.
func code(name string, p []api.Type, regs, cells int, l ...api.Ir) api.Code {
	return api.Code{Name: name, Params: p, Regs: regs, Cells: cells, L: l}
}

// alone is a function without parameters, with 8 registers and 4 cells; an IRet of the register 0 stands behind the instructions.
func alone(l ...api.Ir) api.Code {
	return code("a.f", nil, 8, 4, append(slices.Clone(l), ret(0))...)
}

// equal tells whether two instructions are the same, field by field.
func equal(x, y api.Ir) bool {
	return x.Kind == y.Kind && x.Op == y.Op && x.D == y.D && x.A == y.A && x.B == y.B && x.C == y.C && x.N == y.N && x.Name == y.Name && slices.Equal(x.Args, y.Args)
}

// equalCode tells whether two functions are the same.
func equalCode(c, d api.Code) bool {
	return c.Name == d.Name && slices.Equal(c.Params, d.Params) && c.Regs == d.Regs && c.Cells == d.Cells && slices.EqualFunc(c.L, d.L, equal)
}

// copyOf is a function that shares nothing with another one.
func copyOf(c api.Code) api.Code {
	c.Params = slices.Clone(c.Params)
	c.L = slices.Clone(c.L)
	for i := range c.L {
		c.L[i].Args = slices.Clone(c.L[i].Args)
	}
	return c
}

// lines are a function as a failing test shows it.
func lines(c api.Code) string {
	s := fmt.Sprintf("%s %+v %d %d\n", c.Name, c.Params, c.Regs, c.Cells)
	for i, x := range c.L {
		if i == 40 {
			return s + "..\n"
		}
		s += fmt.Sprintf("%d: %+v\n", i, x)
	}
	return s
}

// spans are a function's, which is right and stays as it is.
func spans(t testing.TB, c api.Code) [][2]int {
	t.Helper()
	before := copyOf(c)
	if e, at := irun.Right(c); e != api.OK {
		t.Fatalf("%s: %d at %d", lines(c), e, at)
	}
	l := Spans(c)
	if len(l) != c.Regs {
		t.Fatalf("%s: %d spans", lines(c), len(l))
	}
	if !equalCode(c, before) {
		t.Fatalf("%s: was handed in as %s", lines(c), lines(before))
	}
	return l
}

// has asks which spans a function's first registers have; those of all other ones are not in use.
func has(t testing.TB, c api.Code, want ...[2]int) {
	t.Helper()
	l := spans(t, c)
	if len(want) > len(l) || !slices.Equal(l[:len(want)], want) {
		t.Errorf("%s: %d; not %d", lines(c), l, want)
		return
	}
	for r, s := range l[len(want):] {
		if s != none {
			t.Errorf("%s: %d of the register %d, which is not in use", lines(c), s, len(want)+r)
		}
	}
}

// fails asks that a function is wrong, and that nothing is told of it.
func fails(t testing.TB, c api.Code, want api.Errno) {
	t.Helper()
	before := copyOf(c)
	if e, _ := irun.Right(c); e != want || want == api.OK {
		t.Fatalf("%s: %d; not %d", lines(c), e, want)
	}
	if l := Spans(c); len(l) != 0 {
		t.Errorf("%s: %d", lines(c), l)
	}
	if !equalCode(c, before) {
		t.Errorf("%s: was handed in as %s", lines(c), lines(before))
	}
}

// P11.1: the examples of the chapter.
func TestExamples(t *testing.T) {
	l := []api.Ir{number(0, 5), reckon(api.Add, 1, 0, 0), ret(1)}
	has(t, code("a.f", nil, 2, 0, l...), [2]int{0, 1}, [2]int{1, 2})
	if Meet([2]int{0, 1}, [2]int{1, 2}) {
		t.Error("0 1 and 1 2 meet")
	}
	has(t, code("a.f", params(0), 2, 0, l...), [2]int{-1, 1}, [2]int{1, 2})
}

// P11.1: a register that is only read, only written, written first, read first, and both at one place; each at one place, at places next to one another, and at the first and the last one.
func TestInUse(t *testing.T) {
	reads, writes, both := store(0, 1), number(1, 5), copied(1, 1)
	other := load(2, 0)
	for _, c := range []struct {
		l    []api.Ir
		want [2]int
	}{
		{nil, none}, {[]api.Ir{other, other, other}, none},
		{[]api.Ir{reads}, [2]int{0, 0}}, {[]api.Ir{writes}, [2]int{0, 0}}, {[]api.Ir{both}, [2]int{0, 0}},
		{[]api.Ir{other, reads, other}, [2]int{1, 1}}, {[]api.Ir{other, writes, other}, [2]int{1, 1}}, {[]api.Ir{other, both, other}, [2]int{1, 1}},
		{[]api.Ir{reads, other, other, reads}, [2]int{0, 3}}, {[]api.Ir{writes, other, other, writes}, [2]int{0, 3}}, {[]api.Ir{both, other, both, other}, [2]int{0, 2}},
		{[]api.Ir{other, writes, reads}, [2]int{1, 2}}, {[]api.Ir{other, writes, other, reads, other}, [2]int{1, 3}}, {[]api.Ir{writes, both, other, reads}, [2]int{0, 3}},
		{[]api.Ir{other, reads, writes}, [2]int{1, 2}}, {[]api.Ir{other, reads, other, writes, other}, [2]int{1, 3}}, {[]api.Ir{reads, both, other, writes}, [2]int{0, 3}},
		{[]api.Ir{both, reads, other, other}, [2]int{0, 1}}, {[]api.Ir{other, other, reads, both}, [2]int{2, 3}}, {[]api.Ir{both, writes, other}, [2]int{0, 1}}, {[]api.Ir{other, writes, both}, [2]int{1, 2}},
		{[]api.Ir{writes, reads, writes, other, writes, reads, writes}, [2]int{0, 6}},
	} {
		l := spans(t, alone(c.l...))
		if l[1] != c.want {
			t.Errorf("%s: %d; not %d", lines(alone(c.l...)), l[1], c.want)
		}
	}
	has(t, code("a.f", nil, 1, 0, ret(0)), [2]int{0, 0})
	has(t, code("a.f", nil, 3, 0, number(0, 1), number(1, 1), ret(2)), [2]int{0, 0}, [2]int{1, 1}, [2]int{2, 2})
	has(t, code("a.f", nil, 3, 0, number(2, 1), number(1, 1), ret(2)), none, [2]int{1, 1}, [2]int{0, 2})
}

// P11.1: as many spans as there are registers, each at its register's place.
func TestInOrder(t *testing.T) {
	for n := range 9 {
		c := code("a.f", nil, n+1, 0)
		var want [][2]int
		for r := range n {
			c.L = append(c.L, number(r, 1))
			want = append(want, [2]int{r, 2*n - 1 - r})
		}
		for r := range n {
			c.L = append(c.L, copied(n-1-r, n-1-r))
		}
		c.L = append(c.L, ret(n))
		has(t, c, append(want, [2]int{2 * n, 2 * n})...)
		for _, c.Regs = range []int{n + 2, 2*n + 9, 9999, 10000} {
			has(t, c, append(want, [2]int{2 * n, 2 * n})...)
		}
	}
}

// P11.1: each error of irun.Right: nothing is told.
func TestErrors(t *testing.T) {
	long := slices.Repeat([]api.Ir{number(0, 1)}, 10000)
	for want, l := range map[api.Errno][]api.Code{
		api.ErrForm: {
			{}, code("", nil, 1, 0, ret(0)), code("a", nil, 1, 0, ret(0)), code("a.f.g", nil, 1, 0, ret(0)), code("a.F", nil, 1, 0, ret(0)),
			code("a.f", make([]api.Type, 7), 7, 0, ret(0)), code("a.f", params(-1), 1, 1, ret(0)), code("a.f", params(17), 1, 17, ret(0)),
			code("a.f", params(0, 0), 1, 0, ret(0)), code("a.f", nil, 10001, 0, ret(0)), code("a.f", nil, -1, 0, ret(0)), code("a.f", nil, math.MinInt, 0, ret(0)), code("a.f", nil, math.MaxInt, 0, ret(0)),
			code("a.f", params(2, 3), 1, 4, ret(0)), code("a.f", nil, 1, 4097, ret(0)), code("a.f", nil, 1, -1, ret(0)),
			code("a.f", nil, 1, 0), code("a.f", nil, 1, 0, append(long, ret(0))...),
		},
		api.ErrOp: {
			alone(api.Ir{}), alone(api.Ir{Kind: 11}), alone(api.Ir{Kind: -1}), alone(reckon(0, 1, 1, 1)), alone(reckon(11, 1, 1, 1)), alone(reckon(-1, 9, 9, 9)),
			alone(call(1, "a.f", 0, 0, 0, 0, 0, 0, 0)), alone(call(1, "f")), alone(call(9, "", 9)),
		},
		api.ErrReg: {
			alone(number(8, 1)), alone(number(-1, 1)), alone(copied(8, 0)), alone(copied(0, 8)), alone(reckon(api.Add, 8, 0, 0)), alone(reckon(api.Add, 0, -1, 0)), alone(reckon(api.Add, 0, 0, 8)),
			alone(pick(8, 0, 0, 0)), alone(pick(0, 8, 0, 0)), alone(pick(0, 0, 8, 0)), alone(pick(0, 0, 0, 8)), alone(load(8, 9)), alone(store(9, 8)), alone(call(8, "a.f")), alone(call(0, "a.f", 1, 8)), alone(zero(8, 0)), alone(ret(-1)),
			code("a.f", nil, 0, 0, ret(0)),
		},
		api.ErrAddr: {alone(load(0, 4)), alone(store(4, 0)), alone(load(0, 1<<31))},
		api.ErrJump: {alone(jump(0)), alone(jump(2)), alone(jump(-1)), alone(zero(0, 0)), alone(zero(0, 2)), alone(number(1, 1), jump(0)), alone(number(1, 1), zero(1, 0)), code("a.f", nil, 1, 0, number(0, 1), jump(1))},
		api.ErrEnd:  {code("a.f", nil, 1, 0, number(0, 1)), code("a.f", nil, 1, 0, long...), code("a.f", nil, 2, 0, number(0, 1), copied(1, 0)), code("a.f", nil, 1, 1, ret(0), store(0, 0))},
	} {
		for _, c := range l {
			fails(t, c, want)
		}
	}
}

// P11.1: what is wrong anywhere in a function, where no run comes to, too, leaves nothing to be told.
func TestErrorsAnywhere(t *testing.T) {
	good := []api.Ir{number(1, 5), copied(2, 1), ret(2), number(1, 5), copied(7, 1), ret(1)}
	for i := range len(good) + 1 {
		for _, wrong := range []struct {
			x    api.Ir
			want api.Errno
		}{{api.Ir{}, api.ErrOp}, {reckon(11, 7, 0, 0), api.ErrOp}, {copied(8, 1), api.ErrReg}, {copied(7, 8), api.ErrReg}, {load(7, 4), api.ErrAddr}, {jump(0), api.ErrJump}} {
			fails(t, alone(slices.Insert(slices.Clone(good), i, wrong.x)...), wrong.want)
		}
	}
}

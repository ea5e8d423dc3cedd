package span

import (
	"math"
	"math/rand"
	"testing"

	"carling/api"
	"carling/irun"
)

// maker makes functions by chance.
type maker struct{ r *rand.Rand }

// anyOf is one of some.
func anyOf[T any](m maker, l ...T) T { return l[m.r.Intn(len(l))] }

// function is one that is right. Some have few registers, of which most are in use, others many.
func (m maker) function() api.Code {
	var p []api.Type
	words, cells := 0, 0
	for range m.r.Intn(7) {
		x := api.Type{Sec: m.r.Intn(2) == 0, Len: anyOf(m, 0, 0, 0, 1, 2, 16)}
		if x.Len == 0 {
			words++
		}
		cells += x.Len
		p = append(p, x)
	}
	c := code(anyOf(m, "a.f", "b.g"), p, words+anyOf(m, 0, 0, 1, 5, 25), cells+m.r.Intn(3))
	c.Regs = max(c.Regs, 1)
	n := 1 + m.r.Intn(30)
	for at := range n - 1 {
		c.L = append(c.L, m.instruction(c, at, n))
	}
	c.L = append(c.L, ret(m.r.Intn(c.Regs)))
	return c
}

// instruction is one of a function, to stand at that place of n. In the parts that it does not have stands whatever may stand in others.
func (m maker) instruction(c api.Code, at, n int) api.Ir {
	reg := func() int { return m.r.Intn(c.Regs) }
	x := api.Ir{Kind: 1 + m.r.Intn(api.IRet), Op: 1 + m.r.Intn(api.Eq), D: reg(), A: reg(), B: reg(), C: reg(), Name: "a.g"}
	for range m.r.Intn(7) {
		x.Args = append(x.Args, reg())
	}
	switch x.Kind {
	case api.ILoad, api.IStore:
		if c.Cells == 0 {
			x.Kind = api.IConst
			break
		}
		x.N = uint32(m.r.Intn(c.Cells))
	case api.IJump, api.IZero:
		x.C = at + 1 + m.r.Intn(n-1-at)
	}
	return x
}

// asModel asks that the same is told of a function as a second Spans tells.
func asModel(t testing.TB, c api.Code) [][2]int {
	t.Helper()
	var want [][2]int
	for r := range c.Regs {
		want = append(want, modelSpan(c, r))
	}
	has(t, c, want...)
	return want
}

// P11.1: functions made by chance, held against a second Spans.
func TestSpans(t *testing.T) {
	m := maker{rand.New(rand.NewSource(11))}
	unused, given, unread, short, long := 0, 0, 0, 0, 0
	for range 10000 {
		c := m.function()
		for r, s := range asModel(t, c) {
			switch {
			case r < modelGiven(c) && s == none:
				unread++
			case r < modelGiven(c):
				given++
			case s == none:
				unused++
			case s[0] == s[1]:
				short++
			default:
				long++
			}
		}
		if t.Failed() {
			t.FailNow()
		}
	}
	if min(unused, given, unread, short, long) < 1000 {
		t.Error(unused, given, unread, short, long)
	}
}

// P11.1: functions with some changes to them, which are mostly not right: of those nothing is told.
func TestWrong(t *testing.T) {
	m := maker{rand.New(rand.NewSource(12))}
	seen := map[api.Errno]int{}
	for range 10000 {
		c := m.function()
		for range 1 + m.r.Intn(2) {
			m.edit(&c)
		}
		e, _ := irun.Right(c)
		seen[e]++
		if e != api.OK {
			fails(t, c, e)
		} else if c.Regs < 100 {
			asModel(t, c)
		}
		if t.Failed() {
			t.FailNow()
		}
	}
	for _, e := range []api.Errno{api.OK, api.ErrForm, api.ErrOp, api.ErrReg, api.ErrAddr, api.ErrJump, api.ErrEnd} {
		if seen[e] < 100 {
			t.Errorf("%d was met %d times", e, seen[e])
		}
	}
}

// edit makes a small change to a function, to something at an edge.
func (m maker) edit(c *api.Code) {
	if m.r.Intn(4) == 0 || len(c.L) == 0 {
		switch m.r.Intn(4) {
		case 0:
			c.Name = anyOf(m, "a", "", "a.b.c", "a.F", "a.f")
		case 1:
			c.Regs = anyOf(m, -1, 0, 1, 2, 3, 9999, 10000, 10001)
		case 2:
			c.Cells = anyOf(m, -1, 0, 1, 2, 4095, 4096, 4097)
		case 3:
			c.L = c.L[:m.r.Intn(len(c.L)+1)]
		}
		return
	}
	x := &c.L[m.r.Intn(len(c.L))]
	edge := []int{-1, 0, 1, c.Regs - 1, c.Regs, len(c.L) - 1, len(c.L), math.MinInt, math.MaxInt}
	switch m.r.Intn(7) {
	case 0:
		x.Kind = m.r.Intn(14) - 1
	case 1:
		x.Op = m.r.Intn(14) - 1
	case 2:
		x.D = anyOf(m, edge...)
	case 3:
		x.A = anyOf(m, edge...)
	case 4:
		x.B = anyOf(m, edge...)
	case 5:
		x.C = anyOf(m, edge...)
	case 6:
		x.N = anyOf(m, 0, uint32(c.Cells), uint32(c.Cells-1), math.MaxUint32)
	}
}

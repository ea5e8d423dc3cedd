package place

import (
	"math"
	"math/rand"
	"slices"
	"testing"

	"carling/api"
	"carling/irun"
)

// maker makes functions by chance.
type maker struct{ r *rand.Rand }

// anyOf is one of some.
func anyOf[T any](m maker, l ...T) T { return l[m.r.Intn(len(l))] }

// function is one that is right. Some have few registers, of which most are in use, others many; some have many calls, others none.
func (m maker) function() api.Code {
	var p []api.Type
	words, cells := 0, 0
	for range m.r.Intn(7) {
		x := api.Type{Sec: m.r.Intn(2) == 0, Len: anyOf(m, 0, 0, 0, 1, 2, 16)}
		if x.Len == 0 {
			words++
		}
		cells += x.Len
		p = append(p, x)
	}
	c := code(anyOf(m, "a.f", "b.g"), p, words+anyOf(m, 0, 0, 1, 5, 25), cells+m.r.Intn(3))
	c.Regs = max(c.Regs, 1)
	n := 1 + m.r.Intn(30)
	calls := anyOf(m, 0, 0, 1, 5)
	for at := range n - 1 {
		x := m.instruction(c, at, n)
		if x.Kind == api.ICall && m.r.Intn(5) >= calls {
			x.Kind = api.ICopy
		}
		c.L = append(c.L, x)
	}
	c.L = append(c.L, ret(m.r.Intn(c.Regs)))
	return c
}

// instruction is one of a function, to stand at that place of n. In the parts that it does not have stands whatever may stand in others.
func (m maker) instruction(c api.Code, at, n int) api.Ir {
	reg := func() int { return m.r.Intn(c.Regs) }
	x := api.Ir{Kind: 1 + m.r.Intn(api.IRet), Op: 1 + m.r.Intn(api.Eq), D: reg(), A: reg(), B: reg(), C: reg(), Name: "a.g"}
	for range m.r.Intn(7) {
		x.Args = append(x.Args, reg())
	}
	switch x.Kind {
	case api.ILoad, api.IStore:
		if c.Cells == 0 {
			x.Kind = api.IConst
			break
		}
		x.N = uint32(m.r.Intn(c.Cells))
	case api.IJump, api.IZero:
		x.C = at + 1 + m.r.Intn(n-1-at)
	}
	return x
}

// P12.2: functions made by chance: all that is promised of their places holds.
func TestPlaces(t *testing.T) {
	m := maker{rand.New(rand.NewSource(23))}
	none, over, wide := 0, 0, 0
	for range 10000 {
		c := m.function()
		_, slots := kept(t, c)
		switch {
		case slots == 0:
			none++
		case modelMost(c) <= 5:
			over++
		default:
			wide++
		}
		if t.Failed() {
			t.FailNow()
		}
	}
	if min(none, over, wide) < 500 {
		t.Error(none, over, wide)
	}
}

// P12.1: lists made by chance of functions made by chance, held against a second Check. Most of them are a good list with some changes.
func TestChecks(t *testing.T) {
	m := maker{rand.New(rand.NewSource(24))}
	good, wrong := 0, 0
	for range 30000 {
		c := m.function()
		l, slots, _ := Places(c)
		for range 1 + m.r.Intn(3) {
			l, slots = m.change(l, slots)
		}
		why := modelWrong(c, l, slots)
		may(t, c, l, slots, why == "")
		if why == "" {
			good++
		} else {
			wrong++
		}
		if t.Failed() {
			t.FailNow()
		}
	}
	if min(good, wrong) < 5000 {
		t.Error(good, wrong)
	}
}

// change makes a small change to a list, or to the slots.
func (m maker) change(l []int, slots int) ([]int, int) {
	n := len(l)
	switch m.r.Intn(12) {
	case 0:
		return l, anyOf(m, -1, 0, slots-1, slots+1, slots+5, 1<<40, math.MaxInt)
	case 1:
		return l[:n-n/(1+m.r.Intn(20))/5], slots
	case 2:
		if m.r.Intn(5) == 0 {
			return append(l, 3), slots
		}
	case 3:
		if n > 0 {
			l[m.r.Intn(n)] = anyOf(m, -1, 2, 3, 7, 8, 7+slots, 8+slots, math.MinInt, math.MaxInt)
		}
	case 4, 5, 6, 7:
		// As another one is kept.
		if n > 0 {
			l[m.r.Intn(n)] = l[m.r.Intn(n)]
		}
	case 8, 9:
		if n > 0 {
			l[m.r.Intn(n)] = 3 + m.r.Intn(5+max(0, min(slots, 100)))
		}
	case 10:
		// As well kept as before: two places, one for the other.
		if n > 0 {
			p, q := l[m.r.Intn(n)], l[m.r.Intn(n)]
			for i, x := range l {
				switch x {
				case p:
					l[i] = q
				case q:
					l[i] = p
				}
			}
		}
	}
	return l, slots
}

// P12.1, P12.2: functions with some changes to them, which are mostly not right.
func TestWrong(t *testing.T) {
	m := maker{rand.New(rand.NewSource(25))}
	seen := map[api.Errno]int{}
	for range 10000 {
		c := m.function()
		l, slots, _ := Places(c)
		for range 1 + m.r.Intn(2) {
			m.edit(&c)
		}
		e, _ := irun.Right(c)
		seen[e]++
		if e != api.OK {
			fails(t, c, e)
			may(t, c, l, slots, false)
		} else if c.Regs < 100 {
			kept(t, c)
			may(t, c, l, slots, modelWrong(c, l, slots) == "")
		}
		if t.Failed() {
			t.FailNow()
		}
	}
	for _, e := range []api.Errno{api.OK, api.ErrForm, api.ErrOp, api.ErrReg, api.ErrAddr, api.ErrJump, api.ErrEnd} {
		if seen[e] < 100 {
			t.Errorf("%d was met %d times", e, seen[e])
		}
	}
}

// edit makes a small change to a function, to something at an edge.
func (m maker) edit(c *api.Code) {
	if m.r.Intn(4) == 0 || len(c.L) == 0 {
		switch m.r.Intn(4) {
		case 0:
			c.Name = anyOf(m, "a", "", "a.b.c", "a.F", "a.f")
		case 1:
			c.Regs = anyOf(m, -1, 0, 1, 2, 3, 99, 10001)
		case 2:
			c.Cells = anyOf(m, -1, 0, 1, 2, 4095, 4096, 4097)
		case 3:
			c.L = c.L[:m.r.Intn(len(c.L)+1)]
		}
		return
	}
	x := &c.L[m.r.Intn(len(c.L))]
	edge := []int{-1, 0, 1, c.Regs - 1, c.Regs, len(c.L) - 1, len(c.L), math.MinInt, math.MaxInt}
	switch m.r.Intn(7) {
	case 0:
		x.Kind = m.r.Intn(14) - 1
	case 1:
		x.Op = m.r.Intn(14) - 1
	case 2:
		x.D = anyOf(m, edge...)
	case 3:
		x.A = anyOf(m, edge...)
	case 4:
		x.B = anyOf(m, edge...)
	case 5:
		x.C = anyOf(m, edge...)
	case 6:
		x.N = anyOf(m, 0, uint32(c.Cells), uint32(c.Cells-1), math.MaxUint32)
	}
}

// P12.1: all lists of places from 2 to 9 of three registers, of functions made by chance, held against a second Check.
func TestAllChecks(t *testing.T) {
	m := maker{rand.New(rand.NewSource(26))}
	for range 400 {
		c := code("a.f", params(slices.Repeat([]int{0}, m.r.Intn(4))...), 3, 1)
		for at := range 7 {
			c.L = append(c.L, m.instruction(c, at, 8))
		}
		c.L = append(c.L, ret(m.r.Intn(3)))
		for i := range 8 * 8 * 8 {
			l := []int{2 + i%8, 2 + i/8%8, 2 + i/64}
			for slots := range 3 {
				may(t, c, l, slots, modelWrong(c, l, slots) == "")
			}
		}
		if t.Failed() {
			t.FailNow()
		}
	}
}

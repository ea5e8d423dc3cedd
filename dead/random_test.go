package dead

import (
	"fmt"
	"math"
	"math/rand"
	"slices"
	"testing"

	"carling/api"
	"carling/irun"
)

// maker makes functions by chance.
type maker struct{ r *rand.Rand }

// anyOf is one of some.
func anyOf[T any](m maker, l ...T) T { return l[m.r.Intn(len(l))] }

// word is a small number, or any.
func (m maker) word() uint32 { return anyOf(m, 0, 0, 1, 2, 3, 31, 33, math.MaxUint32, m.r.Uint32()) }

// room is how many of parameters are words, and how many cells the others have.
func room(l []api.Type) (words, cells int) {
	for _, p := range l {
		if p.Len == 0 {
			words++
		}
		cells += p.Len
	}
	return words, cells
}

// list are functions that are right, of which some call others, and some of them not as they may be called. Some have few registers, of which most are read, others many.
func (m maker) list() []api.Code {
	var l []api.Code
	for i := range 1 + m.r.Intn(4) {
		var p []api.Type
		for range m.r.Intn(4) {
			p = append(p, api.Type{Sec: m.r.Intn(2) == 0, Len: anyOf(m, 0, 0, 0, 0, 1, 2, 16)})
		}
		words, cells := room(p)
		l = append(l, code(fmt.Sprintf("%s.f%d", anyOf(m, "a", "b"), i), p, words+1+m.r.Intn(anyOf(m, 3, 8, 25)), cells+m.r.Intn(4)))
	}
	for i := range l {
		n, branchy, odd := 1+m.r.Intn(30), m.r.Intn(8), m.r.Intn(2) == 0
		for at := range n - 1 {
			x := m.instruction(l, i, at, n, branchy)
			if odd && m.r.Intn(2) == 0 {
				x = filled(x)
			}
			l[i].L = append(l[i].L, x)
		}
		l[i].L = append(l[i].L, ret(m.r.Intn(l[i].Regs)))
	}
	return l
}

// instruction is one of the function i, to stand at that place of n; the greater branchy is, the more of them jump.
func (m maker) instruction(l []api.Code, i, at, n, branchy int) api.Ir {
	c := l[i]
	reg := func() int { return m.r.Intn(c.Regs) }
	further := func() int { return at + 1 + min(m.r.Intn(n-1-at), m.r.Intn(n-1-at)) }
	switch kind := m.r.Intn(19 + branchy); {
	case kind < 4:
		return number(reg(), m.word())
	case kind < 7:
		return copied(reg(), reg())
	case kind < 11:
		return reckon(1+m.r.Intn(10), reg(), reg(), reg())
	case kind < 14:
		return pick(reg(), reg(), reg(), reg())
	case kind < 17 && c.Cells > 0:
		if kind == 14 {
			return store(uint32(m.r.Intn(c.Cells)), reg())
		}
		return load(reg(), uint32(m.r.Intn(c.Cells)))
	case kind < 18:
		return m.call(l, i)
	case kind < 19:
		return number(reg(), m.word())
	}
	return anyOf(m, jump(further()), zero(reg(), further()), zero(reg(), further()), zero(reg(), further()), ret(reg()))
}

// call is a call of another function, mostly one ahead and as it may be called.
func (m maker) call(l []api.Code, i int) api.Ir {
	to := m.r.Intn(i + 1)
	if m.r.Intn(8) == 0 {
		to = m.r.Intn(len(l))
	}
	x := call(m.r.Intn(l[i].Regs), l[to].Name)
	for range l[to].Params {
		x.Args = append(x.Args, m.r.Intn(l[i].Regs))
	}
	switch m.r.Intn(20) {
	case 0:
		x.Name = anyOf(m, "a.none", "b.none", "c.f0", "a.f9")
	case 1:
		x.Args = append(x.Args, 0)
	}
	return x
}

// args are arguments of a function.
func (m maker) args(c api.Code) []uint32 {
	words, cells := room(c.Params)
	var l []uint32
	for range words + cells {
		l = append(l, m.word())
	}
	return l
}

// asModel asks that the same is told of a function as a second Drop and Read tell.
func asModel(t testing.TB, c api.Code) []int {
	t.Helper()
	want, out := modelDrop(c)
	drops(t, c, want.L...)
	for at := -1; at <= len(c.L)+1; at++ {
		if got, want := Read(c, at), modelRead(c, at); !slices.Equal(got, want) {
			t.Errorf("%s: at %d: %d; not %d", lines(c), at, got, want)
		}
	}
	if t.Failed() {
		t.FailNow()
	}
	return out
}

// P10.1, P10.2: functions made by chance, held against a second Drop and Read.
func TestDrops(t *testing.T) {
	m := maker{rand.New(rand.NewSource(10))}
	gone, stayed, moved := map[int]int{}, map[int]int{}, 0
	for range 4000 {
		for _, c := range m.list() {
			out := asModel(t, c)
			for at, x := range c.L {
				switch {
				case slices.Contains(out, at):
					gone[x.Kind]++
				default:
					stayed[x.Kind]++
				}
				if (x.Kind == api.IJump || x.Kind == api.IZero) && slices.Contains(out, x.C) {
					moved++
				}
			}
		}
	}
	for kind := api.IConst; kind <= api.IRet; kind++ {
		idle := slices.ContainsFunc(idles(0), func(x api.Ir) bool { return x.Kind == kind })
		if stayed[kind] < 1000 || idle != (gone[kind] > 0) || idle && gone[kind] < 1000 {
			t.Errorf("the kind %d: %d were left out, %d stayed", kind, gone[kind], stayed[kind])
		}
	}
	if moved < 1000 {
		t.Errorf("%d jumps went to one that is left out", moved)
	}
}

// P10.1, P10.2: functions with some changes to them, which are mostly not right: the error is irun.Right's.
func TestWrong(t *testing.T) {
	m := maker{rand.New(rand.NewSource(11))}
	seen := map[api.Errno]int{}
	for range 5000 {
		c := anyOf(m, m.list()...)
		for range 1 + m.r.Intn(2) {
			m.edit(&c)
		}
		e, _ := irun.Right(c)
		seen[e]++
		if e != api.OK {
			fails(t, c, e)
		} else if c.Regs < 100 {
			asModel(t, c)
		}
		if t.Failed() {
			t.FailNow()
		}
	}
	for _, e := range []api.Errno{api.OK, api.ErrForm, api.ErrOp, api.ErrReg, api.ErrAddr, api.ErrJump, api.ErrEnd} {
		if seen[e] < 100 {
			t.Errorf("%d was met %d times", e, seen[e])
		}
	}
}

// edit makes a small change to a function, to something at an edge.
func (m maker) edit(c *api.Code) {
	edge := []int{-1, 0, 1, c.Regs - 1, c.Regs, len(c.L) - 1, len(c.L)}
	if m.r.Intn(4) == 0 {
		switch m.r.Intn(4) {
		case 0:
			c.Name = anyOf(m, "a", "", "a.b.c", "a.F", "a.f")
		case 1:
			c.Regs = anyOf(m, -1, 0, 1, 2, 3, 9999, 10000, 10001)
		case 2:
			c.Cells = anyOf(m, -1, 0, 1, 2, 4095, 4096, 4097)
		case 3:
			c.L = c.L[:m.r.Intn(len(c.L)+1)]
		}
		return
	}
	if len(c.L) == 0 {
		return
	}
	x := &c.L[m.r.Intn(len(c.L))]
	switch m.r.Intn(8) {
	case 0, 1:
		x.Kind = m.r.Intn(14) - 1
	case 2:
		x.Op = m.r.Intn(14) - 1
	case 3:
		x.D = anyOf(m, edge...)
	case 4:
		x.A = anyOf(m, edge...)
	case 5:
		x.B = anyOf(m, edge...)
	case 6:
		x.C = anyOf(m, edge...)
	case 7:
		x.N = anyOf(m, 0, uint32(c.Cells), uint32(c.Cells-1), math.MaxUint32)
	}
}

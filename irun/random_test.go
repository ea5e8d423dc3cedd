package irun

import (
	"fmt"
	"math"
	"math/rand"
	"slices"
	"testing"

	"carling/api"
)

// maker makes functions by chance.
type maker struct{ r *rand.Rand }

// anyOf is one of some.
func anyOf[T any](m maker, l ...T) T { return l[m.r.Intn(len(l))] }

// word is a small number, or any.
func (m maker) word() uint32 { return anyOf(m, 0, 0, 1, 2, 3, 31, 33, math.MaxUint32, m.r.Uint32()) }

// params are parameters, mostly words.
func (m maker) params() []api.Type {
	var l []api.Type
	for range m.r.Intn(4) {
		l = append(l, api.Type{Sec: m.r.Intn(2) == 0, Len: anyOf(m, 0, 0, 0, 0, 1, 2, 16)})
	}
	return l
}

// list are functions that are right, of which some call others, and some of them not as they may be called.
func (m maker) list() []api.Code {
	var l []api.Code
	for i := range 1 + m.r.Intn(5) {
		p := m.params()
		words, cells := room(p)
		l = append(l, code(fmt.Sprintf("%s.f%d", anyOf(m, "a", "b"), i), p, words+1+m.r.Intn(5), cells+m.r.Intn(4)))
	}
	for i := range l {
		n := 1 + m.r.Intn(24)
		for at := range n - 1 {
			l[i].L = append(l[i].L, m.instruction(l, i, at, n))
		}
		l[i].L = append(l[i].L, ret(m.r.Intn(l[i].Regs)))
	}
	return l
}

// instruction is one of the function i, to stand at that place of n.
func (m maker) instruction(l []api.Code, i, at, n int) api.Ir {
	c := l[i]
	reg := func() int { return m.r.Intn(c.Regs) }
	further := func() int { return at + 1 + min(m.r.Intn(n-1-at), m.r.Intn(n-1-at)) }
	switch kind := m.r.Intn(22); {
	case kind < 3:
		return number(reg(), m.word())
	case kind < 5:
		return copied(reg(), reg())
	case kind < 9:
		return reckon(1+m.r.Intn(10), reg(), reg(), reg())
	case kind < 11:
		return pick(reg(), reg(), reg(), reg())
	case kind < 15 && c.Cells > 0:
		if kind < 13 {
			return load(reg(), uint32(m.r.Intn(c.Cells)))
		}
		return store(uint32(m.r.Intn(c.Cells)), reg())
	case kind < 16:
		return jump(further())
	case kind < 19:
		return zero(reg(), further())
	case kind < 21:
		return m.call(l, i)
	}
	return anyOf(m, ret(reg()), number(reg(), 0), copied(reg(), reg()), number(reg(), 1))
}

// call is a call of another function, mostly one ahead and as it may be called.
func (m maker) call(l []api.Code, i int) api.Ir {
	to := m.r.Intn(i + 1)
	if m.r.Intn(8) == 0 {
		to = m.r.Intn(len(l))
	}
	x := call(m.r.Intn(l[i].Regs), l[to].Name)
	for range l[to].Params {
		x.Args = append(x.Args, m.r.Intn(l[i].Regs))
	}
	switch m.r.Intn(30) {
	case 0:
		x.Name = anyOf(m, "a.none", "b.none", "c.f0", "a.f9")
	case 1:
		x.Args = append(x.Args, 0)
	}
	return x
}

// args are arguments of a function; now and then one too many or too few.
func (m maker) args(c api.Code) []uint32 {
	words, cells := room(c.Params)
	n := words + cells
	if m.r.Intn(20) == 0 {
		n = max(0, n+anyOf(m, -1, 1))
	}
	var l []uint32
	for range n {
		l = append(l, m.word())
	}
	return l
}

// met counts what was answered, and asks that each was often enough.
type met map[api.Errno]int

func (m met) enough(t *testing.T, least int, l ...api.Errno) {
	t.Helper()
	for _, e := range l {
		if m[e] < least {
			t.Errorf("%d was met %d times: %v", e, m[e], m)
		}
	}
}

// agrees asks that Run tells what the second one does, and leaves all as it is.
func agrees(t testing.TB, l []api.Code, name string, args []uint32) (api.Errno, int) {
	t.Helper()
	before, argsBefore := copyOf(l), slices.Clone(args)
	want, ways, wrong, gone := modelRun(l, name, args)
	o, b, e := Run(l, name, args)
	if e != wrong || o.Result != want.Result || !slices.Equal(o.Arrays, want.Arrays) || !slices.Equal(b, ways) {
		t.Fatalf("%q of %d: %+v, %d, %d; not %+v, %d, %d\n%+v", name, args, o, b, e, want, ways, wrong, l)
	}
	same(t, l, before)
	if !slices.Equal(args, argsBefore) {
		t.Error("the arguments are others")
	}
	return e, gone
}

// P7.2, P7.3: functions made by chance, held against a second run; those that end well also as parts of a run of 60000 instructions, and of one more.
func TestRuns(t *testing.T) {
	m := maker{rand.New(rand.NewSource(7))}
	seen, branched, filled := met{}, 0, 0
	for range 2000 {
		l := m.list()
		for _, c := range l {
			args := m.args(c)
			e, gone := agrees(t, l, c.Name, args)
			seen[e]++
			_, b, _ := Run(l, c.Name, args)
			branched += min(1, len(b))
			_, cells := room(c.Params)
			if e == api.OK && cells == 0 && m.r.Intn(25) == 0 {
				filled++
				seen[fill(t, l, c.Name, args, gone)]++
			}
		}
		switch m.r.Intn(10) {
		case 0:
			e, _ := agrees(t, append(l, l[m.r.Intn(len(l))]), "a.f0", nil)
			seen[e]++
		case 1:
			e, _ := agrees(t, l, anyOf(m, "a.none", "", "f0", "b.f9"), nil)
			seen[e]++
		}
	}
	seen.enough(t, 100, api.OK, api.ErrTwice, api.ErrNone, api.ErrArg, api.ErrName, api.ErrType, api.ErrFuel)
	if branched < 1000 || filled < 50 {
		t.Error(branched, filled)
	}
}

// fill runs a function within one that goes through 60000 instructions with it, and one more.
func fill(t testing.TB, l []api.Code, name string, args []uint32, gone int) api.Errno {
	t.Helper()
	var ahead []api.Ir
	x := call(19, name)
	for i, n := range args {
		ahead = append(ahead, number(10+i, n))
		x.Args = append(x.Args, 10+i)
	}
	ahead = append(ahead, x)
	want, _, _ := Run(l, name, args)
	for more := range 2 {
		rest := spent(60000-gone-len(ahead)+more, 5)
		rest[0].Name, rest[0].Regs = "z.top", 20
		rest[0].L[len(rest[0].L)-1].A = 19
		last := len(rest[0].L) - 1
		rest[0].L = slices.Insert(rest[0].L, last*(1-more), ahead...) // the one more is gone through within it, or behind it
		all := append(slices.Clone(l), rest...)
		e, n := agrees(t, all, "z.top", []uint32{5})
		if more == 1 {
			return e
		}
		if o, _, _ := Run(all, "z.top", []uint32{5}); e != api.OK || n != 60000 || o.Result != want.Result {
			// Only a run that is deep already can be given up one call further down.
			if e != api.ErrFuel || n >= 60000 {
				t.Fatal(e, n, o, want)
			}
		}
	}
	return api.OK
}

// edit makes a small change to a function, to something at an edge.
func (m maker) edit(c *api.Code) {
	edge := []int{-1, 0, 1, c.Regs - 1, c.Regs, c.Cells, len(c.L) - 1, len(c.L), 16, 17}
	if m.r.Intn(4) == 0 {
		switch m.r.Intn(6) {
		case 0:
			c.Name = anyOf(m, "a", "", "a.b.c", "a.F", "a.f", "abcdefghijkl.abcdefghijkl", "abcdefghijklm.f")
		case 1:
			c.Regs = anyOf(m, -1, 0, 1, 2, 3, 9999, 10000, 10001)
		case 2:
			c.Cells = anyOf(m, -1, 0, 1, 2, 4095, 4096, 4097)
		case 3:
			c.Params = append(c.Params, api.Type{Len: anyOf(m, -1, 0, 0, 1, 16, 17)})
		case 4:
			c.L = c.L[:m.r.Intn(len(c.L)+1)]
		case 5:
			c.Params = append(c.Params, make([]api.Type, m.r.Intn(6))...)
		}
		return
	}
	if len(c.L) == 0 {
		return
	}
	x := &c.L[m.r.Intn(len(c.L))]
	switch m.r.Intn(10) {
	case 0, 1:
		x.Kind = m.r.Intn(14) - 1
	case 2:
		x.Op = m.r.Intn(14) - 1
	case 3:
		x.D = anyOf(m, edge...)
	case 4:
		x.A = anyOf(m, edge...)
	case 5:
		x.B = anyOf(m, edge...)
	case 6:
		x.C = anyOf(m, edge...)
	case 7:
		x.N = anyOf(m, 0, uint32(c.Cells), uint32(c.Cells-1), math.MaxUint32)
	case 8:
		x.Name = anyOf(m, "a.f", "", "f", "a.b.c")
	case 9:
		for range m.r.Intn(8) {
			x.Args = append(x.Args, anyOf(m, edge...))
		}
	}
}

// P7.1, P7.2: functions with some changes to them, held against a second Right; what is not right is ErrForm of any run.
func TestRights(t *testing.T) {
	m := maker{rand.New(rand.NewSource(8))}
	seen, runs := met{}, met{}
	for range 8000 {
		l := m.list()
		for _, c := range l {
			right(t, c, api.OK, -1)
		}
		i := m.r.Intn(len(l))
		for range 1 + m.r.Intn(3) {
			m.edit(&l[i])
		}
		e, at := Right(l[i])
		if want, place := modelRight(l[i]); e != want || at != place {
			t.Fatalf("%+v: %d at %d; not %d at %d", l[i], e, at, want, place)
		}
		seen[e]++
		name := anyOf(m, l[0].Name, l[i].Name, "a.none")
		wrong, _ := agrees(t, l, name, m.args(l[i]))
		if (e != api.OK) != (wrong == api.ErrForm) {
			t.Fatalf("%+v: %d, and %d of a run", l[i], e, wrong)
		}
		runs[wrong]++
	}
	seen.enough(t, 100, api.OK, api.ErrForm, api.ErrOp, api.ErrReg, api.ErrAddr, api.ErrJump, api.ErrEnd)
	runs.enough(t, 100, api.OK, api.ErrForm, api.ErrNone, api.ErrArg)
}

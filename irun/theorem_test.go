package irun

import (
	"math/rand"
	"slices"
	"testing"

	"carling/api"
)

// alike asks that the same comes of two lists, whatever it is.
func alike(t testing.TB, l, m []api.Code, name string, args []uint32) api.Errno {
	t.Helper()
	o, b, e := Run(l, name, args)
	p, c, f := Run(m, name, args)
	if e != f || o.Result != p.Result || !slices.Equal(o.Arrays, p.Arrays) || !slices.Equal(b, c) {
		t.Fatalf("%q of %d: %+v, %d, %d; %+v, %d, %d\n%+v\n%+v", name, args, o, b, e, p, c, f, l, m)
	}
	return e
}

// wider are functions with a register more, a cell more, or both.
func wider(l []api.Code, regs, cells int) []api.Code {
	out := copyOf(l)
	for i := range out {
		out[i].Regs += regs
		out[i].Cells += cells
	}
	return out
}

// P7.4: what is right still is with a register more, a cell more, up to the limits, and the same comes of it.
func TestMoreRoom(t *testing.T) {
	for _, x := range fine() {
		for _, c := range []api.Code{alone(x, ret(3), ret(0)), code("a.f", params(0, 4), 4, 4, x, ret(3), ret(0)), code("a.f", nil, 9999, 4095, x, ret(9998), ret(0))} {
			right(t, c, api.OK, -1)
			for regs := range 2 {
				for cells := range 2 {
					more := wider([]api.Code{c}, regs, cells)
					right(t, more[0], api.OK, -1)
					_, n := room(c.Params)
					alike(t, []api.Code{c, one("a.g")}, append(more, one("a.g")), "a.f", make([]uint32, n+len(c.Params)/2))
				}
			}
		}
	}
	m := maker{rand.New(rand.NewSource(9))}
	seen := met{}
	for range 1500 {
		l := m.list()
		for _, c := range l {
			args := m.args(c)
			regs, cells := 1+m.r.Intn(3), 1+m.r.Intn(3)
			for _, other := range [][]api.Code{wider(l, regs, 0), wider(l, 0, cells), wider(l, regs, cells)} {
				for _, d := range other {
					right(t, d, api.OK, -1)
				}
				seen[alike(t, l, other, c.Name, args)]++
			}
		}
	}
	seen.enough(t, 50, api.OK, api.ErrArg, api.ErrName, api.ErrType, api.ErrFuel)
}

// idle is an instruction that writes a register that nothing reads.
func (m maker) idle(c api.Code, d int) api.Ir {
	reg := func() int { return m.r.Intn(c.Regs) }
	l := []api.Ir{number(d, m.word()), copied(d, reg()), reckon(1+m.r.Intn(10), d, reg(), reg()), pick(d, reg(), reg(), reg())}
	if c.Cells > 0 {
		l = append(l, load(d, uint32(m.r.Intn(c.Cells))))
	}
	return anyOf(m, l...)
}

// busier is a function with such instructions besides, ahead of any place; jumps go where they went, or to what stands ahead of it now.
func (m maker) busier(c api.Code) api.Code {
	out := c
	out.Regs += 2
	out.L = nil
	place := make([]int, len(c.L))
	for i, x := range c.L {
		first := len(out.L)
		for range m.r.Intn(3) {
			out.L = append(out.L, m.idle(c, c.Regs+m.r.Intn(2)))
		}
		place[i] = first + m.r.Intn(len(out.L)-first+1)
		out.L = append(out.L, x)
	}
	for i, x := range out.L {
		if x.Kind == api.IJump || x.Kind == api.IZero {
			out.L[i].C = place[x.C]
		}
	}
	return out
}

// P7.4: registers that nothing reads do not matter, whatever is written to them.
func TestIdleRegisters(t *testing.T) {
	// D of what is never read, at any register that is not.
	for d := 1; d < 4; d++ {
		for _, x := range []api.Ir{number(d, 9), copied(d, 0), reckon(api.Add, d, 0, 0), pick(d, 0, 0, 0), load(d, 1), call(d, "a.g", 0)} {
			comes(t, []api.Code{code("a.f", params(0, 2), 4, 2, x, ret(0)), one("a.g")}, "a.f", []uint32{6, 7, 8}, 6, []uint32{7, 8}, nil)
		}
	}
	m := maker{rand.New(rand.NewSource(10))}
	seen := met{}
	for range 1500 {
		l := m.list()
		other := copyOf(l)
		for i := range other {
			other[i] = m.busier(other[i])
			right(t, other[i], api.OK, -1)
		}
		for _, c := range l {
			args := m.args(c)
			if e, _ := agrees(t, other, c.Name, args); e == api.ErrFuel {
				continue // it goes through more instructions than it did
			}
			seen[alike(t, l, other, c.Name, args)]++
		}
	}
	seen.enough(t, 50, api.OK, api.ErrArg, api.ErrName, api.ErrType)
}

// P7.4: a run goes through rising places, up to an IRet: no function is longer in running than it is.
func TestRisingPlaces(t *testing.T) {
	m := maker{rand.New(rand.NewSource(11))}
	ended := 0
	for range 1500 {
		l := m.list()
		known, e := functions(l)
		if e != api.OK {
			t.Fatal(e)
		}
		c := l[m.r.Intn(len(l))]
		words, cells := room(c.Params)
		r := &run{known: known, deeds: deeds()}
		f := r.begin(c, make([]uint32, words+cells))
		steps := 0
		for !f.ended && r.wrong == api.OK {
			at := f.next
			f.step(c.L[at])
			steps++
			if f.next <= at || f.next > len(c.L) || steps > len(c.L) {
				t.Fatalf("%+v: from %d to %d, %d steps", c, at, f.next, steps)
			}
			if f.ended && c.L[at].Kind != api.IRet {
				t.Fatalf("%+v: ended at %d", c, at)
			}
		}
		if f.ended {
			ended++
		}
	}
	if ended < 500 {
		t.Error(ended)
	}
}

package dead

import (
	"slices"

	"carling/api"
)

// A second Drop and Read, which ask of each instruction those behind it, one by one, as the words of the chapter go.

// forwards are instructions, and which of those that were asked for are dead.
type forwards struct {
	l    []api.Ir
	dead map[int]bool
}

// modelReads tells whether an instruction reads a register.
func modelReads(x api.Ir, r int) bool {
	a, b, c := x.A == r, x.B == r, x.C == r
	switch x.Kind {
	case api.ICopy, api.IStore, api.IZero, api.IRet:
		return a
	case api.IBin:
		return a || b
	case api.ISel:
		return a || b || c
	}
	return x.Kind == api.ICall && slices.Contains(x.Args, r)
}

// readFrom tells whether a register is read at a place or behind it.
func (f forwards) readFrom(r, at int) bool {
	for i := at; i < len(f.l); i++ {
		if modelReads(f.l[i], r) && !f.isDead(i) {
			return true
		}
	}
	return false
}

// isDead tells whether the instruction at a place is dead.
func (f forwards) isDead(at int) bool {
	is, asked := f.dead[at]
	if !asked {
		x := f.l[at]
		is = slices.Contains([]int{api.IConst, api.ICopy, api.IBin, api.ISel, api.ILoad}, x.Kind) && !f.readFrom(x.D, at+1)
		f.dead[at] = is
	}
	return is
}

// modelDrop is Drop's of a function that is right, and the places of what it leaves out.
func modelDrop(c api.Code) (api.Code, []int) {
	c = copyOf(c)
	f := forwards{c.L, map[int]bool{}}
	var out []int
	for at := range c.L {
		if f.isDead(at) {
			out = append(out, at)
		}
	}
	c.L = without(c.L, out...)
	return c, out
}

// modelRead is Read's of a function that is right.
func modelRead(c api.Code, at int) []int {
	var l []int
	f := forwards{c.L, map[int]bool{}}
	for r := range c.Regs {
		if at >= 0 && f.readFrom(r, at) {
			l = append(l, r)
		}
	}
	return l
}

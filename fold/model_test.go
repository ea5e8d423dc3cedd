package fold

import (
	"slices"

	"carling/api"
	"carling/word"
)

// A second Fold, which looks for each word from where it is read backwards: the last instruction of the block that writes its register says whether it is known.

// fact is whether a word is known, and which one it is.
type fact struct {
	is bool
	n  uint32
}

// backwards are instructions, and what is known behind those that were asked for.
type backwards struct {
	l      []api.Ir
	behind map[int]fact
}

// beginsAt tells whether a block begins at a place.
func (b backwards) beginsAt(at int) bool {
	if at == 0 || slices.Contains([]int{api.IJump, api.IZero, api.IRet}, b.l[at-1].Kind) {
		return true
	}
	return slices.ContainsFunc(b.l, func(x api.Ir) bool {
		return x.C == at && (x.Kind == api.IJump || x.Kind == api.IZero)
	})
}

// ahead is what a register is known to be ahead of the instruction at a place.
func (b backwards) ahead(r, at int) fact {
	if b.beginsAt(at) {
		return fact{}
	}
	x := b.l[at-1]
	if x.D == r && x.Kind <= api.ICall && x.Kind != api.IStore {
		return b.word(at - 1)
	}
	return b.ahead(r, at-1)
}

// word is what the instruction at a place puts into its register.
func (b backwards) word(at int) fact {
	if f, is := b.behind[at]; is {
		return f
	}
	x, f := b.l[at], fact{}
	switch x.Kind {
	case api.IConst:
		f = fact{true, x.N}
	case api.ICopy:
		f = b.ahead(x.A, at)
	case api.IBin:
		left, right := b.ahead(x.A, at), b.ahead(x.B, at)
		if left.is && right.is {
			f.n, f.is = word.Op(x.Op, left.n, right.n)
		}
	case api.ISel:
		if c := b.ahead(x.A, at); c.is && c.n == 0 {
			f = b.ahead(x.C, at)
		} else if c.is {
			f = b.ahead(x.B, at)
		}
	}
	b.behind[at] = f
	return f
}

// modelFold is Fold's of a function that is right.
func modelFold(c api.Code) api.Code {
	c = copyOf(c)
	b := backwards{l: copyOf(c).L, behind: map[int]fact{}}
	for at, x := range b.l {
		if x.Kind == api.ICopy || x.Kind == api.IBin || x.Kind == api.ISel {
			if f := b.word(at); f.is {
				c.L[at] = number(x.D, f.n)
			}
		}
	}
	return c
}

package irun

import (
	"strings"

	"carling/api"
	"carling/tree"
	"carling/word"
)

// api.MaxCode bounds what a function weighs; lowered, it may be several times as long.
const (
	maxCode = 10000
	maxRegs = 10000
)

// hasForm tells whether all of a function but its instructions may be.
func hasForm(c api.Code) bool {
	if !isFull(c.Name) || len(c.Params) > api.MaxParams || len(c.L) == 0 || len(c.L) > maxCode {
		return false
	}
	for _, p := range c.Params {
		if p.Len < 0 || p.Len > api.MaxLen {
			return false
		}
	}
	words, cells := room(c.Params)
	return words <= c.Regs && c.Regs <= maxRegs && cells <= c.Cells && c.Cells <= api.MaxMem
}

// isFull tells whether a text is two names with a dot between. No name has a dot, so the first one parts them.
func isFull(s string) bool {
	unit, function, is := strings.Cut(s, ".")
	return is && tree.Name(unit) && tree.Name(function)
}

// room is how many of parameters are words, and how many cells the others have.
func room(l []api.Type) (words, cells int) {
	for _, p := range l {
		if p.Len == 0 {
			words++
		}
		cells += p.Len
	}
	return words, cells
}

// fault is what is wrong with an instruction of a function, at its place.
func fault(c api.Code, i int, x api.Ir) api.Errno {
	switch {
	case !isKnown(x):
		return api.ErrOp
	case !within(reads(x), c.Regs) || writes(x) && !within([]int{x.D}, c.Regs):
		return api.ErrReg
	case (x.Kind == api.ILoad || x.Kind == api.IStore) && x.N >= uint32(c.Cells):
		return api.ErrAddr
	case (x.Kind == api.IJump || x.Kind == api.IZero) && (x.C <= i || x.C >= len(c.L)):
		return api.ErrJump
	case i == len(c.L)-1 && x.Kind != api.IRet:
		return api.ErrEnd
	}
	return api.OK
}

// isKnown tells whether there is such an instruction, whatever its registers, cells and places are.
func isKnown(x api.Ir) bool {
	switch x.Kind {
	case api.IBin:
		_, is := word.Sign(x.Op)
		return is
	case api.ICall:
		return len(x.Args) <= api.MaxParams && isFull(x.Name)
	}
	return x.Kind >= api.IConst && x.Kind <= api.IRet
}

// within tells whether all of some registers are among the first so many.
func within(l []int, regs int) bool {
	for _, r := range l {
		if r < 0 || r >= regs {
			return false
		}
	}
	return true
}

// reads are the registers that an instruction reads.
func reads(x api.Ir) []int {
	switch x.Kind {
	case api.ICopy, api.IStore, api.IZero, api.IRet:
		return []int{x.A}
	case api.IBin:
		return []int{x.A, x.B}
	case api.ISel:
		return []int{x.A, x.B, x.C}
	case api.ICall:
		return x.Args
	}
	return nil
}

// writes tells whether an instruction writes its D.
func writes(x api.Ir) bool {
	switch x.Kind {
	case api.IConst, api.ICopy, api.IBin, api.ISel, api.ILoad, api.ICall:
		return true
	}
	return false
}

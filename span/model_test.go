package span

import (
	"slices"

	"carling/api"
)

// A second Spans, which asks of each register all instructions, one by one, as the words of chapters 7 and 11 go.

// modelReads tells whether an instruction reads a register.
func modelReads(x api.Ir, r int) bool {
	a, b, c := x.A == r, x.B == r, x.C == r
	switch x.Kind {
	case api.ICopy, api.IStore, api.IZero, api.IRet:
		return a
	case api.IBin:
		return a || b
	case api.ISel:
		return a || b || c
	}
	return x.Kind == api.ICall && slices.Contains(x.Args, r)
}

// modelWrites tells whether an instruction writes a register.
func modelWrites(x api.Ir, r int) bool {
	return x.D == r && slices.Contains([]int{api.IConst, api.ICopy, api.IBin, api.ISel, api.ILoad, api.ICall}, x.Kind)
}

// modelUses tells whether an instruction reads or writes a register.
func modelUses(x api.Ir, r int) bool { return modelReads(x, r) || modelWrites(x, r) }

// modelGiven is how many registers of a function have arguments.
func modelGiven(c api.Code) int {
	return len(slices.DeleteFunc(slices.Clone(c.Params), func(p api.Type) bool { return p.Len != 0 }))
}

// modelSpan is the span of a register of a function that is right.
func modelSpan(c api.Code, r int) [2]int {
	uses := func(x api.Ir) bool { return modelUses(x, r) }
	s := [2]int{slices.IndexFunc(c.L, uses), -1}
	if r < modelGiven(c) {
		s[0] = -1
	}
	for at := len(c.L) - 1; at >= 0 && s[1] < 0; at-- {
		if uses(c.L[at]) {
			s[1] = at
		}
	}
	return s
}

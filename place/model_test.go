package place

import (
	"fmt"
	"slices"

	"carling/api"
)

// A second Check, which asks of each register all instructions and all other registers, one by one, as the words of chapters 7, 11 and 12 go.

// modelUses tells whether an instruction reads or writes a register.
func modelUses(x api.Ir, r int) bool {
	d, a, b, c := x.D == r, x.A == r, x.B == r, x.C == r
	switch x.Kind {
	case api.IConst, api.ILoad:
		return d
	case api.ICopy:
		return d || a
	case api.IBin:
		return d || a || b
	case api.ISel:
		return d || a || b || c
	case api.IStore, api.IZero, api.IRet:
		return a
	}
	return x.Kind == api.ICall && (d || slices.Contains(x.Args, r))
}

// modelSpan is where a register of a function that is right is in use.
func modelSpan(c api.Code, r int) (least, greatest int) {
	least, greatest = -1, -1
	for at, x := range c.L {
		if !modelUses(x, r) {
			continue
		}
		if greatest < 0 {
			least = at
		}
		greatest = at
	}
	words := 0
	for _, p := range c.Params {
		if p.Len == 0 {
			words++
		}
	}
	if r < words {
		least = -1
	}
	return least, greatest
}

// modelSpans are those of all registers.
func modelSpans(c api.Code) [][2]int {
	var l [][2]int
	for r := range c.Regs {
		least, greatest := modelSpan(c, r)
		l = append(l, [2]int{least, greatest})
	}
	return l
}

// modelGoOn is how many spans go on between an instruction and the one ahead of it.
func modelGoOn(spans [][2]int, i int) int {
	n := 0
	for _, s := range spans {
		if s[0] < i && s[1] >= i {
			n++
		}
	}
	return n
}

// modelMost is how many spans go on where the most do.
func modelMost(c api.Code) int {
	spans := modelSpans(c)
	most := 0
	for i := range c.L {
		most = max(most, modelGoOn(spans, i))
	}
	return most
}

// modelOver tells whether a call stands within a span.
func modelOver(c api.Code, s [2]int) bool {
	for at, x := range c.L {
		if x.Kind == api.ICall && at > s[0] && at < s[1] {
			return true
		}
	}
	return false
}

// modelFew tells whether a function needs no slots.
func modelFew(c api.Code) bool {
	over := func(s [2]int) bool { return modelOver(c, s) }
	return modelMost(c) <= 5 && !slices.ContainsFunc(modelSpans(c), over)
}

// modelWrong is why a right function's registers may not be kept so; nothing, if they may.
func modelWrong(c api.Code, l []int, slots int) string {
	if len(l) != c.Regs || slots < 0 {
		return "the list's length, or the slots"
	}
	// In each place at most one span goes on between two instructions next to one another.
	spans := modelSpans(c)
	for r, s := range spans {
		switch {
		case l[r] < 3 || l[r] > 7 && uint(l[r]) >= 8+uint(slots):
			return fmt.Sprintf("the place of the register %d", r)
		case l[r] < 8 && modelOver(c, s):
			return fmt.Sprintf("the register %d over a call", r)
		}
		for k := range r {
			between := max(s[0], spans[k][0]) + 1
			if l[k] == l[r] && between <= min(s[1], spans[k][1]) {
				return fmt.Sprintf("the registers %d and %d", k, r)
			}
		}
	}
	return ""
}

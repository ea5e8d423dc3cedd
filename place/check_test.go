package place

import (
	"math"
	"slices"
	"testing"

	"carling/api"
)

// P12.1: lists of other lengths than there are registers.
func TestCheckLengths(t *testing.T) {
	for _, regs := range []int{1, 2, 3, 7, 100, 10000} {
		c := code("a.f", nil, regs, 0, number(0, 1), ret(0))
		for _, p := range []int{3, 7, 8, 9} {
			for _, n := range []int{0, 1, regs - 1, regs, regs + 1, 2 * regs} {
				may(t, c, slices.Repeat([]int{p}, n), 2, n == regs)
			}
			may(t, c, nil, 2, false)
			may(t, c, []int{}, 2, false)
		}
	}
	for _, l := range [][]int{nil, {}, {3}, {8}} {
		may(t, code("a.f", nil, 0, 0, ret(0)), l, 1, false)
		may(t, code("a.f", nil, 0, 0), l, 1, false)
		may(t, api.Code{}, l, 1, false)
	}
}

// P12.1: slots below 0, none, as many as are asked for, and more, of lists that ask for none and for some.
func TestCheckSlots(t *testing.T) {
	c := code("a.f", nil, 2, 0, number(0, 1), number(1, 1), ret(0))
	for _, slots := range []int{math.MinInt, math.MinInt + 1, -1 << 32, -9, -8, -7, -5, -1} {
		for _, l := range [][]int{{3, 4}, {7, 3}, {3, 8}, {8, 9}, {2, 1}, {0, -1}, {math.MinInt, math.MaxInt}, nil} {
			may(t, c, l, slots, false)
		}
	}
	for most := range 20 {
		for _, slots := range []int{0, 1, 2, most, most + 1, most + 2, most + 100, 1 << 32, math.MaxInt - 9, math.MaxInt - 8, math.MaxInt - 7, math.MaxInt - 1, math.MaxInt} {
			may(t, c, []int{3, 7}, slots, true)
			may(t, c, []int{3, 8 + most}, slots, most < slots)
			may(t, c, []int{8 + most, 3}, slots, most < slots)
			may(t, c, []int{8 + most, 9 + most}, slots, most+1 < slots)
		}
	}
}

// P12.1: each place, at the edges of what may be, with several numbers of slots.
func TestCheckPlaces(t *testing.T) {
	c := code("a.f", nil, 3, 0, number(1, 1), ret(1))
	for _, slots := range []int{0, 1, 2, 3, 100, 1 << 40, math.MaxInt - 8, math.MaxInt - 7, math.MaxInt} {
		places := []int{math.MinInt, math.MinInt + 7, math.MinInt + 8, math.MinInt + 9, -1 << 32, -8, -1, 0, 1, 2, 3, 4, 7, 8, 9, 10, 11, 12, 3 + 1<<32, 8 + 1<<32, math.MaxInt - 9, math.MaxInt - 8, math.MaxInt - 1, math.MaxInt}
		if slots < 1<<50 {
			places = append(places, 8+slots-1, 8+slots, 8+slots+1)
		}
		for _, p := range places {
			// What is 8 places further on than a slot may pass the greatest int; as a number without a sign it does not.
			want := p >= 3 && uint64(p) < 8+uint64(slots)
			may(t, c, []int{p, 4, 5}, slots, want)
			may(t, c, []int{4, p, 5}, slots, want)
			may(t, c, []int{4, 5, p}, slots, want)
			may(t, c, []int{p, p, p}, slots, want)
			may(t, c, []int{2, p, 5}, slots, false)
			may(t, c, []int{4, p, -1}, slots, false)
		}
	}
}

// pairs are functions of which the registers 0 and 1 meet, or do not; no call stands in one.
func pairs() (meet, apart []api.Code) {
	other := load(2, 0)
	of := func(p []api.Type, l ...api.Ir) api.Code {
		return code("a.f", p, 4, 4, append(l, ret(3))...)
	}
	meet = []api.Code{
		of(nil, number(0, 1), number(1, 1), store(0, 0), store(0, 1)), of(nil, number(1, 1), number(0, 1), store(0, 0), store(0, 1)),
		// One within the other, and both of one beginning, or one end, or both.
		of(nil, number(0, 1), number(1, 1), store(0, 1), store(0, 0)), of(nil, number(1, 1), number(0, 1), store(0, 0), other, store(0, 1)),
		of(nil, copied(0, 1), store(0, 0), store(0, 1)), of(nil, copied(0, 1), store(0, 1), store(0, 0)), of(nil, number(0, 1), number(1, 1), reckon(api.Add, 2, 0, 1)), of(nil, copied(0, 1), other, copied(1, 0)),
		of(nil, number(0, 1), number(1, 1), copied(1, 0)), of(nil, number(0, 1), number(1, 1), copied(0, 1)), of(nil, number(0, 1), copied(1, 0), copied(1, 0)),
		// Arguments.
		of(params(0, 0), reckon(api.Add, 2, 0, 1)), of(params(0, 0), store(0, 0), store(0, 1)), of(params(0, 0), other, store(0, 1), store(0, 0)), of(params(0, 0), number(0, 1), number(1, 1)), of(params(0), number(1, 1), reckon(api.Add, 2, 0, 1)), of(params(0), number(1, 1), store(0, 0), store(0, 1)), of(params(2, 0, 2), number(1, 1), store(0, 1), store(0, 0)),
		// Over branches, and where no run comes to.
		of(nil, zero(2, 2), number(0, 1), number(1, 1), store(0, 0), store(0, 1)), of(nil, jump(3), number(0, 1), number(1, 1), store(0, 0), store(0, 1)), of(nil, ret(2), number(0, 1), number(1, 1), store(0, 0), store(0, 1)),
	}
	apart = []api.Code{
		// They only touch, or do not even do so.
		of(nil, number(0, 1), copied(1, 0), store(0, 1)), of(nil, number(1, 1), copied(0, 1), store(0, 0)), of(nil, number(0, 1), store(0, 0), number(1, 1), store(0, 1)), of(nil, number(1, 1), store(0, 1), other, number(0, 1), store(0, 0)),
		of(params(0), copied(1, 0), store(0, 1)), of(params(0), store(0, 0), number(1, 1), store(0, 1)), of(params(1, 0), copied(0, 1), number(1, 1), store(0, 1)),
		// One is never in use, or at one place alone; or neither is.
		of(nil, number(0, 1), store(0, 0)), of(nil, number(1, 1), other, store(0, 1)), of(nil, number(0, 1), number(1, 1), store(0, 0)), of(nil, number(0, 1), number(1, 1), other, store(0, 1)), of(nil, number(0, 1), copied(0, 1), store(0, 0)), of(nil, number(0, 1), store(0, 1), store(0, 0)),
		of(nil), of(nil, other), of(nil, copied(0, 1)), of(nil, number(0, 1), number(1, 1)), of(params(0, 0)), of(params(0, 0), other, store(0, 0)), of(params(0, 0), store(0, 1), other), of(params(0), number(1, 1), store(0, 0)),
	}
	return meet, apart
}

// P12.1: two registers that meet, that only touch, and of which one is never in use, in one place and in unlike ones.
func TestCheckPairs(t *testing.T) {
	meet, apart := pairs()
	for i, c := range append(meet, apart...) {
		want := i >= len(meet)
		for p := 3; p < 12; p++ {
			may(t, c, []int{p, p, 12, 13}, 6, want)
			for q := 3; q < 12; q++ {
				if q != p {
					may(t, c, []int{p, q, 12, 13}, 6, true)
				}
			}
		}
	}
}

// P12.1: registers in one place, of which those that meet do not stand next to one another.
func TestCheckFarApart(t *testing.T) {
	// The register 0 goes on over all others, of which none meets another one, and one stands at one place alone.
	c := alone(number(0, 1), number(1, 1), copied(2, 1), number(3, 1), copied(4, 2), store(0, 4))
	for r := 1; r < 8; r++ {
		for _, p := range []int{3, 7, 8, 9} {
			l := slices.Repeat([]int{4}, 8)
			l[0], l[r] = p, p
			may(t, c, l, 2, r == 3 || r > 4)
		}
	}
	may(t, c, []int{3, 4, 4, 3, 4, 3, 3, 3}, 0, true)
	// Registers one behind the other, in the order of their places and the other way round, of which two meet.
	for n := 2; n < 9; n++ {
		for late := 1; late < n; late++ {
			c := code("a.f", nil, n, 0)
			d := code("a.f", nil, n, 0)
			for at := range n {
				c.L = append(c.L, copied(at, max(at-1, 0)))
				d.L = append(d.L, copied(n-1-at, min(n-at, n-1)))
			}
			// One is read once more, where another one goes on, or ends.
			c.L = append(c.L, copied(n-1, late-1), ret(n-1))
			d.L = append(d.L, copied(0, n-late), ret(0))
			for _, p := range []int{3, 5, 8, 9} {
				may(t, c, slices.Repeat([]int{p}, n), 2, false)
				may(t, d, slices.Repeat([]int{p}, n), 2, false)
			}
		}
	}
}

// P12.1: registers within whose spans a call stands, at whose ends it stands, and outside of which it does.
func TestCheckCalls(t *testing.T) {
	other := load(2, 0)
	for _, c := range []struct {
		p    []api.Type
		l    []api.Ir
		over bool // whether one stands within the span of the register 1
	}{
		{nil, []api.Ir{number(1, 1), call(2, "a.g"), store(0, 1)}, true}, {nil, []api.Ir{number(1, 1), other, call(2, "a.g"), other, store(0, 1)}, true}, {nil, []api.Ir{number(1, 1), call(2, "a.g", 3), call(2, "a.g", 3), store(0, 1)}, true},
		// It ends there, as one of the Args, or begins there, as the call's own D; or both.
		{nil, []api.Ir{number(1, 1), call(2, "a.g", 1)}, false}, {nil, []api.Ir{number(1, 1), other, call(2, "a.g", 3, 1, 4)}, false}, {nil, []api.Ir{call(1, "a.g"), store(0, 1)}, false}, {nil, []api.Ir{other, call(1, "a.g", 3), other, store(0, 1)}, false},
		{nil, []api.Ir{number(1, 1), call(1, "a.g", 3)}, false}, {nil, []api.Ir{call(1, "a.g"), call(2, "a.g", 1)}, false}, {nil, []api.Ir{call(1, "a.g", 1), store(0, 1)}, false}, {nil, []api.Ir{call(1, "a.g", 1), call(1, "a.g", 1)}, false}, {nil, []api.Ir{call(1, "a.g", 1)}, false},
		// It goes on over a call that reads, or writes, it.
		{nil, []api.Ir{number(1, 1), call(2, "a.g", 1), store(0, 1)}, true}, {nil, []api.Ir{number(1, 1), call(1, "a.g", 3), store(0, 1)}, true}, {nil, []api.Ir{call(1, "a.g"), call(2, "a.g", 1), store(0, 1)}, true}, {nil, []api.Ir{number(1, 1), call(1, "a.g", 1), call(2, "a.g", 1)}, true},
		// Ahead of it, and behind it.
		{nil, []api.Ir{call(2, "a.g"), number(1, 1), store(0, 1)}, false}, {nil, []api.Ir{number(1, 1), store(0, 1), call(2, "a.g")}, false}, {nil, []api.Ir{call(2, "a.g"), number(1, 1), store(0, 1), call(2, "a.g")}, false}, {nil, []api.Ir{call(2, "a.g"), other, call(2, "a.g")}, false}, {nil, []api.Ir{number(1, 1), call(2, "a.g")}, false},
		// An argument is in use ahead of all places.
		{params(0, 0), []api.Ir{call(2, "a.g"), store(0, 1)}, true}, {params(0, 0), []api.Ir{call(2, "a.g", 1), store(0, 1)}, true}, {params(0, 0), []api.Ir{call(1, "a.g"), store(0, 1)}, true}, {params(0, 0), []api.Ir{other, call(2, "a.g"), number(1, 1)}, true}, {params(2, 0, 0), []api.Ir{other, call(2, "a.g"), other, store(0, 1)}, true},
		{params(0, 0), []api.Ir{call(2, "a.g", 1)}, false}, {params(0, 0), []api.Ir{call(1, "a.g")}, false}, {params(0, 0), []api.Ir{store(0, 1), call(2, "a.g")}, false}, {params(0, 0), []api.Ir{other, call(2, "a.g")}, false}, {params(0, 2), []api.Ir{call(2, "a.g"), store(0, 1)}, false},
		// One that is jumped over, and one that no run comes to, are calls as all others.
		{nil, []api.Ir{number(1, 1), jump(3), call(2, "a.g"), store(0, 1)}, true}, {nil, []api.Ir{number(1, 1), ret(3), call(2, "a.g"), store(0, 1)}, true}, {nil, []api.Ir{number(1, 1), zero(1, 3), call(2, "a.g"), store(0, 1)}, true}, {nil, []api.Ir{zero(3, 3), number(1, 1), call(2, "a.g", 1), call(2, "a.g")}, false},
	} {
		f := alone(c.l...)
		f.Params = c.p
		// All others have a slot of their own.
		for p := 3; p < 8; p++ {
			may(t, f, []int{8, p, 9, 10, 11, 12, 13, 14}, 7, !c.over)
		}
		for _, p := range []int{15, 16, 100} {
			may(t, f, []int{8, p, 9, 10, 11, 12, 13, 14}, 93, true)
		}
		may(t, f, []int{8, 15, 9, 10, 11, 12, 13, 14}, 8, true)
		may(t, f, []int{8, 15, 9, 10, 11, 12, 13, 14}, 7, false)
	}
}

// P12.1: the same places of functions that are right, and of such as are not.
func TestCheckWrong(t *testing.T) {
	c := alone(number(1, 1), call(2, "a.g", 1), store(0, 2))
	l := []int{3, 4, 5, 3, 3, 3, 3, 3}
	may(t, c, l, 0, true)
	for _, edit := range []func(*api.Code){
		func(c *api.Code) { c.Name = "a" }, func(c *api.Code) { c.Params = params(17) }, func(c *api.Code) { c.Params = params(0, 0, 0, 0, 0, 0, 0) }, func(c *api.Code) { c.Cells = -1 }, func(c *api.Code) { c.L = nil }, func(c *api.Code) { c.L = c.L[:3] },
		func(c *api.Code) { c.L[0].Kind = 0 }, func(c *api.Code) { c.L[0].D = 8 }, func(c *api.Code) { c.L[1].Name = "" }, func(c *api.Code) { c.L[1].Args[0] = -1 }, func(c *api.Code) { c.L[2].N = 4 }, func(c *api.Code) { c.L[2] = jump(2) }, func(c *api.Code) { c.L[3] = zero(1, 3) },
	} {
		d := copyOf(c)
		edit(&d)
		may(t, d, l, 0, false)
		may(t, d, []int{8, 9, 10, 11, 12, 13, 14, 15}, 8, false)
	}
}

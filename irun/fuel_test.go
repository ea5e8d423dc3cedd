package irun

import (
	"fmt"
	"slices"
	"testing"

	"carling/api"
)

// waste is a function of a word that goes through that many instructions, and answers the word.
func waste(name string, n int) api.Code {
	return code(name, params(0), 2, 0, append(slices.Repeat([]api.Ir{number(1, 1)}, n-1), ret(0))...)
}

// spent are a function a.f of a word, which goes through that many instructions in all, and those that it calls: its own ones stand ahead of the calls.
func spent(n, own int) []api.Code {
	f := waste("a.f", own)
	f.L = f.L[:own-1]
	n -= own
	for n > 10001 {
		f.L = append(f.L, call(1, "a.most", 0))
		n -= 10001
	}
	if n == 1 {
		f.L = append(f.L, number(1, 1))
	} else if n > 0 {
		f.L = append(f.L, call(1, "a.rest", 0))
	}
	f.L = append(f.L, ret(0))
	return []api.Code{f, waste("a.most", 10000), waste("a.rest", max(n-1, 1))}
}

// P7.2: 60000 instructions and one more, over calls together, wherever they are gone through.
func TestFuel(t *testing.T) {
	for _, own := range []int{1, 2, 3, 100, 5000, 9990} {
		for n, want := range map[int]api.Errno{10000: api.OK, 59999: api.OK, 60000: api.OK, 60001: api.ErrFuel, 60002: api.ErrFuel, 65536: api.ErrFuel, 70000: api.ErrFuel} {
			l := spent(n, own)
			for _, c := range l {
				if e, at := Right(c); e != api.OK {
					t.Fatal(n, own, c.Name, e, at)
				}
			}
			if want != api.OK {
				fails(t, l, "a.f", []uint32{5}, want)
				continue
			}
			comes(t, l, "a.f", []uint32{5}, 5, nil, nil)
		}
	}
	// One function alone has not so many.
	comes(t, []api.Code{waste("a.f", 10000)}, "a.f", []uint32{5}, 5, nil, nil)
}

// P7.2: each run has its own 60000.
func TestFuelAnew(t *testing.T) {
	l := spent(60000, 7)
	for range 5 {
		comes(t, l, "a.f", []uint32{5}, 5, nil, nil)
	}
	fails(t, spent(60001, 7), "a.f", []uint32{5}, api.ErrFuel)
	comes(t, l, "a.f", []uint32{5}, 5, nil, nil)
}

// P7.2: each kind of instruction counts as one, as the last that there may be and as one more; what is gone past does not.
func TestFuelOfKinds(t *testing.T) {
	none := code("a.none", nil, 1, 0, ret(0))
	for _, x := range []api.Ir{number(1, 9), copied(1, 0), reckon(api.Add, 1, 0, 0), pick(1, 0, 0, 0), load(1, 0), store(0, 0), call(1, "a.none"), jump(0), zero(1, 0)} {
		for n, want := range map[int]api.Errno{59998: api.OK, 59999: api.OK, 60000: api.OK, 60001: api.ErrFuel, 60002: api.ErrFuel} {
			takes := 1
			if x.Kind == api.ICall {
				takes = 2
			}
			l := spent(n-takes, 9)
			f := &l[0]
			f.Cells = 1
			y := x
			if x.Kind == api.IJump || x.Kind == api.IZero {
				y.C = len(f.L)
			}
			f.L = slices.Insert(f.L, len(f.L)-1, y)
			o, b, e := Run(append(l, none), "a.f", []uint32{5})
			branches := 0
			if want == api.OK && x.Kind == api.IZero {
				branches = 1
			}
			if e != want || want == api.OK && o.Result != 5 || len(b) != branches {
				t.Errorf("%+v: %d: %+v, %d, %d", x, n, o, b, e)
			}
		}
	}
	for _, past := range []int{1, 2, 100, 5000} {
		for n, want := range map[int]api.Errno{60000: api.OK, 60001: api.ErrFuel} {
			l := spent(n-1, 9)
			f := &l[0]
			last := len(f.L) - 1
			f.L = slices.Insert(f.L, last, append([]api.Ir{jump(last + past + 1)}, slices.Repeat([]api.Ir{number(0, 3)}, past)...)...)
			if want != api.OK {
				fails(t, l, "a.f", []uint32{5}, want)
				continue
			}
			comes(t, l, "a.f", []uint32{5}, 5, nil, nil)
		}
	}
}

// P7.2: what is wrong with a call is told if it is come to: as the 60000th it is, as one more it is not.
func TestFuelOfWrongCalls(t *testing.T) {
	for name, wrong := range map[string]api.Errno{"a.none": api.ErrName, "a.most": api.ErrType} {
		for n, want := range map[int]api.Errno{59990: wrong, 60000: wrong, 60001: api.ErrFuel, 60002: api.ErrFuel} {
			l := spent(n, 9)
			l[0].L[len(l[0].L)-1] = call(0, name)
			l[0].L = append(l[0].L, ret(0))
			fails(t, l, "a.f", []uint32{5}, want)
		}
	}
}

// chain are functions a.f0, a.f1 and so on of a word, of which each one calls the one ahead of it; the first answers the word and 100.
func chain(n int) []api.Code {
	l := []api.Code{code("a.f0", params(0), 2, 0, number(1, 100), reckon(api.Add, 0, 0, 1), ret(0))}
	for i := range n - 1 {
		l = append(l, code(fmt.Sprintf("a.f%d", i+1), params(0), 2, 1, store(0, 0), number(0, 1), call(1, fmt.Sprintf("a.f%d", i), 0), load(0, 0), reckon(api.Or, 0, 0, 0), ret(1)))
	}
	return l
}

// P7.2: a call that would stand within 32 others gives up; one that stands within 31 does not.
func TestDepth(t *testing.T) {
	l := chain(40)
	comes(t, l, "a.f0", []uint32{7}, 107, nil, nil)
	for i := 1; i < 40; i++ {
		name := fmt.Sprintf("a.f%d", i)
		if i > 32 {
			fails(t, l, name, []uint32{7}, api.ErrFuel)
			continue
		}
		comes(t, l, name, []uint32{7}, 101, nil, nil)
	}
	// Calls that were come back from do not count: one behind the other, each with all the depth there is.
	f := &l[32]
	deepest := f.L[2]
	f.L = append(slices.Repeat([]api.Ir{deepest}, 50), ret(1))
	comes(t, l, "a.f32", []uint32{7}, 101, nil, nil)
	fails(t, l, "a.f33", []uint32{7}, api.ErrFuel)
}

// P7.2: a function that calls itself, as often as its argument says; a call that is not come to does not count.
func TestDepthOfOne(t *testing.T) {
	down := code("a.down", params(0), 3, 0, zero(0, 5), number(1, 1), reckon(api.Sub, 0, 0, 1), call(0, "a.down", 0), reckon(api.Add, 0, 0, 1), ret(0))
	for n := range uint32(40) {
		if n > api.MaxDepth {
			fails(t, []api.Code{down}, "a.down", []uint32{n}, api.ErrFuel)
			continue
		}
		comes(t, []api.Code{down}, "a.down", []uint32{n}, n, nil, append(slices.Repeat([]int{1}, int(n)), 0))
	}
	fails(t, []api.Code{slow()}, "a.slow", nil, api.ErrFuel)
	both := []api.Code{code("a.f", nil, 1, 0, call(0, "b.g"), ret(0)), code("b.g", nil, 1, 0, call(0, "a.f"), ret(0))}
	fails(t, both, "a.f", nil, api.ErrFuel)
	fails(t, both, "b.g", nil, api.ErrFuel)
	// Twice at each depth: given up for the instructions, not for the depth.
	twice := code("a.twice", params(0), 3, 0, zero(0, 6), number(1, 1), reckon(api.Sub, 0, 0, 1), call(2, "a.twice", 0), call(0, "a.twice", 0), reckon(api.Add, 0, 0, 1), ret(0))
	for n, want := range map[uint32]api.Errno{12: api.OK, 13: api.ErrFuel, 30: api.ErrFuel} {
		if _, _, e := Run([]api.Code{twice}, "a.twice", []uint32{n}); e != want {
			t.Errorf("%d: %d", n, e)
		}
	}
}

// P7.2: of a call that would stand too deep it is told first that it is none, or of other arguments.
func TestDepthOfWrongCalls(t *testing.T) {
	for _, c := range []struct {
		x    api.Ir
		want api.Errno
	}{{call(1, "a.none", 0), api.ErrName}, {call(1, "a.f0"), api.ErrType}, {call(1, "a.array", 0), api.ErrType}, {call(1, "a.f0", 0), api.ErrFuel}} {
		l := append(chain(40), code("a.array", params(2), 1, 2, ret(0)))
		l[0] = code("a.f0", params(0), 2, 0, zero(0, 2), c.x, ret(0))
		comes(t, l, "a.f0", []uint32{0}, 0, nil, []int{0})
		fails(t, l, "a.f32", []uint32{1}, c.want)
		fails(t, l, "a.f33", []uint32{1}, api.ErrFuel)
	}
}

// P0: as many registers, cells and calls as there may be.
func TestManyCalls(t *testing.T) {
	big := code("b.big", nil, 10000, 4096, ret(9999))
	l := []api.Code{big}
	f := code("a.f", nil, 1, 0, append(slices.Repeat([]api.Ir{call(0, "b.big")}, 9999), ret(0))...)
	g := code("a.g", nil, 1, 0, call(0, "a.f"), call(0, "a.f"), ret(0))
	h := code("a.h", nil, 1, 0, call(0, "a.g"), call(0, "a.g"), ret(0))
	l = append(l, f, g, h)
	comes(t, l, "a.f", nil, 0, nil, nil)
	comes(t, l, "a.g", nil, 0, nil, nil)
	fails(t, l, "a.h", nil, api.ErrFuel)
}

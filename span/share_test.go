package span

import (
	"slices"
	"testing"

	"carling/api"
)

// rich is a function with every kind of instruction, with room behind its lists.
func rich() api.Code {
	c := code("a.f", append(make([]api.Type, 0, 6), params(0, 2, 0)...), 10, 4)
	c.L = slices.Grow(c.L, 60)
	for _, o := range kinds(50) {
		if o.x.Name == "?" {
			continue
		}
		o.x.Args = append(make([]int, 0, 9), o.x.Args...)
		c.L = append(c.L, o.x)
	}
	for len(c.L) < 51 {
		c.L = append(c.L, ret(9))
	}
	return c
}

// whole are a function's lists up to all the room behind them.
func whole(c api.Code) api.Code {
	c.Params = c.Params[:cap(c.Params)]
	c.L = slices.Clone(c.L[:cap(c.L)])
	for i, x := range c.L {
		c.L[i].Args = x.Args[:cap(x.Args)]
	}
	return c
}

// R3: what is handed in stays as it is, and so does what there is room for behind it.
func TestNothingIsChanged(t *testing.T) {
	c := rich()
	before := copyOf(whole(c))
	for range 3 {
		for _, s := range spans(t, c) {
			Calls(c, s)
		}
		wrong := c
		wrong.Regs = 6
		fails(t, wrong, api.ErrReg)
		wrong.Regs = 0
		fails(t, wrong, api.ErrForm)
		if !equalCode(whole(c), before) {
			t.Fatalf("%s: was %s", lines(whole(c)), lines(before))
		}
	}
}

// R3: what is told is the caller's own.
func TestNothingIsShared(t *testing.T) {
	c := rich()
	before := copyOf(c)
	first, second := spans(t, c), spans(t, c)
	want := slices.Clone(second)
	for i := range first {
		first[i] = [2]int{-7, 7}
	}
	_ = append(first, [2]int{-8, 8})
	if !slices.Equal(second, want) || !slices.Equal(spans(t, c), want) || !equalCode(c, before) {
		t.Errorf("%d; not %d", second, want)
	}
	// What is handed in may become another thing behind the call.
	for i, x := range c.L {
		for k := range x.Args {
			x.Args[k] = -5
		}
		c.L[i] = api.Ir{}
	}
	if !slices.Equal(second, want) {
		t.Errorf("%d; not %d", second, want)
	}
}

// R2: nil and empty lists are the same.
func TestEmpty(t *testing.T) {
	without, empty := call(1, "a.g"), call(1, "a.g")
	without.Args, empty.Args = nil, []int{}
	for _, x := range []api.Ir{without, empty} {
		for _, p := range [][]api.Type{nil, {}} {
			has(t, code("a.f", p, 3, 0, number(1, 5), x, ret(1)), none, [2]int{0, 2})
		}
	}
	fails(t, code("a.f", nil, 1, 0, []api.Ir{}...), api.ErrForm)
	calling(t, code("a.f", nil, 1, 0, []api.Ir{}...))
}

// R4: a call does not hang on those ahead of it, and tells the same each time.
func TestCallsAhead(t *testing.T) {
	c := rich()
	want := spans(t, c)
	for range 100 {
		for _, other := range []api.Code{{}, alone(copied(1, 0), copied(2, 1)), alone(store(0, 7), store(0, 2)), alone(api.Ir{})} {
			Spans(other)
			Calls(other, [2]int{0, 2})
			Meet(want[0], want[1])
		}
		if l := spans(t, c); !slices.Equal(l, want) {
			t.Fatalf("%d; not %d", l, want)
		}
	}
}

// P0: a function as great as one may be.
func TestGreatest(t *testing.T) {
	const most = 10000
	c := code("a.f", params(0, 0), most, 0)
	for at := range most - 1 {
		c.L = append(c.L, call(most-1-at, "a.g", at, at, at, at, at, at))
	}
	c.L = append(c.L, ret(most-1))
	var want [][2]int
	for r := range most {
		// It is written at one place, and read at another one; only the register 0 is read alone.
		least, greatest := min(r, most-1-r), max(r, most-1-r)
		want = append(want, [2]int{least, greatest})
	}
	want[0], want[1], want[most-1] = [2]int{-1, 0}, [2]int{-1, most - 2}, [2]int{0, most - 1}
	has(t, c, want...)
	calls := 0
	for _, s := range want {
		if Calls(c, s) {
			calls++
		}
	}
	// Of the register 0, and of the two in the middle, none stands between.
	if calls != most-3 {
		t.Error(calls)
	}
	c.L = append(c.L, ret(0))
	fails(t, c, api.ErrForm)
}

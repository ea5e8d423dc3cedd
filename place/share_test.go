package place

import (
	"math"
	"slices"
	"testing"

	"carling/api"
)

// rich is a function with every kind of instruction, with room behind its lists; some of its registers need slots.
func rich() api.Code {
	c := code("a.f", append(make([]api.Type, 0, 6), params(0, 2, 0)...), 10, 4)
	c.L = slices.Grow(c.L, 60)
	for _, x := range kinds(50) {
		if x.Kind != api.ICall {
			x.Name = "a.g"
		}
		x.Args = append(make([]int, 0, 9), x.Args...)
		c.L = append(c.L, x)
	}
	for len(c.L) < 51 {
		c.L = append(c.L, store(0, len(c.L)%10))
	}
	c.L = append(c.L, ret(9))
	return c
}

// whole are a function's lists up to all the room behind them.
func whole(c api.Code) api.Code {
	c.Params = c.Params[:cap(c.Params)]
	c.L = slices.Clone(c.L[:cap(c.L)])
	for i, x := range c.L {
		c.L[i].Args = x.Args[:cap(x.Args)]
	}
	return c
}

// R3: what is handed in stays as it is, and so does what there is room for behind it.
func TestNothingIsChanged(t *testing.T) {
	c := rich()
	before := copyOf(whole(c))
	list := append(make([]int, 0, 20), slices.Repeat([]int{8}, 10)...)
	lists := slices.Clone(list[:cap(list)])
	for range 3 {
		l, slots := kept(t, c)
		room := append(slices.Grow(slices.Clone(l), 20), 7, 7, 7)
		may(t, c, room[:len(l)], slots, true)
		may(t, c, list, 9, false)
		wrong := c
		wrong.Regs = 6
		fails(t, wrong, api.ErrReg)
		may(t, wrong, list[:6], 9, false)
		wrong.Regs = 0
		fails(t, wrong, api.ErrForm)
		if !equalCode(whole(c), before) || !slices.Equal(list[:cap(list)], lists) || !slices.Equal(room[len(l):], []int{7, 7, 7}) {
			t.Fatalf("%s: was %s; %d, %d", lines(whole(c)), lines(before), list, room)
		}
	}
}

// R3: what is told is the caller's own.
func TestNothingIsShared(t *testing.T) {
	c := rich()
	before := copyOf(c)
	first, slots := kept(t, c)
	second, _ := kept(t, c)
	want := slices.Clone(second)
	if slots == 0 {
		t.Error(first)
	}
	for i := range first {
		first[i] = -7
	}
	_ = append(first, -8)
	third, _ := kept(t, c)
	if !slices.Equal(second, want) || !slices.Equal(third, want) || !equalCode(c, before) {
		t.Errorf("%d; not %d", second, want)
	}
	// What is handed in may become another thing behind the call.
	for i, x := range c.L {
		for k := range x.Args {
			x.Args[k] = -5
		}
		c.L[i] = api.Ir{}
	}
	if !slices.Equal(second, want) {
		t.Errorf("%d; not %d", second, want)
	}
}

// R2: nil and empty lists are the same.
func TestEmpty(t *testing.T) {
	without, empty := call(1, "a.g"), call(1, "a.g")
	without.Args, empty.Args = nil, []int{}
	for _, x := range []api.Ir{without, empty} {
		for _, p := range [][]api.Type{nil, {}} {
			c := code("a.f", p, 3, 0, number(1, 5), number(2, 5), x, store(0, 2), ret(1))
			c.Cells = 1
			l, slots := kept(t, c)
			if l[1] < 8 || l[2] < 8 || slots != 2 {
				t.Error(l, slots)
			}
		}
	}
	fails(t, code("a.f", nil, 1, 0, []api.Ir{}...), api.ErrForm)
}

// R4: a call does not hang on those ahead of it.
func TestCallsAhead(t *testing.T) {
	c := rich()
	want, slots := kept(t, c)
	good := alone(number(1, 1), copied(2, 1))
	for range 100 {
		for _, other := range []api.Code{{}, atOnce(30), alone(copied(1, 0), copied(2, 1)), alone(api.Ir{})} {
			l, n, _ := Places(other)
			Check(other, l, n)
			Check(c, l, n)
		}
		if l, n := kept(t, c); !slices.Equal(l, want) || n != slots {
			t.Fatalf("%d, %d slots; not %d, %d", l, n, want, slots)
		}
		may(t, good, slices.Repeat([]int{3}, 8), 0, true)
		may(t, good, slices.Repeat([]int{2}, 8), 0, false)
	}
}

// P0: a function as great as one may be, all of whose registers go on at once.
func TestGreatest(t *testing.T) {
	const most = 10000
	c := code("a.f", params(0, 0, 0, 0, 0, 0), most, 0)
	for at := range most - 1 {
		x := call(most-1-at, "a.g", at, at, at, at, at, at)
		if at%2 == 0 {
			x.Kind = api.ICopy
			x.A = at
		}
		c.L = append(c.L, x)
	}
	c.L = append(c.L, ret(most-1))
	l, slots, e := Places(c)
	if len(l) != most || slots < most/2-9 || slots > most || e != api.OK {
		t.Errorf("%d places, %d slots, error %d", len(l), slots, e)
	}
	may(t, c, l, slots, true)
	may(t, c, l, slots-1, false)
	may(t, c, l, slots+1, true)
	may(t, c, l, math.MaxInt, true)
	may(t, c, slices.Repeat([]int{8}, most), slots, false)
	one := slices.Clone(l)
	one[1] = one[most-1]
	may(t, c, one, slots, false)
	one[1] = math.MaxInt
	may(t, c, one, math.MaxInt, true)
	c.L = append(c.L, ret(0))
	fails(t, c, api.ErrForm)
}

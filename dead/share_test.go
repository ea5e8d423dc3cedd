package dead

import (
	"slices"
	"testing"

	"carling/api"
	"carling/irun"
)

// rich is a function with instructions of every kind, dead and not dead, each of them with Args, which lie in one list, one behind the other, with room behind them.
func rich() (api.Code, []int) {
	c := alone(number(1, 5), copied(2, 1), reckon(api.Add, 3, 1, 2), pick(4, 1, 3, 0), load(5, 1), store(0, 3), call(6, "a.g"), zero(6, 9), jump(9), copied(7, 6), pick(2, 6, 1, 1), reckon(api.Xor, 1, 1, 6), store(1, 4), number(1, 4), copied(1, 1))
	args := make([]int, 4*len(c.L))
	for i := range args {
		args[i] = i % 8
	}
	for i := range c.L {
		c.L[i].Args = args[4*i : 4*i+2+i%2]
	}
	c.Params = append(make([]api.Type, 0, 6), c.Params...)
	return c, args
}

// whole are a function's lists up to all the room behind them.
func whole(c api.Code) api.Code {
	c.Params = c.Params[:cap(c.Params)]
	c.L = c.L[:cap(c.L)]
	return c
}

// spoil writes to all of a function, and behind it.
func spoil(c api.Code) {
	for i := range c.Params {
		c.Params[i] = api.Type{Len: 16, Sec: true}
	}
	_ = append(c.Params, api.Type{Len: 15})
	for i, x := range c.L {
		for k := range x.Args {
			x.Args[k] = -7
		}
		_ = append(x.Args, -8, -9)
		c.L[i] = api.Ir{Kind: api.IJump, C: -1}
	}
	_ = append(c.L, api.Ir{Kind: api.IRet, A: -1})
}

// R3: what is handed in stays as it is, and so does what there is room for behind it.
func TestNothingIsChanged(t *testing.T) {
	c, args := rich()
	c.L = append(slices.Grow(c.L, 5), number(1, 1))
	c.L = c.L[:len(c.L)-1]
	before, argsBefore := copyOf(whole(c)), slices.Clone(args)
	for range 3 {
		if d := dropping(t, c); len(d.L) == len(c.L) {
			t.Fatalf("nothing is dead of %s", lines(c))
		}
		for at := -1; at <= len(c.L)+1; at++ {
			Read(c, at)
		}
		wrong := c
		wrong.Regs = 7
		fails(t, wrong, api.ErrReg)
		wrong.Regs = 0
		fails(t, wrong, api.ErrForm)
		if !equalCode(whole(c), before) || !slices.Equal(args, argsBefore) {
			t.Fatalf("%s: was %s", lines(whole(c)), lines(before))
		}
	}
}

// R3: what Drop tells is the caller's own: its parameters, its instructions, and the Args of each.
func TestNothingIsShared(t *testing.T) {
	c, args := rich()
	before, argsBefore := copyOf(whole(c)), slices.Clone(args)
	first, second := dropping(t, c), dropping(t, c)
	want := copyOf(second)
	spoil(first)
	if !equalCode(second, want) {
		t.Errorf("two answers share memory: %s; not %s", lines(second), lines(want))
	}
	if !equalCode(whole(c), before) || !slices.Equal(args, argsBefore) {
		t.Errorf("an answer shares memory with what is handed in: %s; not %s", lines(c), lines(before))
	}
	// Nor do two lists of one answer.
	third := dropping(t, c)
	for i := range third.L {
		_ = append(third.L[i].Args, -8, -9)
	}
	if !equalCode(third, want) {
		t.Errorf("two lists of an answer share memory: %s; not %s", lines(third), lines(want))
	}
	// What is handed in may become another thing behind the call.
	spoil(c)
	for i := range args {
		args[i] = -5
	}
	if !equalCode(third, want) {
		t.Errorf("what is handed in is kept: %s; not %s", lines(third), lines(want))
	}
}

// R3: what is told is the caller's own where nothing is dead, too.
func TestNothingIsSharedUndropped(t *testing.T) {
	c := alone(call(1, "a.g", 0, 2), store(0, 1), call(3, "b.g", 1))
	before := copyOf(c)
	d := dropping(t, c)
	if !equalCode(d, before) {
		t.Fatal(lines(d))
	}
	spoil(d)
	if !equalCode(c, before) {
		t.Errorf("%s: was %s", lines(c), lines(before))
	}
}

// R3: what Read tells is the caller's own: of one that is all the Args of a call, too.
func TestReadIsNotShared(t *testing.T) {
	c := alone(call(0, "a.g", 0, 1, 2))
	before := copyOf(c)
	want := []int{0, 1, 2}
	first, second := Read(c, 0), Read(c, 0)
	for i := range first {
		first[i] = -7
	}
	_ = append(first, -8)
	if !slices.Equal(second, want) || !equalCode(c, before) || !slices.Equal(Read(c, 0), want) {
		t.Errorf("%d; %s; not %s", second, lines(c), lines(before))
	}
}

// R2: nil and empty lists are the same.
func TestEmpty(t *testing.T) {
	none, empty := call(1, "a.g"), call(1, "a.g")
	none.Args, empty.Args = nil, []int{}
	for _, x := range []api.Ir{none, empty} {
		for _, p := range [][]api.Type{nil, {}} {
			c := code("a.f", p, 2, 0, number(1, 5), x, ret(1))
			drops(t, c, number(1, 5), none, ret(1))
			reading(t, c, []int{1}, []int{1}, []int{1})
		}
	}
	fails(t, code("a.f", nil, 2, 0, []api.Ir{}...), api.ErrForm)
}

// R4: a call does not hang on those ahead of it, and tells the same each time.
func TestCallsAhead(t *testing.T) {
	c, _ := rich()
	want, read := dropping(t, c), Read(c, 3)
	for range 100 {
		for _, other := range []api.Code{{}, alone(copied(1, 0), copied(2, 1)), alone(store(0, 7), store(0, 2)), alone(api.Ir{})} {
			Drop(other)
			Read(other, 0)
		}
		if d := dropping(t, c); !equalCode(d, want) || !slices.Equal(Read(c, 3), read) {
			t.Fatalf("%s; not %s", lines(d), lines(want))
		}
	}
}

// P0: functions as great as they may be: all dead in one chain, nothing dead in one chain, and jumps over what is dead.
func TestGreatest(t *testing.T) {
	const most = 10000
	chain, branches := code("a.f", nil, most, 0, number(0, 3)), code("a.f", params(0), most, 0)
	for at := 1; at < most-1; at++ {
		chain.L = append(chain.L, reckon(api.Add, at, at-1, at-1))
	}
	for at := range most - 1 {
		branches.L = append(branches.L, []api.Ir{number(at, 1), zero(0, most-1), copied(at, 0)}[at%3])
	}
	branches.L = append(branches.L, ret(0))
	chain.L = append(chain.L, ret(most-2))
	drops(t, chain, chain.L...)
	if o, _, e := irun.Run([]api.Code{dropping(t, chain)}, "a.f", nil); e != api.OK || o.Result != 0 {
		t.Error(o, e)
	}
	chain.L[most-1].A = most - 1
	drops(t, chain, ret(most-1))
	if l := Read(chain, 0); !slices.Equal(l, []int{most - 1}) {
		t.Error(l)
	}
	d := dropping(t, branches)
	zeros := (most - 1) / 3
	want := append([]api.Ir{number(0, 1)}, slices.Repeat([]api.Ir{zero(0, zeros+1)}, zeros)...)
	if !slices.EqualFunc(d.L, append(want, ret(0)), equal) {
		t.Error(lines(d), len(d.L))
	}
	chain.L = append(chain.L, ret(0))
	fails(t, chain, api.ErrForm)
}

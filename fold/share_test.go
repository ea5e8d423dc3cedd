package fold

import (
	"slices"
	"testing"

	"carling/api"
	"carling/irun"
)

// rich is a function with instructions of every kind, each of them with Args, which lie in one list, one behind the other, with room behind them.
func rich() (api.Code, []int) {
	c := alone(number(1, 5), copied(2, 1), reckon(api.Add, 3, 1, 2), pick(4, 1, 3, 0), load(5, 1), store(0, 3), call(6, "a.g"), zero(6, 9), jump(9), copied(7, 6), pick(2, 6, 1, 1), reckon(api.Xor, 1, 1, 6), number(1, 4), copied(1, 1))
	args := make([]int, 4*len(c.L))
	for i := range args {
		args[i] = i % 8
	}
	for i := range c.L {
		c.L[i].Args = args[4*i : 4*i+2+i%2]
	}
	c.Params = append(make([]api.Type, 0, 6), c.Params...)
	return c, args
}

// whole are a function's lists up to all the room behind them.
func whole(c api.Code) api.Code {
	c.Params = c.Params[:cap(c.Params)]
	c.L = c.L[:cap(c.L)]
	return c
}

// spoil writes to all of a function, and behind it.
func spoil(c api.Code) {
	for i := range c.Params {
		c.Params[i] = api.Type{Len: 16, Sec: true}
	}
	_ = append(c.Params, api.Type{Len: 15})
	for i, x := range c.L {
		for k := range x.Args {
			x.Args[k] = -7
		}
		_ = append(x.Args, -8, -9)
		c.L[i] = api.Ir{Kind: api.IJump, C: -1}
	}
	_ = append(c.L, api.Ir{Kind: api.IRet, A: -1})
}

// R3: what is handed in stays as it is, and so does what there is room for behind it.
func TestNothingIsChanged(t *testing.T) {
	c, args := rich()
	c.L = append(slices.Grow(c.L, 5), number(1, 1))
	c.L = c.L[:len(c.L)-1]
	before, argsBefore := copyOf(whole(c)), slices.Clone(args)
	for range 3 {
		folding(t, c)
		Known(c)
		wrong := c
		wrong.Regs = 7
		fails(t, wrong, api.ErrReg)
		wrong.Regs = 0
		fails(t, wrong, api.ErrForm)
		if !equalCode(whole(c), before) || !slices.Equal(args, argsBefore) {
			t.Fatalf("%s: was %s", lines(whole(c)), lines(before))
		}
	}
}

// R3: what is told is the caller's own: its parameters, its instructions, and the Args of each.
func TestNothingIsShared(t *testing.T) {
	c, args := rich()
	before, argsBefore := copyOf(whole(c)), slices.Clone(args)
	first, second := folding(t, c), folding(t, c)
	want := copyOf(second)
	spoil(first)
	if !equalCode(second, want) {
		t.Errorf("two answers share memory: %s; not %s", lines(second), lines(want))
	}
	if !equalCode(whole(c), before) || !slices.Equal(args, argsBefore) {
		t.Errorf("an answer shares memory with what is handed in: %s; not %s", lines(c), lines(before))
	}
	// Nor do two lists of one answer.
	third := folding(t, c)
	for i := range third.L {
		_ = append(third.L[i].Args, -8, -9)
	}
	if !equalCode(third, want) {
		t.Errorf("two lists of an answer share memory: %s; not %s", lines(third), lines(want))
	}
	// What is handed in may become another thing behind the call.
	spoil(c)
	for i := range args {
		args[i] = -5
	}
	if !equalCode(third, want) {
		t.Errorf("what is handed in is kept: %s; not %s", lines(third), lines(want))
	}
}

// R3: where nothing is folded, what is told is the caller's own, too.
func TestNothingIsSharedUnfolded(t *testing.T) {
	c := alone(call(1, "a.g", 0, 2), store(0, 1), call(3, "b.g", 1))
	before := copyOf(c)
	d := folding(t, c)
	if !equalCode(d, before) {
		t.Fatal(lines(d))
	}
	spoil(d)
	if !equalCode(c, before) {
		t.Errorf("%s: was %s", lines(c), lines(before))
	}
}

// R2: nil and empty lists are the same.
func TestEmpty(t *testing.T) {
	none, empty := call(1, "a.g"), call(1, "a.g")
	none.Args, empty.Args = nil, []int{}
	for _, x := range []api.Ir{none, empty} {
		for _, p := range [][]api.Type{nil, {}} {
			folds(t, code("a.f", p, 2, 0, x, ret(1)), none, ret(1))
		}
	}
}

// R4: a call does not hang on those ahead of it, and tells the same each time.
func TestCallsAhead(t *testing.T) {
	c, _ := rich()
	want := folding(t, c)
	for range 100 {
		for _, other := range []api.Code{{}, alone(copied(1, 0), copied(2, 1)), alone(number(0, 9), number(1, 9), number(6, 1)), alone(api.Ir{})} {
			Fold(other)
			Known(other)
		}
		if d := folding(t, c); !equalCode(d, want) || Known(d) != Known(want) {
			t.Fatalf("%s; not %s", lines(d), lines(want))
		}
	}
}

// P0: functions as great as they may be: one block, blocks without end, and as many registers as there may be.
func TestGreatest(t *testing.T) {
	const most = 10000
	chain := code("a.f", nil, most, 0, number(0, 3))
	wide := code("a.f", nil, most, 0)
	branches := code("a.f", params(0), most, 0)
	for at := 1; at < most-1; at++ {
		chain.L = append(chain.L, reckon(api.Add, at, at-1, at-1))
	}
	for at := range most - 1 {
		x := number(at, uint32(at))
		if at >= most/2 {
			x = zero(0, at+1)
		}
		wide.L = append(wide.L, x)
		branches.L = append(branches.L, []api.Ir{number(at, 1), zero(at-at%2, most-1), copied(0, at)}[at%3])
	}
	chain.L, wide.L, branches.L = append(chain.L, ret(most-2)), append(wide.L, ret(0)), append(branches.L, ret(0))
	d := folding(t, chain)
	sum := uint32(3)
	for at, x := range d.L[:most-1] {
		if !equal(x, number(at, sum)) {
			t.Fatal(at, x)
		}
		sum += sum
	}
	if n := Known(d); n != most-1 {
		t.Error(n)
	}
	folds(t, wide, wide.L...)
	folds(t, branches, branches.L...)
	if o, _, e := irun.Run([]api.Code{d}, "a.f", nil); e != api.OK || o.Result != 0 {
		t.Error(o, e)
	}
}

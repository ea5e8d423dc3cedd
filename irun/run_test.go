package irun

import (
	"math"
	"slices"
	"testing"

	"carling/api"
)

// slow is a function that ends with ErrFuel, one that calls a function that is not there.
func slow() api.Code { return code("a.slow", nil, 1, 0, call(0, "a.slow"), ret(0)) }
func lost() api.Code { return code("a.lost", nil, 1, 0, call(0, "a.none"), ret(0)) }

// one is a function of a word.
func one(name string) api.Code { return code(name, params(0), 1, 0, ret(0)) }

// asked are runs that would answer each way, were it not for what is wrong with the list.
func asked(t testing.TB, l []api.Code, want api.Errno) {
	t.Helper()
	for _, name := range []string{"a.f", "a.slow", "a.lost", "a.none", "b.f", "", "f"} {
		for n := range 3 {
			fails(t, l, name, make([]uint32, n), want)
		}
	}
}

// P7.2: ErrForm of any one of the list goes ahead of all others, whatever is wrong with it, and whether or not it would be run.
func TestFormOfRuns(t *testing.T) {
	l := []api.Code{one("a.f"), slow(), lost()}
	for _, bad := range []api.Code{
		{}, code("b", nil, 1, 0, ret(0)), code("b.f", make([]api.Type, 7), 7, 0, ret(0)), code("b.f", params(17), 1, 17, ret(0)), code("b.f", params(0, 0), 1, 0, ret(0)), code("b.f", nil, 10001, 0, ret(0)), code("b.f", params(2), 1, 1, ret(0)), code("b.f", nil, 1, 4097, ret(0)), code("b.f", nil, 1, 0),
		code("b.f", nil, 1, 0, slices.Repeat([]api.Ir{ret(0)}, 10001)...),
		code("b.f", nil, 1, 0, api.Ir{}, ret(0)), code("b.f", nil, 1, 0, ret(1)), code("b.f", nil, 1, 0, load(0, 0), ret(0)), code("b.f", nil, 1, 0, jump(0), ret(0)), code("b.f", nil, 1, 0, ret(0), number(0, 0)),
		// It is not come to, and bears the name of another one.
		code("a.f", params(0), 1, 0, ret(0), api.Ir{}, ret(0)),
	} {
		if e, _ := Right(bad); e == api.OK {
			t.Fatal(bad)
		}
		for i := range 4 {
			asked(t, slices.Insert(slices.Clone(l), i, bad), api.ErrForm)
			asked(t, append(slices.Insert(slices.Clone(l), i, bad), l...), api.ErrForm)
		}
		asked(t, []api.Code{bad}, api.ErrForm)
		asked(t, []api.Code{bad, bad}, api.ErrForm)
	}
	comes(t, l, "a.f", []uint32{6}, 6, nil, nil)
}

// P7.2: ErrTwice goes ahead of what is wrong with the name, with the arguments, and within the run.
func TestTwice(t *testing.T) {
	l := []api.Code{one("a.f"), slow(), lost(), one("b.f")}
	for i, c := range l {
		for j := range 5 {
			asked(t, slices.Insert(slices.Clone(l), j, c), api.ErrTwice)
			other := code(c.Name, params(0, 3), 7, 5, number(2, 2), ret(2))
			asked(t, slices.Insert(slices.Clone(l), j, other), api.ErrTwice)
		}
		asked(t, []api.Code{c, c}, api.ErrTwice)
		asked(t, []api.Code{c, c, c}, api.ErrTwice)
		asked(t, append(slices.Clone(l), l[i:]...), api.ErrTwice)
	}
	// Names of which one begins with another, and names the other way round, are two.
	l = []api.Code{one("a.f"), one("a.ff"), one("aa.f"), one("f.a"), one("a.f1"), one("a.f_")}
	for _, c := range l {
		comes(t, l, c.Name, []uint32{5}, 5, nil, nil)
	}
}

// P7.2: ErrNone goes ahead of what is wrong with the arguments.
func TestNone(t *testing.T) {
	l := []api.Code{one("a.f"), one("b.g"), slow(), lost()}
	for _, name := range []string{"", "a", "f", "a.", ".f", "a.g", "b.f", "a.f ", "a.F", "a.none", "a.f.f", "b", "g"} {
		for n := range 3 {
			fails(t, l, name, make([]uint32, n), api.ErrNone)
			fails(t, nil, name, make([]uint32, n), api.ErrNone)
			fails(t, []api.Code{}, name, make([]uint32, n), api.ErrNone)
		}
	}
	fails(t, nil, "a.f", []uint32{1}, api.ErrNone)
}

// P7.2: ErrArg of how many arguments there are, ahead of what would be wrong within the run.
func TestArg(t *testing.T) {
	for _, p := range [][]api.Type{params(), params(0), params(0, 0), params(0, 0, 0, 0, 0, 0), params(1), params(16), params(2, 3), params(0, 4), params(4, 0), params(0, 2, 0), params(2, 0, 3), params(1, 1), params(16, 16, 16, 16, 16, 16), params(0, 1, 0, 1, 0, 1)} {
		n := 0
		for _, x := range p {
			n += max(x.Len, 1)
		}
		good := code("a.f", p, 8, 100, number(7, 3), ret(7))
		lost := code("a.g", p, 8, 100, call(7, "a.none"), ret(7))
		deep := code("a.h", p, 8, 100, call(7, "a.slow"), ret(7))
		l := []api.Code{good, lost, deep, slow()}
		for many := range n + 20 {
			args := slices.Repeat([]uint32{0}, many)
			if many != n {
				fails(t, l, "a.f", args, api.ErrArg)
				fails(t, l, "a.g", args, api.ErrArg)
				fails(t, l, "a.h", args, api.ErrArg)
				continue
			}
			_, cells := room(p)
			comes(t, l, "a.f", args, 3, make([]uint32, cells), nil)
			fails(t, l, "a.g", args, api.ErrName)
			fails(t, l, "a.h", args, api.ErrFuel)
		}
	}
}

// P7.2: each kind of instruction alone.
func TestEachKind(t *testing.T) {
	const top = math.MaxUint32
	for _, n := range []uint32{0, 1, 7, 1 << 31, top} {
		runs(t, alone(number(3, n), ret(3)), n)
		runs(t, alone(number(3, n), copied(1, 3), number(3, 5), ret(1)), n)
		runs(t, alone(number(3, n), copied(3, 3), ret(3)), n)
		runs(t, alone(number(2, n), store(3, 2), number(2, 5), load(2, 3), ret(2)), n)
		runs(t, alone(number(2, n), store(0, 2), load(1, 1), ret(1)), 0)
		comes(t, []api.Code{one("a.f")}, "a.f", []uint32{n}, n, nil, nil)
	}
	for _, c := range []struct {
		op   int
		a, b uint32
		want uint32
	}{
		{api.Add, 5, 6, 11}, {api.Add, top, 2, 1}, {api.Sub, 9, 4, 5}, {api.Sub, 0, 1, top}, {api.Mul, 5, 6, 30}, {api.Mul, 1 << 31, 3, 1 << 31}, {api.And, 12, 10, 8}, {api.Or, 12, 10, 14}, {api.Xor, 12, 10, 6},
		{api.Shl, 3, 4, 48}, {api.Shl, 3, 33, 6}, {api.Shr, 48, 4, 3}, {api.Shr, 48, 36, 3}, {api.Lt, 1, 2, 1}, {api.Lt, 2, 1, 0}, {api.Lt, 1, top, 1}, {api.Eq, 4, 4, 1}, {api.Eq, 4, 5, 0},
	} {
		runs(t, alone(number(1, c.a), number(2, c.b), reckon(c.op, 3, 1, 2), ret(3)), c.want)
		runs(t, alone(number(1, c.a), number(2, c.b), reckon(c.op, 1, 1, 2), ret(1)), c.want)
		runs(t, alone(number(1, c.a), number(2, c.b), reckon(c.op, 2, 1, 2), ret(2)), c.want)
		runs(t, alone(number(1, c.a), number(2, c.b), reckon(c.op, 0, 1, 2), ret(1)), c.a)
		runs(t, alone(number(1, c.a), number(2, c.b), reckon(c.op, 0, 1, 2), ret(2)), c.b)
	}
	for _, n := range []uint32{0, 1, 2, 1 << 31, top} {
		want := uint32(8)
		if n == 0 {
			want = 9
		}
		runs(t, alone(number(0, n), number(1, 8), number(2, 9), pick(3, 0, 1, 2), ret(3)), want)
		runs(t, alone(number(0, n), number(1, 8), number(2, 9), pick(0, 0, 1, 2), ret(0)), want)
		runs(t, alone(number(0, n), number(1, 8), number(2, 9), pick(1, 0, 1, 2), ret(1)), want)
		runs(t, alone(number(0, n), number(1, 8), number(2, 9), pick(2, 0, 1, 2), ret(2)), want)
	}
	// IRet ends it: what stands behind it is not gone through.
	runs(t, alone(number(0, 4), ret(0), number(0, 5), ret(0)), 4)
	runs(t, alone(number(0, 4), ret(0), call(0, "a.none"), ret(0)), 4)
	comes(t, []api.Code{code("a.f", params(1), 1, 1, ret(0), store(0, 0), zero(0, 3), ret(0))}, "a.f", []uint32{6}, 0, []uint32{6}, nil)
}

// P7.2: jumps, both ways of branches, and what they go past.
func TestJumping(t *testing.T) {
	runs(t, alone(number(0, 1), jump(3), number(0, 2), ret(0)), 1)
	runs(t, alone(number(0, 1), jump(2), number(0, 2), ret(0)), 2)
	runs(t, alone(jump(2), ret(1), number(1, 6), jump(5), number(1, 7), ret(1)), 6)
	runs(t, alone(number(0, 1), jump(3), call(0, "a.none"), ret(0)), 1)
	branch := []api.Code{code("a.f", params(0), 2, 0, zero(0, 3), number(1, 5), jump(4), number(1, 6), ret(1))}
	for _, x := range []uint32{1, 2, 1 << 31, math.MaxUint32} {
		comes(t, branch, "a.f", []uint32{x}, 5, nil, []int{1})
	}
	comes(t, branch, "a.f", []uint32{0}, 6, nil, []int{0})
	// To the next one both ways are one, and still told.
	next := []api.Code{code("a.f", params(0), 1, 0, zero(0, 1), zero(0, 2), ret(0))}
	comes(t, next, "a.f", []uint32{0}, 0, nil, []int{0, 0})
	comes(t, next, "a.f", []uint32{3}, 3, nil, []int{1, 1})
	// A branch asks the register that it names.
	comes(t, []api.Code{code("a.f", params(0, 0, 0), 3, 0, zero(2, 3), zero(1, 3), ret(0), number(0, 9), ret(0))}, "a.f", []uint32{4, 0, 7}, 9, nil, []int{1, 0})
	// One that is gone past is not told.
	comes(t, []api.Code{code("a.f", params(0), 1, 0, zero(0, 2), zero(0, 2), ret(0))}, "a.f", []uint32{0}, 0, nil, []int{0})
}

// P7.2: where arguments lie, and that all else is 0.
func TestWhereArgumentsLie(t *testing.T) {
	for _, lens := range [][]int{{}, {0}, {0, 0, 0}, {1}, {16}, {2, 3}, {0, 2}, {2, 0}, {0, 2, 0, 3, 0}, {3, 0, 2, 0, 1, 0}, {16, 16, 16, 16, 16, 16}, {0, 0, 0, 0, 0, 0}, {1, 0, 1, 0, 1, 0}, {5, 5, 0, 0, 5, 5}} {
		var args, words, cells []uint32
		for i, n := range lens {
			for j := range max(n, 1) {
				x := uint32(100*i + j + 1)
				args = append(args, x)
				if n == 0 {
					words = append(words, x)
				} else {
					cells = append(cells, x)
				}
			}
		}
		for i := range len(words) + 3 {
			want := uint32(0)
			if i < len(words) {
				want = words[i]
			}
			comes(t, []api.Code{code("a.f", params(lens...), len(words)+3, len(cells), ret(i))}, "a.f", args, want, cells, nil)
		}
		for i := range len(cells) + 3 {
			want := uint32(0)
			if i < len(cells) {
				want = cells[i]
			}
			comes(t, []api.Code{code("a.f", params(lens...), len(words)+1, len(cells)+3, load(len(words), uint32(i)), ret(len(words)))}, "a.f", args, want, cells, nil)
		}
	}
	comes(t, []api.Code{code("a.f", params(0), 10000, 4096, load(1, 4095), reckon(api.Or, 1, 1, 9999), ret(1))}, "a.f", []uint32{6}, 0, nil, nil)
}

// P7.2: calls: their arguments in order, their registers and cells their own, D their result.
func TestCalling(t *testing.T) {
	sub := code("a.sub", params(0, 0), 2, 0, reckon(api.Sub, 0, 0, 1), ret(0))
	l := []api.Code{code("a.f", params(0, 0), 4, 0, call(2, "a.sub", 1, 0), ret(2)), sub}
	comes(t, l, "a.f", []uint32{3, 10}, 7, nil, nil)
	slices.Reverse(l)
	comes(t, l, "a.f", []uint32{3, 10}, 7, nil, nil)
	// One register twice, and D among them.
	comes(t, []api.Code{sub, code("a.f", params(0, 0), 2, 0, call(1, "a.sub", 1, 1), ret(1))}, "a.f", []uint32{3, 10}, 0, nil, nil)
	comes(t, []api.Code{sub, code("a.f", params(0, 0), 2, 0, call(0, "a.sub", 0, 1), ret(0))}, "a.f", []uint32{30, 10}, 20, nil, nil)
	// What the called one writes and stores does not change what the calling one has, and is gone when it is called again.
	dirty := code("a.dirty", params(0), 4, 3, load(1, 2), reckon(api.Or, 1, 1, 2), reckon(api.Or, 1, 1, 3), number(2, 5), number(3, 5), store(0, 2), store(1, 2), store(2, 2), reckon(api.Add, 0, 0, 1), ret(0))
	top := code("a.f", params(0, 2), 4, 3, number(1, 1), number(2, 2), number(3, 3), store(2, 3), call(3, "a.dirty", 1), call(1, "a.dirty", 0), load(3, 2), reckon(api.Mul, 2, 2, 3), reckon(api.Add, 1, 1, 2), reckon(api.Add, 1, 1, 0), ret(1))
	comes(t, []api.Code{top, dirty}, "a.f", []uint32{50, 8, 9}, 106, []uint32{8, 9}, nil)
	comes(t, []api.Code{code("a.f", nil, 2, 0, number(0, 3), call(0, "a.dirty", 0), call(0, "a.dirty", 0), call(1, "a.dirty", 0), ret(1)), dirty}, "a.f", nil, 3, nil, nil)
	// Registers that are not handed on are 0 there, whatever stands in those of the calling one.
	zeros := code("a.zeros", params(0), 4, 2, load(1, 1), reckon(api.Or, 1, 1, 2), reckon(api.Or, 1, 1, 3), ret(1))
	comes(t, []api.Code{code("a.f", params(0, 2), 4, 3, number(1, 1), number(2, 2), number(3, 3), store(1, 1), store(0, 1), call(0, "a.zeros", 0), ret(0)), zeros}, "a.f", []uint32{7, 8, 9}, 0, []uint32{1, 1}, nil)
	// As many arguments as there may be, and none.
	six := code("b.six", make([]api.Type, 6), 6, 0, reckon(api.Mul, 0, 0, 1), reckon(api.Sub, 0, 0, 2), reckon(api.Shl, 0, 0, 3), reckon(api.Xor, 0, 0, 4), reckon(api.Or, 0, 0, 5), ret(0))
	comes(t, []api.Code{six, code("a.f", make([]api.Type, 6), 6, 0, call(0, "b.six", 5, 4, 3, 2, 1, 0), ret(0))}, "a.f", []uint32{128, 1, 2, 3, 4, 5}, ((20-3)<<2^1)|128, nil, nil)
	comes(t, []api.Code{code("b.none", nil, 1, 0, number(0, 4), ret(0)), code("a.f", nil, 2, 0, call(1, "b.none"), ret(1))}, "a.f", nil, 4, nil, nil)
	// A name is the whole of it: that of the same function in another unit is another one.
	comes(t, []api.Code{code("b.g", nil, 1, 0, number(0, 4), ret(0)), code("a.g", nil, 1, 0, number(0, 5), ret(0)), code("a.f", nil, 1, 0, call(0, "b.g"), ret(0))}, "a.f", nil, 4, nil, nil)
	// Functions may call one another, and themselves.
	down := code("a.down", params(0), 3, 0, zero(0, 5), number(1, 1), reckon(api.Sub, 0, 0, 1), call(0, "a.up", 0), reckon(api.Add, 0, 0, 1), ret(0))
	up := down
	up.Name, up.L = "a.up", slices.Clone(down.L)
	up.L[3].Name = "a.down"
	up.L[1].N = 1
	comes(t, []api.Code{down, up}, "a.down", []uint32{5}, 5, nil, []int{1, 1, 1, 1, 1, 0})
	comes(t, []api.Code{down, up}, "a.up", []uint32{0}, 0, nil, []int{0})
}

// P7.2: ErrName and ErrType of a call, and that they are told only when it is gone into.
func TestWrongCalls(t *testing.T) {
	l := []api.Code{
		code("b.none", nil, 1, 0, ret(0)), code("b.one", params(0), 1, 0, ret(0)), code("b.six", make([]api.Type, 6), 6, 0, ret(0)),
		code("b.array", params(1), 1, 1, ret(0)), code("b.last", params(0, 4), 1, 4, ret(0)), code("b.first", params(4, 0), 1, 4, ret(0)), code("b.room", params(0), 9, 9, ret(0)),
	}
	for _, c := range []struct {
		x    api.Ir
		want api.Errno
	}{
		{call(0, "b.f"), api.ErrName}, {call(0, "a.one", 0), api.ErrName}, {call(0, "b.on", 0), api.ErrName}, {call(0, "b.ones", 0), api.ErrName}, {call(0, "c.none"), api.ErrName}, {call(0, "none.b", 0, 0, 0, 0, 0, 0), api.ErrName},
		{call(0, "b.none", 0), api.ErrType}, {call(0, "b.one"), api.ErrType}, {call(0, "b.one", 0, 0), api.ErrType}, {call(0, "b.six", 0, 0, 0, 0, 0), api.ErrType}, {call(0, "b.six"), api.ErrType}, {call(0, "b.none", 0, 0, 0, 0, 0, 0), api.ErrType},
		{call(0, "b.array", 0), api.ErrType}, {call(0, "b.array"), api.ErrType}, {call(0, "b.last", 0, 0), api.ErrType}, {call(0, "b.last", 0), api.ErrType}, {call(0, "b.last", 0, 0, 0, 0, 0), api.ErrType}, {call(0, "b.first", 0, 0), api.ErrType}, {call(0, "b.first", 0), api.ErrType},
		{call(0, "b.none"), api.OK}, {call(0, "b.one", 1), api.OK}, {call(0, "b.room", 1), api.OK}, {call(0, "b.six", 1, 0, 0, 0, 0, 0), api.OK},
	} {
		f := code("a.f", params(0, 2), 2, 2, zero(0, 4), store(1, 0), c.x, ret(0), number(0, 6), ret(0))
		g := code("a.g", params(0), 1, 0, call(0, "a.h", 0), ret(0))
		h := code("a.h", params(0), 2, 0, zero(0, 2), c.x, ret(0))
		all := append(slices.Clone(l), f, g, h)
		comes(t, all, "a.f", []uint32{0, 1, 2}, 6, []uint32{1, 2}, []int{0})
		comes(t, all, "a.g", []uint32{0}, 0, nil, []int{0})
		if c.want != api.OK {
			fails(t, all, "a.f", []uint32{1, 1, 2}, c.want)
			fails(t, all, "a.g", []uint32{1}, c.want)
			continue
		}
		comes(t, all, "a.f", []uint32{1, 1, 2}, 0, []uint32{1, 1}, []int{1})
		comes(t, all, "a.g", []uint32{1}, 0, nil, []int{1})
	}
	// Of two wrong calls the one that is come to first is told.
	two := func(x, y api.Ir) []api.Code { return append(slices.Clone(l), code("a.f", nil, 1, 0, x, y, ret(0))) }
	fails(t, two(call(0, "b.f"), call(0, "b.one")), "a.f", nil, api.ErrName)
	fails(t, two(call(0, "b.one"), call(0, "b.f")), "a.f", nil, api.ErrType)
}

// P7.3: what is told: the result, the cells of arrays alone, and the branches in order.
func TestWhatIsTold(t *testing.T) {
	// No array: no cells, whatever is stored.
	comes(t, []api.Code{code("a.f", params(0), 1, 3, store(0, 0), store(2, 0), ret(0))}, "a.f", []uint32{5}, 5, nil, nil)
	// One: those that are stored into, the others as they were; cells behind them are not told.
	comes(t, []api.Code{code("a.f", params(3, 0), 1, 5, store(1, 0), store(3, 0), store(4, 0), ret(0))}, "a.f", []uint32{7, 8, 9, 5}, 5, []uint32{7, 5, 9}, nil)
	// Several, in order.
	comes(t, []api.Code{code("a.f", params(2, 0, 1, 0, 3), 2, 7, store(0, 0), store(2, 1), store(5, 0), store(6, 0), ret(1))}, "a.f", []uint32{1, 2, 70, 3, 80, 4, 5, 6}, 80, []uint32{70, 2, 80, 4, 5, 70}, nil)
	// As they stand at the end.
	comes(t, []api.Code{code("a.f", params(1), 2, 1, load(0, 0), number(1, 4), store(0, 1), number(1, 5), store(0, 1), ret(0), store(0, 0), ret(0))}, "a.f", []uint32{9}, 9, []uint32{5}, nil)
	// Branches within calls stand where the calls do.
	g := code("a.g", params(0), 1, 0, zero(0, 1), zero(0, 2), ret(0))
	f := code("a.f", params(0, 0), 3, 0, zero(0, 1), call(2, "a.g", 1), zero(2, 3), call(2, "a.g", 0), zero(1, 5), ret(2))
	comes(t, []api.Code{f, g}, "a.f", []uint32{0, 1}, 0, nil, []int{0, 1, 1, 1, 0, 0, 1})
	comes(t, []api.Code{f, g}, "a.f", []uint32{3, 0}, 3, nil, []int{1, 0, 0, 0, 1, 1, 0})
	// With an error nothing is told: neither the branches nor the cells up to it.
	for name, want := range map[string]api.Errno{"a.none": api.ErrName, "a.g": api.ErrType, "a.slow": api.ErrFuel} {
		l := []api.Code{g, slow(), code("a.f", params(0, 2), 2, 2, zero(0, 1), store(0, 0), call(0, name), ret(0))}
		fails(t, l, "a.f", []uint32{4, 1, 2}, want)
	}
}

// P7.2, R3, R4: what is handed in stays as it is, nothing of it is shared with what is told, and the same comes again.
func TestNothingShared(t *testing.T) {
	g := code("b.g", params(0, 0), 3, 2, store(0, 1), zero(0, 2), reckon(api.Add, 0, 0, 1), ret(0))
	f := code("a.f", params(0, 2, 0), 3, 4, store(1, 0), store(3, 1), call(0, "b.g", 0, 1), zero(1, 4), load(2, 0), reckon(api.Add, 0, 0, 2), store(0, 0), ret(0))
	l := []api.Code{f, g, slow()}
	args := []uint32{4, 10, 20, 5}
	before, argsBefore := copyOf(l), slices.Clone(args)
	kept := func() {
		t.Helper()
		same(t, l, before)
		if !slices.Equal(args, argsBefore) {
			t.Error("the arguments are others")
		}
	}
	o, b, e := Run(l, "a.f", args)
	kept()
	if e != api.OK {
		t.Fatal(e)
	}
	told, ways := slices.Clone(o.Arrays), slices.Clone(b)
	comes(t, l, "a.f", args, o.Result, told, ways)
	for i := range o.Arrays {
		o.Arrays[i] = 99
	}
	for i := range b {
		b[i] = 99
	}
	o.Arrays = append(o.Arrays, 98)
	kept()
	comes(t, l, "a.f", args, o.Result, told, ways)
	for _, name := range []string{"a.slow", "a.none", "b.g"} {
		Run(l, name, args)
		kept()
	}
	comes(t, l, "a.f", args, 19, []uint32{19, 4}, []int{1, 1})
	// What was told stays when the arguments become others.
	o, _, _ = Run(l, "a.f", args)
	args[0], args[1], args[2], args[3] = 0, 0, 0, 0
	if !slices.Equal(o.Arrays, []uint32{19, 4}) {
		t.Error(o)
	}
	// R2: no arguments, nil or empty.
	empty := []api.Code{code("a.f", []api.Type{}, 1, 0, ret(0))}
	comes(t, empty, "a.f", nil, 0, nil, nil)
	comes(t, empty, "a.f", []uint32{}, 0, nil, nil)
	// Room behind the end of what is handed in is not written to.
	long := make([]uint32, 20)
	long[0] = 6
	comes(t, []api.Code{code("a.f", params(1), 1, 8, number(0, 5), store(0, 0), store(1, 0), ret(0))}, "a.f", long[:1], 5, []uint32{5}, nil)
	if long[0] != 6 || slices.ContainsFunc(long[1:], func(x uint32) bool { return x != 0 }) {
		t.Error(long)
	}
}

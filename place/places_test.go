package place

import (
	"math/rand"
	"slices"
	"testing"

	"carling/api"
)

// kinds are one of each kind of instruction, and calls with each number of Args; jumps go to that place. The registers that each reads and writes are all unlike; in parts that a kind does not have stands what is none.
func kinds(to int) []api.Ir {
	l := []api.Ir{
		{Kind: api.IConst, D: 1, A: -1, B: 99, C: 99, N: 9},
		{Kind: api.ICopy, D: 1, A: 2, B: -1, C: 99, N: 99},
		{Kind: api.IBin, Op: api.Shl, D: 1, A: 2, B: 3, C: -1, N: 99},
		{Kind: api.ISel, Op: -1, D: 1, A: 2, B: 3, C: 4, N: 99},
		{Kind: api.ILoad, D: 1, A: 99, B: -1, C: 99, N: 2},
		{Kind: api.IStore, D: -1, A: 2, B: 99, C: 99, N: 3},
		{Kind: api.IJump, D: -1, A: -1, B: -1, C: to, N: 99},
		{Kind: api.IZero, D: 99, A: 2, B: -1, C: to, N: 99},
		{Kind: api.IRet, D: 99, A: 2, B: -1, C: -1, N: 99},
	}
	for i := range l {
		l[i].Name, l[i].Args = "?", []int{-1, 8, 9999}
	}
	args := []int{2, 3, 4, 5, 6, 0}
	for n := range len(args) + 1 {
		l = append(l, api.Ir{Kind: api.ICall, Op: 99, D: 1, A: -1, B: 99, C: -1, N: 99, Name: "a.g", Args: args[:n]})
	}
	return l
}

// P12.2: functions of every kind of instruction, of which all registers go on over it, end there, or begin there.
func TestPlacesOfKinds(t *testing.T) {
	var writes, reads []api.Ir
	for r := range 8 {
		writes = append(writes, number(r, 1))
		reads = append(reads, store(0, r))
	}
	for _, p := range [][]api.Type{nil, params(0), params(0, 2, 0), params(0, 0, 0, 0, 0, 0)} {
		for n := range 9 {
			for _, x := range kinds(n + 1) {
				f := func(l ...[]api.Ir) { kept(t, code("a.f", p, 8, 4, append(slices.Concat(l...), ret(0))...)) }
				one := []api.Ir{x}
				f(writes[:n], one, reads)
				f(writes[8-n:], one, reads)
				f(writes[:n], one, reads[n:])
				f(writes[8-n:], one, reads[:n])
				f(reads[:n], one, writes)
				f(writes[:n], one)
			}
		}
	}
}

// atOnce is a function of which so many registers go on at one place, and as many as that allows at the others; a call stands there, if there is one.
func atOnce(n int, calls ...api.Ir) api.Code {
	c := code("a.f", nil, n+1, 1)
	for r := range n {
		c.L = append(c.L, number(r, 1))
	}
	c.L = append(c.L, calls...)
	for r := range n {
		c.L = append(c.L, store(0, r))
	}
	c.L = append(c.L, ret(n))
	return c
}

// P12.2: just five spans that go on at one place, and six, and more.
func TestPlacesAtOnce(t *testing.T) {
	for n := range 40 {
		c := atOnce(n)
		if most := modelMost(c); most != n {
			t.Fatalf("%s: %d", lines(c), most)
		}
		// One place of the machine can't be shared, so that each one more has a slot.
		if _, slots := kept(t, c); slots < n-5 || slots > 0 && n <= 5 {
			t.Errorf("%s: %d slots", lines(c), slots)
		}
		// All over a call: all have slots.
		if l, slots := kept(t, atOnce(n, call(n, "a.g"))); slots < n || n > 0 && slices.Min(l[:n]) < 8 {
			t.Errorf("%d of %d", l, n)
		}
		// A call that is the first one, or the last one but the IRet, stands within none.
		c.L = slices.Insert(c.L, 0, call(n, "a.g"))
		c.L = slices.Insert(c.L, len(c.L)-1, call(n, "a.g"))
		c.Regs++
		c.L[0].D = n + 1
		if _, slots := kept(t, c); slots > 0 && n <= 5 {
			t.Errorf("%s: %d slots", lines(c), slots)
		}
	}
}

// tight is a function made by chance of which so many registers at most go on at once: where one ends the next one begins. Of some of its instructions one is a call, if some is not 0.
func tight(m maker, most, n, some int) api.Code {
	var goOn []int
	c := code("a.f", nil, 1, 1)
	begin := func() int {
		goOn = append(goOn, c.Regs)
		c.Regs++
		return c.Regs - 1
	}
	end := func() int {
		i := m.r.Intn(len(goOn))
		r := goOn[i]
		goOn = slices.Delete(goOn, i, i+1)
		return r
	}
	for len(c.L) < n {
		switch {
		case len(goOn) < most && (len(goOn) == 0 || m.r.Intn(4) > 0):
			c.L = append(c.L, number(begin(), 1))
		case some > 0 && m.r.Intn(some) == 0:
			a := end()
			b := anyOf(m, append(goOn, a)...)
			c.L = append(c.L, call(begin(), "a.g", a, b))
		case m.r.Intn(9) == 0:
			c.L = append(c.L, store(0, anyOf(m, goOn...)))
		default:
			a := end()
			b := anyOf(m, append(goOn, a)...)
			c.L = append(c.L, reckon(api.Sub, begin(), a, b))
		}
	}
	for len(goOn) > 0 {
		c.L = append(c.L, store(0, end()))
	}
	c.L = append(c.L, ret(0))
	return renamed(m, c)
}

// renamed is a function whose registers have another order.
func renamed(m maker, c api.Code) api.Code {
	to := m.r.Perm(c.Regs)
	for i := range c.L {
		x := &c.L[i]
		x.D, x.A, x.B, x.C = to[x.D], to[x.A], to[x.B], to[x.C]
		for k, r := range x.Args {
			x.Args[k] = to[r]
		}
	}
	return c
}

// P12.2: many registers, one behind the other, that need five places at a time, or fewer, and no more.
func TestPlacesTight(t *testing.T) {
	m := maker{rand.New(rand.NewSource(21))}
	for i := range 600 {
		most := 1 + i%5
		c := tight(m, most, 20+m.r.Intn(150), 0)
		if got := modelMost(c); got != most {
			t.Fatalf("%s: %d, not %d", lines(c), got, most)
		}
		if _, slots := kept(t, c); slots != 0 || t.Failed() {
			t.Fatalf("%s: %d slots", lines(c), slots)
		}
	}
}

// P12.2: as many registers as there may be, in a chain: at each place one ends, and one begins, and so many go on.
func TestPlacesChain(t *testing.T) {
	const most = 9990
	for wide := 1; wide < 8; wide++ {
		c := code("a.f", params(0), most, 1)
		for at := 1; at < most; at++ {
			c.L = append(c.L, copied(at, max(at-wide, 0)))
		}
		c.L = append(c.L, ret(most-1))
		l, slots, e := Places(c)
		if e != api.OK || slots > 0 && wide <= 5 || slots == 0 && wide > 5 {
			t.Errorf("%d at a time: %d slots, error %d", wide, slots, e)
		}
		may(t, c, l, slots, true)
		// With the registers the other way round, none of which is an argument.
		for i, x := range c.L {
			c.L[i].D, c.L[i].A = most-1-x.D, most-1-x.A
		}
		c.Params = nil
		l, slots, e = Places(c)
		if e != api.OK || slots > 0 && wide <= 5 {
			t.Errorf("%d at a time: %d slots, error %d", wide, slots, e)
		}
		may(t, c, l, slots, true)
	}
}

// P12.2: arguments are in use ahead of all places, up to as many as there may be.
func TestPlacesOfArguments(t *testing.T) {
	for n := range 7 {
		for arrays := range 7 - n {
			for more := range 3 {
				p := params(append(make([]int, n), slices.Repeat([]int{2}, arrays)...)...)
				c := code("a.f", p, n+more+1, 12)
				for r := range n + more {
					c.L = append(c.L, store(0, r))
				}
				c.L = append(c.L, ret(n+more))
				if _, slots := kept(t, c); (slots > 0) != (n == 6) {
					t.Errorf("%s: %d slots", lines(c), slots)
				}
				// Read the other way round: all of them go on, and those others that were written.
				slices.Reverse(c.L[:n+more])
				for r := range more {
					c.L = slices.Insert(c.L, 0, number(n+r, 1))
				}
				if _, slots := kept(t, c); (slots > 0) != (n+more > 5) {
					t.Errorf("%s: %d slots", lines(c), slots)
				}
				// Those that are read behind a call have slots, and those that are not don't need one.
				c = code("a.f", p, n+more+1, 12, call(n+more, "a.g"))
				for r := range n / 2 {
					c.L = append(c.L, store(0, 2*r))
				}
				c.L = append(c.L, ret(n+more))
				l, slots := kept(t, c)
				if slots < n/2 {
					t.Errorf("%s: %d slots", lines(c), slots)
				}
				for r := range n / 2 {
					if l[2*r] < 8 {
						t.Errorf("%s: %d is read behind a call", lines(c), l)
					}
				}
			}
		}
	}
}

// P12.2: registers that are never in use, and such as are written and never read, or read and never written, need no place of their own.
func TestPlacesOfUnused(t *testing.T) {
	for _, more := range []int{0, 1, 2, 50, 9990} {
		for _, c := range []api.Code{
			code("a.f", nil, 1+more, 0, ret(0)), code("a.f", nil, 2+more, 0, number(1, 1), ret(0)), code("a.f", params(0), 1+more, 0, jump(1), ret(0)), code("a.f", params(0), 2+more, 0, number(1, 1), ret(1)), code("a.f", params(0, 0, 0, 0, 0, 0), 7+more, 0, ret(6)),
			atOnce(5),
		} {
			c.Regs += more
			if more > 100 {
				c.Regs -= more
				l, slots, e := Places(c)
				if len(l) != c.Regs || slots != 0 || e != api.OK {
					t.Errorf("%s: %d places, %d slots, error %d", lines(c), len(l), slots, e)
				}
				may(t, c, l, slots, true)
				continue
			}
			if _, slots := kept(t, c); slots != 0 {
				t.Errorf("%s: %d slots", lines(c), slots)
			}
		}
	}
	// Each is written, or read, at one place alone, where five others go on.
	c := atOnce(5)
	for i := range 20 {
		c.L = slices.Insert(c.L, 5, number(6+2*i, 1), store(0, 7+2*i))
	}
	c.Regs = 46
	if _, slots := kept(t, c); slots != 0 {
		t.Errorf("%s: %d slots", lines(c), slots)
	}
}

// P12.2: calls within some spans and not within others.
func TestPlacesOverCalls(t *testing.T) {
	other := load(7, 0)
	for _, c := range []api.Code{
		alone(number(1, 1), number(2, 1), call(3, "a.g", 2), store(0, 3), store(0, 1)),
		alone(number(1, 1), store(0, 1), number(2, 1), call(3, "a.g", 2), call(4, "a.g", 3), reckon(api.Add, 5, 3, 4), store(0, 5)),
		alone(call(1, "a.g"), call(2, "a.g"), call(3, "a.g"), call(4, "a.g", 1, 2, 3), store(0, 4)),
		alone(call(1, "a.g"), call(1, "a.g", 1), other, call(2, "a.g", 1), call(3, "a.g", 2), number(6, 1), store(0, 6)),
		alone(number(1, 1), number(2, 1), number(3, 1), number(4, 1), number(5, 1), number(6, 1), call(7, "a.g", 2, 4, 6), store(0, 1), store(0, 3), store(0, 5), store(0, 7)),
	} {
		l, slots := kept(t, c)
		over := 0
		for r, s := range modelSpans(c) {
			if modelOver(c, s) {
				over++
			} else if l[r] >= 8 {
				t.Errorf("%s: %d: the register %d has a slot", lines(c), l, r)
			}
		}
		if over == 0 || slots > over || slots == 0 {
			t.Errorf("%s: %d slots for %d", lines(c), slots, over)
		}
	}
	m := maker{rand.New(rand.NewSource(22))}
	over, apart := 0, 0
	for i := range 600 {
		c := tight(m, 1+i%8, 20+m.r.Intn(100), 2+i%11)
		if _, slots := kept(t, c); slots > 0 {
			over++
		} else {
			apart++
		}
		if t.Failed() {
			t.FailNow()
		}
	}
	if min(over, apart) < 20 {
		t.Error(over, apart)
	}
}

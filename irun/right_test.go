package irun

import (
	"math"
	"slices"
	"strings"
	"testing"

	"carling/api"
)

// names are texts, and whether they are two names with a dot between.
func names() map[string]bool {
	twelve := strings.Repeat("a", 12)
	return map[string]bool{
		"a.f": true, "a1_.b2_": true, "unit.fn": true, "z.z": true, twelve + ".f": true, "a." + twelve: true, twelve + "." + twelve: true, "abcdefghijkl.m0123456789_": true,
		"": false, "a": false, "af": false, ".": false, "..": false, "a.": false, ".a": false, "a..f": false, "a.b.f": false, ".a.f": false, "a.f.": false, "a.f..": false,
		"A.f": false, "a.F": false, "1.f": false, "a.1": false, "_a.f": false, "a._f": false, "a.f ": false, " a.f": false, "a .f": false, "a. f": false, "a-.f": false, "a.f-": false, "a.f\n": false, "a.\xff": false, "é.f": false, "a.é": false, "a,f": false, "a.f\x00": false,
		twelve + "a.f": false, "a." + twelve + "a": false, twelve + twelve: false, twelve: false, "a." + strings.Repeat("f", 10000): false,
	}
}

// P7.1: the function's name.
func TestName(t *testing.T) {
	for name, is := range names() {
		if is {
			right(t, code(name, nil, 1, 0, ret(0)), api.OK, -1)
			continue
		}
		right(t, code(name, nil, 1, 0, ret(0)), api.ErrForm, -1)
	}
}

// P7.1: how many parameters there are, and their lengths.
func TestParams(t *testing.T) {
	for n := range 7 {
		right(t, code("a.f", make([]api.Type, n), 7, 0, ret(0)), api.OK, -1)
		right(t, code("a.f", slices.Repeat(params(16), n), 1, 4096, ret(0)), api.OK, -1)
	}
	for _, n := range []int{7, 8, 100} {
		right(t, code("a.f", make([]api.Type, n), 100, 0, ret(0)), api.ErrForm, -1)
		right(t, code("a.f", slices.Repeat(params(1), n), 1, 4096, ret(0)), api.ErrForm, -1)
	}
	for n, want := range map[int]api.Errno{-1: api.ErrForm, 0: api.OK, 1: api.OK, 15: api.OK, 16: api.OK, 17: api.ErrForm, 64: api.ErrForm, math.MinInt: api.ErrForm, math.MaxInt: api.ErrForm} {
		for i := range 6 {
			for _, other := range []int{0, 3} {
				p := slices.Repeat(params(other), 6)
				p[i].Len = n
				right(t, code("a.f", p, 10, 100, ret(0)), want, -1)
				right(t, code("a.f", p[:i+1], 10, 100, ret(0)), want, -1)
				p[i].Sec = true
				right(t, code("a.f", p, 10, 100, ret(0)), want, -1)
			}
		}
	}
	// Lengths that make up for one another are still none, nor are such whose sum is beyond an int.
	right(t, code("a.f", params(-1, 16), 10, 15, ret(0)), api.ErrForm, -1)
	right(t, code("a.f", params(17, -1), 10, 16, ret(0)), api.ErrForm, -1)
	right(t, code("a.f", params(math.MaxInt, math.MaxInt, 2), 10, 100, ret(0)), api.ErrForm, -1)
}

// P7.1: how many registers there are.
func TestRegs(t *testing.T) {
	for words := range 7 {
		p := make([]api.Type, words)
		for i := range 7 - words {
			// Arrays need no registers.
			all := append(slices.Clone(p), slices.Repeat(params(2), max(i-1, 0))...)
			slices.Reverse(all)
			right(t, code("a.f", all, words-1, 20, ret(0)), api.ErrForm, -1)
			if words > 0 {
				right(t, code("a.f", all, words, 20, ret(0)), api.OK, -1)
			}
			right(t, code("a.f", all, words+1, 20, ret(words)), api.OK, -1)
		}
	}
	for regs, want := range map[int]api.Errno{math.MinInt: api.ErrForm, -1: api.ErrForm, 1: api.OK, 2001: api.OK, 9999: api.OK, 10000: api.OK, 10001: api.ErrForm, math.MaxInt: api.ErrForm} {
		right(t, code("a.f", nil, regs, 0, ret(0)), want, -1)
	}
	right(t, code("a.f", nil, 10000, 0, copied(9999, 9999), ret(9999)), api.OK, -1)
	// No registers may be had, but then there is no IRet.
	right(t, code("a.f", nil, 0, 0, ret(0)), api.ErrReg, 0)
	right(t, code("a.f", params(3), 0, 3, ret(0)), api.ErrReg, 0)
	right(t, code("a.f", nil, 0, 0, jump(1), ret(0)), api.ErrReg, 1)
}

// P7.1: how many cells there are.
func TestCells(t *testing.T) {
	for _, p := range [][]api.Type{params(), params(0), params(0, 0, 0), params(1), params(16), params(0, 5), params(5, 0), params(1, 2, 3), params(4, 0, 4, 0, 4), params(16, 16, 16, 16, 16, 16)} {
		sum := 0
		for _, x := range p {
			sum += x.Len
		}
		right(t, code("a.f", p, 6, sum-1, ret(0)), api.ErrForm, -1)
		right(t, code("a.f", p, 6, sum, ret(0)), api.OK, -1)
		right(t, code("a.f", p, 6, sum+1, ret(0)), api.OK, -1)
		right(t, code("a.f", p, 6, 4095, ret(0)), api.OK, -1)
		right(t, code("a.f", p, 6, 4096, ret(0)), api.OK, -1)
		right(t, code("a.f", p, 6, 4097, ret(0)), api.ErrForm, -1)
		right(t, code("a.f", p, 6, -1, ret(0)), api.ErrForm, -1)
		right(t, code("a.f", p, 6, math.MinInt, ret(0)), api.ErrForm, -1)
		right(t, code("a.f", p, 6, math.MaxInt, ret(0)), api.ErrForm, -1)
	}
}

// P7.1: how many instructions there are.
func TestLength(t *testing.T) {
	for n, want := range map[int]api.Errno{0: api.ErrForm, 1: api.OK, 2: api.OK, 2000: api.OK, 2001: api.OK, 9999: api.OK, 10000: api.OK, 10001: api.ErrForm, 20000: api.ErrForm} {
		right(t, alone(slices.Repeat([]api.Ir{ret(0)}, n)...), want, -1)
	}
	c := alone()
	c.L = nil
	right(t, c, api.ErrForm, -1)
	right(t, api.Code{}, api.ErrForm, -1)
	// Wrong ones among too many are not looked at; the last of as many as may be is.
	l := slices.Repeat([]api.Ir{number(0, 1)}, 10001)
	right(t, alone(l...), api.ErrForm, -1)
	right(t, alone(l[:10000]...), api.ErrEnd, 9999)
	l[0].Kind = 0
	right(t, alone(l...), api.ErrForm, -1)
}

// P7.1: ErrForm goes ahead of whatever is wrong with instructions.
func TestFormFirst(t *testing.T) {
	bad := []api.Ir{{}, {Kind: api.IBin}, copied(-1, 9), load(0, 9), jump(0), number(0, 0)}
	for _, x := range bad {
		for _, c := range []api.Code{
			code("a", nil, 4, 4, x), code("a.f", make([]api.Type, 7), 7, 4, x), code("a.f", params(17), 4, 17, x), code("a.f", params(-1), 4, 4, x), code("a.f", params(0, 0), 1, 4, x),
			code("a.f", nil, 10001, 4, x), code("a.f", params(3), 4, 2, x), code("a.f", nil, 4, 4097, x), code("a.f", nil, 4, 4, slices.Repeat([]api.Ir{x}, 10001)...),
		} {
			right(t, c, api.ErrForm, -1)
		}
		if e, at := Right(alone(x)); e == api.OK || e == api.ErrForm || at != 0 {
			t.Errorf("%+v: %d at %d", x, e, at)
		}
	}
}

// fine are instructions at the place 0 with which nothing is wrong, one of each kind.
func fine() []api.Ir {
	return []api.Ir{number(1, 9), copied(1, 2), reckon(api.Add, 1, 2, 3), pick(1, 2, 3, 0), load(1, 2), store(2, 1), call(1, "a.g", 2, 3), jump(2), zero(1, 2), ret(1)}
}

// at asks what is wrong with an instruction that stands first, and in the middle of others; its C, if it is a place, is meant for the first place.
func at(t testing.TB, x api.Ir, want api.Errno) {
	t.Helper()
	for _, ahead := range []int{0, 1, 3} {
		y := x
		if x.Kind == api.IJump || x.Kind == api.IZero {
			y.C += ahead
		}
		l := append(slices.Repeat([]api.Ir{number(0, 0)}, ahead), y, ret(0), ret(0))
		if want == api.OK {
			right(t, alone(l...), want, -1)
			continue
		}
		right(t, alone(l...), want, ahead)
	}
}

// P7.1: kinds and ops that are none.
func TestKindsAndOps(t *testing.T) {
	for i, x := range fine() {
		if x.Kind != i+1 {
			t.Fatal(x)
		}
		at(t, x, api.OK)
		for _, kind := range []int{math.MinInt, -10, -1, 0, 11, 12, 256 + 1, 1<<32 + 1, math.MaxInt} {
			y := x
			y.Kind = kind
			at(t, y, api.ErrOp)
		}
		for op := -3; op < 20; op++ {
			y := x
			y.Op = op
			if x.Kind == api.IBin && (op < 1 || op > 10) {
				at(t, y, api.ErrOp)
				continue
			}
			at(t, y, api.OK)
		}
	}
	for _, op := range []int{math.MinInt, math.MaxInt, 256 + 1, 1<<32 + 1} {
		at(t, reckon(op, 0, 0, 0), api.ErrOp)
	}
}

// P7.1: what is called; of no other kind it matters.
func TestCalls(t *testing.T) {
	for name, is := range names() {
		for _, x := range fine() {
			x.Name = name
			if x.Kind == api.ICall && !is {
				at(t, x, api.ErrOp)
				continue
			}
			at(t, x, api.OK)
		}
	}
	for n := range 12 {
		for _, x := range fine() {
			x.Args = make([]int, n)
			if x.Kind == api.ICall && n > 6 {
				at(t, x, api.ErrOp)
				continue
			}
			at(t, x, api.OK)
		}
	}
	at(t, call(0, "none.none"), api.OK)
	at(t, call(0, "a.f", 0), api.OK)
}

// registersOf tells, by letters, which registers each kind reads or writes; s are its Args.
func registersOf(kind int) string {
	return []string{"", "D", "DA", "DAB", "DABC", "D", "A", "Ds", "", "A", "A"}[kind]
}

// P7.1: registers that are read, or written, and such as are not.
func TestRegisters(t *testing.T) {
	for n, is := range map[int]bool{math.MinInt: false, -2: false, -1: false, 0: true, 1: true, 3: true, 4: false, 5: false, 1 << 32: false, math.MaxInt: false} {
		for _, x := range fine() {
			for i, field := range []*int{&x.D, &x.A, &x.B, &x.C} {
				letter := "DABC"[i : i+1]
				if letter == "C" && (x.Kind == api.IJump || x.Kind == api.IZero) {
					continue
				}
				before := *field
				*field = n
				if !is && strings.Contains(registersOf(x.Kind), letter) {
					at(t, x, api.ErrReg)
				} else {
					at(t, x, api.OK)
				}
				*field = before
			}
			for i := range 6 {
				for _, more := range []int{0, 5 - i} {
					y := x
					y.Args = append(slices.Repeat([]int{3}, i), n)
					y.Args = append(y.Args, make([]int, more)...)
					if !is && x.Kind == api.ICall {
						at(t, y, api.ErrReg)
					} else {
						at(t, y, api.OK)
					}
				}
			}
		}
	}
	// All that are not read or written at once.
	for _, x := range fine() {
		for i, field := range []*int{&x.D, &x.A, &x.B, &x.C} {
			letter := "DABC"[i : i+1]
			if !strings.Contains(registersOf(x.Kind), letter) && (letter != "C" || x.Kind != api.IJump && x.Kind != api.IZero) {
				*field = -1
			}
		}
		if x.Kind != api.ICall {
			x.Args = []int{-1, 4, -1, 4, -1, 4, -1, 4}
			x.Name = "?"
		}
		if x.Kind != api.IBin {
			x.Op = -1
		}
		if x.Kind != api.ILoad && x.Kind != api.IStore {
			x.N = math.MaxUint32
		}
		at(t, x, api.OK)
	}
}

// P7.1: the cells.
func TestAddresses(t *testing.T) {
	for n, is := range map[uint32]bool{0: true, 1: true, 3: true, 4: false, 5: false, 4096: false, math.MaxInt32: false, math.MaxInt32 + 1: false, math.MaxUint32: false} {
		for _, x := range fine() {
			x.N = n
			if !is && (x.Kind == api.ILoad || x.Kind == api.IStore) {
				at(t, x, api.ErrAddr)
				continue
			}
			at(t, x, api.OK)
		}
	}
	for cells, n := range map[int]uint32{0: 0, 1: 1, 16: 16, 4096: 4096} {
		for _, x := range []api.Ir{load(0, n), store(n, 0)} {
			right(t, code("a.f", nil, 1, cells, x, ret(0)), api.ErrAddr, 0)
			if cells > 0 {
				x.N--
				right(t, code("a.f", nil, 1, cells, x, ret(0)), api.OK, -1)
			}
		}
	}
	right(t, code("a.f", params(2, 3), 1, 5, load(0, 4), ret(0)), api.OK, -1)
	right(t, code("a.f", params(2, 3), 1, 5, load(0, 5), ret(0)), api.ErrAddr, 0)
}

// P7.1: where jumps go.
func TestJumps(t *testing.T) {
	for n := 1; n < 6; n++ {
		for i := range n {
			for _, c := range []int{math.MinInt, -1, 0, 1, 2, 3, 4, 5, 6, math.MaxInt} {
				for _, x := range []api.Ir{jump(c), zero(0, c)} {
					l := slices.Repeat([]api.Ir{ret(0)}, n)
					l[i] = x
					if c > i && c < n {
						right(t, alone(l...), api.OK, -1)
						continue
					}
					right(t, alone(l...), api.ErrJump, i)
				}
			}
		}
	}
	l := slices.Repeat([]api.Ir{ret(0)}, 10000)
	l[0] = jump(9999)
	right(t, alone(l...), api.OK, -1)
	l[0] = jump(10000)
	right(t, alone(l...), api.ErrJump, 0)
	right(t, alone(jump(1), zero(0, 2), jump(3), ret(0)), api.OK, -1)
}

// P7.1: the last one; one that nothing comes to is asked the same.
func TestEnd(t *testing.T) {
	for _, x := range fine() {
		want := api.ErrEnd
		switch x.Kind {
		case api.IJump, api.IZero:
			want = api.ErrJump
		case api.IRet:
			right(t, alone(x), api.OK, -1)
			right(t, alone(ret(0), x), api.OK, -1)
			continue
		}
		right(t, alone(x), want, 0)
		right(t, alone(ret(0), ret(0), x), want, 2)
		right(t, alone(number(0, 0), jump(3), number(0, 0), ret(0), x), want, 4)
	}
}

// P7.1: of several grounds at one instruction the first that is named is told.
func TestFirstGround(t *testing.T) {
	// Each has a ground more than the one behind it.
	for _, l := range [][]struct {
		x    api.Ir
		want api.Errno
	}{
		{{reckon(0, 4, 4, 4), api.ErrOp}, {reckon(1, 4, 0, 0), api.ErrReg}, {reckon(1, 0, 4, 0), api.ErrReg}, {reckon(1, 0, 0, 4), api.ErrReg}, {reckon(1, 0, 0, 0), api.ErrEnd}},
		{{load(-1, 4), api.ErrReg}, {load(0, 4), api.ErrAddr}, {load(0, 3), api.ErrEnd}},
		{{store(4, -1), api.ErrReg}, {store(4, 0), api.ErrAddr}, {store(3, 0), api.ErrEnd}},
		{{call(4, "a.f", 0, 0, 0, 0, 0, 0, 4), api.ErrOp}, {call(4, "a", 4), api.ErrOp}, {call(4, "a.f"), api.ErrReg}, {call(0, "a.f", 0, -1), api.ErrReg}, {call(0, "a.f", 0), api.ErrEnd}},
		{{zero(4, 0), api.ErrReg}, {zero(0, 0), api.ErrJump}, {zero(0, 1), api.ErrJump}},
		{{jump(0), api.ErrJump}, {jump(1), api.ErrJump}},
		{{api.Ir{D: -1, A: -1, B: -1, C: -1, N: 9, Args: []int{-1}}, api.ErrOp}, {api.Ir{Kind: 11, D: -1, A: -1, B: -1, C: -1, N: 9}, api.ErrOp}},
		{{copied(4, 0), api.ErrReg}, {copied(0, 4), api.ErrReg}, {pick(0, 0, 0, 4), api.ErrReg}, {pick(4, 4, 4, 4), api.ErrReg}, {number(4, 0), api.ErrReg}, {number(0, 0), api.ErrEnd}},
		{{ret(4), api.ErrReg}, {ret(-1), api.ErrReg}},
	} {
		for _, c := range l {
			right(t, alone(c.x), c.want, 0)
		}
	}
}

// P7.1: of several instructions the first one's ground is told, whichever those behind it have.
func TestFirstInstruction(t *testing.T) {
	bad := []struct {
		x    api.Ir
		want api.Errno
	}{{api.Ir{}, api.ErrOp}, {reckon(11, 0, 0, 0), api.ErrOp}, {call(0, "f"), api.ErrOp}, {copied(0, 4), api.ErrReg}, {load(0, 4), api.ErrAddr}, {jump(-1), api.ErrJump}, {zero(0, 0), api.ErrJump}}
	for _, first := range bad {
		for _, second := range append(bad, bad[0]) {
			right(t, alone(first.x, second.x, ret(0)), first.want, 0)
			right(t, alone(ret(0), first.x, number(1, 1), second.x, ret(0)), first.want, 1)
			right(t, alone(number(0, 0), copied(1, 0), first.x, second.x), first.want, 2)
			right(t, alone(number(0, 0), ret(0), number(0, 0), first.x, number(0, 0)), first.want, 3)
		}
	}
}

// P7.1, R3: what is asked stays as it is, at every ground.
func TestRightChangesNothing(t *testing.T) {
	for _, x := range fine() {
		for _, c := range []api.Code{code("a.f", params(0, 2), 4, 4, x, ret(0), ret(0)), code("a.f", params(0, 2), 1, 2, x, ret(0), ret(0)), code("a", params(0, 2), 4, 4, x)} {
			before := copyOf([]api.Code{c})
			e, place := Right(c)
			same(t, []api.Code{c}, before)
			right(t, c, e, place)
		}
	}
}

package dead

import (
	"fmt"
	"math/rand"
	"slices"
	"testing"

	"carling/api"
	"carling/irun"
)

// alike asks that what is told with OK of a list is told of another one, too: the outcome and the branches. It tells whether it was OK.
func alike(t testing.TB, l, m []api.Code, name string, args []uint32) bool {
	t.Helper()
	o, b, e := irun.Run(l, name, args)
	if e != api.OK {
		return false
	}
	p, c, f := irun.Run(m, name, args)
	if f != api.OK || o.Result != p.Result || !slices.Equal(o.Arrays, p.Arrays) || !slices.Equal(b, c) {
		for i := range l {
			t.Logf("%s: became %s", lines(l[i]), lines(m[i]))
		}
		t.Fatalf("%q of %d: %+v, %d; freed of what is dead %+v, %d, %d", name, args, o, b, p, c, f)
	}
	return true
}

// settled asks what holds of a function that was freed of what is dead: freed again it is itself, and all that it reads is read as it was.
func settled(t testing.TB, c, d api.Code) {
	t.Helper()
	drops(t, d, d.L...)
	if l, m := Read(c, 0), Read(d, 0); !slices.Equal(l, m) {
		t.Fatalf("%s: reads %d; freed of what is dead it reads %d", lines(c), l, m)
	}
}

// ways are lists in which one function is freed of what is dead, and the list in which all are.
func ways(t testing.TB, l []api.Code) [][]api.Code {
	t.Helper()
	var out [][]api.Code
	all := slices.Clone(l)
	for i, c := range l {
		all[i] = dropping(t, c)
		settled(t, c, all[i])
		one := slices.Clone(l)
		one[i] = all[i]
		out = append(out, one)
	}
	return append(out, all)
}

// P10.3: functions made by chance, with branches, calls and arrays.
func TestTheorem(t *testing.T) {
	m := maker{rand.New(rand.NewSource(12))}
	fine, shorter, branched, filled, calling := 0, 0, 0, 0, 0
	for range 3000 {
		l := m.list()
		for _, other := range ways(t, l) {
			for i, c := range l {
				args := m.args(c)
				if !alike(t, l, other, c.Name, args) {
					continue
				}
				fine++
				o, b, _ := irun.Run(other, c.Name, args)
				shorter += min(1, len(c.L)-len(other[i].L))
				branched += min(1, len(b))
				filled += min(1, len(o.Arrays))
				if slices.ContainsFunc(other[i].L, func(x api.Ir) bool { return x.Kind == api.ICall }) {
					calling++
				}
			}
		}
	}
	if fine < 10000 || shorter < 5000 || branched < 3000 || filled < 3000 || calling < 3000 {
		t.Error(fine, shorter, branched, filled, calling)
	}
}

// kinds are functions in which each kind of instruction stands, with what is dead ahead of it, behind it and on its ways; a.f is the one to be run.
func kinds() [][]api.Code {
	g := code("a.g", params(0), 4, 1, number(3, 7), number(1, 10), reckon(api.Mul, 1, 1, 1), copied(3, 1), store(0, 1), load(2, 0), reckon(api.Add, 0, 0, 2), load(3, 0), ret(0))
	f := func(l ...api.Ir) []api.Code {
		c := code("a.f", params(0, 2), 8, 4, append(append([]api.Ir{number(1, 5), copied(7, 0), copied(2, 1)}, l...), reckon(api.Add, 0, 0, 3), copied(6, 3), reckon(api.Xor, 0, 0, 2), ret(0))...)
		return []api.Code{c, g}
	}
	return [][]api.Code{
		f(number(3, 4)), f(copied(3, 2)), f(copied(3, 0)), f(load(3, 0)), f(store(1, 2), copied(3, 2)), f(call(3, "a.g", 0)), f(call(5, "a.g", 2)),
		f(jump(5), copied(3, 1), copied(3, 2)), f(jump(4), copied(5, 1), copied(3, 2)), f(jump(6), store(0, 0), copied(5, 1), copied(5, 2), copied(3, 2)),
		f(zero(0, 6), copied(3, 1), jump(7), reckon(api.Add, 3, 1, 1)), f(zero(0, 6), copied(5, 1), jump(7), reckon(api.Add, 5, 1, 1)), f(zero(0, 5), copied(5, 1), copied(5, 1), copied(3, 2)),
		f(zero(3, 5), copied(3, 2), copied(3, 3)), f(zero(0, 5), ret(2), copied(3, 2)), f(zero(0, 5), ret(7), copied(5, 2), store(0, 2), load(3, 0)), f(zero(0, 5), number(3, 1), number(5, 1)),
		f(pick(3, 0, 1, 2)), f(pick(5, 1, 0, 2)), f(pick(3, 4, 2, 1)), f(reckon(api.Sub, 3, 2, 0), pick(3, 2, 3, 0)), f(reckon(api.Lt, 3, 2, 1), pick(5, 3, 0, 2), store(0, 3)),
		f(load(1, 1), copied(2, 1), copied(3, 2)), f(call(2, "a.g", 1), copied(3, 2)), f(number(4, 1), number(4, 2), copied(5, 4), copied(5, 4), call(3, "a.g", 4)),
	}
}

// P10.3: functions of every kind of instruction, with arguments of several kinds.
func TestKinds(t *testing.T) {
	met := [api.IRet + 1]int{}
	for _, l := range kinds() {
		for _, other := range ways(t, l) {
			for _, args := range [][]uint32{{0, 0, 0}, {1, 2, 3}, {5, 0, 7}, {1 << 31, 1 << 31, 9}} {
				if !alike(t, l, other, "a.f", args) {
					t.Fatalf("%s: does not end with OK", lines(l[0]))
				}
			}
			if !alike(t, l, other, "a.g", []uint32{6}) {
				t.Fatalf("%s: does not end with OK", lines(l[1]))
			}
		}
		if d := dropping(t, l[0]); len(d.L) == len(l[0].L) {
			t.Errorf("nothing is dead of %s", lines(l[0]))
		}
		for _, x := range l[0].L {
			met[x.Kind]++
		}
	}
	for kind := api.IConst; kind <= api.IRet; kind++ {
		if met[kind] == 0 {
			t.Error(kind)
		}
	}
}

// P10.3: an instruction that is dead may be the one to which all ways go, and there may be nothing but dead ones between a branch and the end.
func TestWaysMeet(t *testing.T) {
	c := code("a.f", params(0, 1), 4, 2, zero(0, 3), store(0, 0), jump(4), number(1, 1), number(2, 2), copied(3, 2), zero(0, 8), number(1, 3), load(1, 1), ret(0))
	drops(t, c, zero(0, 3), store(0, 0), jump(3), zero(0, 4), ret(0))
	for _, other := range ways(t, []api.Code{c}) {
		for _, n := range []uint32{0, 1, 7} {
			if !alike(t, []api.Code{c}, other, "a.f", []uint32{n, 9}) {
				t.Error(n)
			}
		}
	}
}

// busy is a function of a word that goes through n instructions, these among them; the others are dead, but the last one.
func busy(name string, n int, l ...api.Ir) api.Code {
	c := code(name, params(0), 4, 1, l...)
	for len(c.L) < n-1 {
		c.L = append(c.L, []api.Ir{reckon(api.Mul, 2, 1, 1), copied(1, 2), load(3, 0)}[len(c.L)%3])
	}
	c.L = append(c.L, ret(0))
	return c
}

// P10.3: runs of 60000 instructions, most of which are dead.
func TestFuel(t *testing.T) {
	calls := append(slices.Repeat([]api.Ir{call(0, "a.most", 0)}, 5), call(0, "a.rest", 0))
	for rest, want := range map[int]bool{4999: true, 5000: true, 5001: false} {
		l := []api.Code{busy("a.f", 5000, calls...), busy("a.most", 10000), busy("a.rest", rest)}
		for _, other := range ways(t, l) {
			if alike(t, l, other, "a.f", []uint32{7}) != want {
				t.Errorf("%d: not %t", rest, want)
			}
		}
		drops(t, l[0], append(calls, ret(0))...)
		drops(t, l[1], ret(0))
	}
}

// P10.3: calls within one another, as deep as they may be, with what is dead ahead of them and behind; a call of which nothing reads the result is as deep.
func TestDepth(t *testing.T) {
	l := []api.Code{code("a.f0", params(0), 3, 0, number(1, 4), reckon(api.Add, 0, 0, 1), copied(2, 1), ret(0))}
	for i := range 34 {
		l = append(l, code(fmt.Sprintf("a.f%d", i+1), params(0), 3, 0, number(1, 2), copied(2, 1), reckon(api.Add, 0, 0, 1), call(i%2*2, fmt.Sprintf("a.f%d", i), 0), number(2, 1), ret(0)))
	}
	for _, other := range ways(t, l)[30:] {
		for i := range l {
			name := fmt.Sprintf("a.f%d", i)
			if alike(t, l, other, name, []uint32{7}) != (i <= api.MaxDepth) {
				t.Errorf("%d: not so deep", i)
			}
			if _, _, e := irun.Run(other, name, []uint32{7}); (e == api.ErrFuel) != (i > api.MaxDepth) {
				t.Errorf("%d: %d", i, e)
			}
		}
	}
}

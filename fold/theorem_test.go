package fold

import (
	"fmt"
	"math/rand"
	"slices"
	"testing"

	"carling/api"
	"carling/irun"
)

// alike asks that the same comes of two lists, whatever it is.
func alike(t testing.TB, l, m []api.Code, name string, args []uint32) api.Errno {
	t.Helper()
	o, b, e := irun.Run(l, name, args)
	p, c, f := irun.Run(m, name, args)
	if e != f || o.Result != p.Result || !slices.Equal(o.Arrays, p.Arrays) || !slices.Equal(b, c) {
		t.Fatalf("%q of %d: %+v, %d, %d; folded %+v, %d, %d", name, args, o, b, e, p, c, f)
	}
	return e
}

// settled asks what holds of a function and of what it is, folded: as many instructions, those that jump, call, load, store and end it the same; and folded again it is itself.
func settled(t testing.TB, c, d api.Code) {
	t.Helper()
	if len(c.L) != len(d.L) {
		t.Fatalf("%s: %s", lines(c), lines(d))
	}
	for i, x := range c.L {
		if x.Kind != api.ICopy && x.Kind != api.IBin && x.Kind != api.ISel && !equal(x, d.L[i]) {
			t.Fatalf("%d of %s: %s", i, lines(c), lines(d))
		}
		if y := d.L[i]; !equal(x, y) && !equal(y, number(x.D, y.N)) {
			t.Fatalf("%d of %s: %s", i, lines(c), lines(d))
		}
	}
	if Known(d) < Known(c) {
		t.Fatalf("%s: %s", lines(c), lines(d))
	}
	if again := folding(t, d); !equalCode(again, d) {
		t.Fatalf("%s: folded again: %s", lines(d), lines(again))
	}
}

// ways are lists in which one function is folded, and the list in which all are.
func ways(t testing.TB, l []api.Code) [][]api.Code {
	t.Helper()
	var out [][]api.Code
	all := slices.Clone(l)
	for i, c := range l {
		all[i] = folding(t, c)
		settled(t, c, all[i])
		one := slices.Clone(l)
		one[i] = all[i]
		out = append(out, one)
	}
	return append(out, all)
}

// P9.2: functions made by chance, with branches, calls and arrays: what irun.Run tells of them is told of them with one folded, and with all folded.
func TestTheorem(t *testing.T) {
	m := maker{rand.New(rand.NewSource(11))}
	seen, changed, branched, filled := map[api.Errno]int{}, 0, 0, 0
	for range 3000 {
		l := m.list()
		for _, other := range ways(t, l) {
			for i, c := range l {
				args := m.args(c)
				e := alike(t, l, other, c.Name, args)
				seen[e]++
				o, b, _ := irun.Run(other, c.Name, args)
				branched += min(1, len(b))
				filled += min(1, len(o.Arrays))
				if e == api.OK && !equalCode(c, other[i]) {
					changed++
				}
			}
			seen[alike(t, l, other, anyOf(m, "a.none", "", "f0"), nil)]++
			twice := append(slices.Clone(other), l[0])
			seen[alike(t, append(slices.Clone(l), l[0]), twice, l[0].Name, nil)]++
		}
	}
	for _, e := range []api.Errno{api.OK, api.ErrArg, api.ErrName, api.ErrType, api.ErrNone, api.ErrTwice} {
		if seen[e] < 300 {
			t.Errorf("%d was met %d times", e, seen[e])
		}
	}
	if changed < 3000 || branched < 3000 || filled < 1000 {
		t.Error(changed, branched, filled)
	}
}

// kinds are functions in which each kind of instruction stands, ahead of and behind what is folded; a.f is the one to be run.
func kinds() [][]api.Code {
	g := code("a.g", params(0), 3, 1, number(1, 10), reckon(api.Mul, 1, 1, 1), store(0, 1), load(2, 0), reckon(api.Add, 0, 0, 2), ret(0))
	f := func(l ...api.Ir) []api.Code {
		return []api.Code{code("a.f", params(0, 2), 8, 4, append(append([]api.Ir{number(1, 5), copied(2, 1)}, l...), reckon(api.Add, 0, 0, 3), reckon(api.Xor, 0, 0, 2), ret(0))...), g}
	}
	return [][]api.Code{
		f(number(3, 4)), f(copied(3, 2)), f(copied(3, 0)), f(load(3, 0)), f(store(1, 2), copied(3, 2)), f(call(3, "a.g", 0)), f(call(3, "a.g", 2)), f(jump(4), copied(3, 1), copied(3, 2)),
		f(zero(0, 5), copied(3, 1), jump(6), reckon(api.Add, 3, 1, 1)), f(zero(1, 4), copied(3, 2), copied(3, 3)), f(zero(3, 4), copied(3, 2), copied(3, 3)), f(zero(0, 4), ret(2), copied(3, 2)),
		f(pick(3, 0, 1, 2)), f(pick(3, 1, 0, 2)), f(pick(3, 4, 2, 1)), f(reckon(api.Sub, 3, 2, 0), pick(3, 2, 3, 0)), f(reckon(api.Lt, 3, 2, 1), pick(3, 3, 0, 2), store(0, 3)),
		f(call(3, "a.none", 0)), f(call(3, "a.g")), f(call(3, "a.f", 0)), f(load(1, 1), copied(2, 1), copied(3, 2)), f(call(2, "a.g", 1), copied(3, 2)),
	}
}

// P9.2: functions of every kind of instruction, with arguments of several kinds.
func TestKinds(t *testing.T) {
	met, seen := [api.IRet + 1]int{}, map[api.Errno]int{}
	for _, l := range kinds() {
		for _, other := range ways(t, l) {
			for _, args := range [][]uint32{{0, 0, 0}, {1, 2, 3}, {5, 0, 7}, {1 << 31, 1 << 31, 9}, {}, {1, 2}} {
				seen[alike(t, l, other, "a.f", args)]++
			}
			seen[alike(t, l, other, "a.g", []uint32{6})]++
		}
		if Known(folding(t, l[0])) <= Known(l[0]) {
			t.Errorf("nothing is folded of %s", lines(l[0]))
		}
		for _, x := range l[0].L {
			met[x.Kind]++
		}
	}
	for kind := api.IConst; kind <= api.IRet; kind++ {
		if met[kind] == 0 {
			t.Error(kind)
		}
	}
	for _, e := range []api.Errno{api.OK, api.ErrArg, api.ErrName, api.ErrType} {
		if seen[e] == 0 {
			t.Error(e, seen)
		}
	}
}

// busy is a function of a word that goes through n instructions, these among them; all others but the last one are folded.
func busy(name string, n int, l ...api.Ir) api.Code {
	c := code(name, params(0), 4, 0, append([]api.Ir{number(1, 3), number(2, 5)}, l...)...)
	for len(c.L) < n-1 {
		c.L = append(c.L, []api.Ir{reckon(api.Mul, 2, 1, 1), copied(1, 2)}[len(c.L)%2])
	}
	c.L = append(c.L, ret(2))
	return c
}

// P9.2: runs of 60000 instructions, and of one more, most of which are folded.
func TestFuel(t *testing.T) {
	calls := append(slices.Repeat([]api.Ir{call(3, "a.most", 1)}, 5), call(3, "a.rest", 0))
	for rest, want := range map[int]api.Errno{4998: api.OK, 4999: api.OK, 5000: api.OK, 5001: api.ErrFuel, 5002: api.ErrFuel} {
		l := []api.Code{busy("a.f", 5000, calls...), busy("a.most", 10000), busy("a.rest", rest)}
		for _, other := range ways(t, l) {
			if e := alike(t, l, other, "a.f", []uint32{1}); e != want {
				t.Errorf("%d: %d; not %d", rest, e, want)
			}
		}
		if n := Known(folding(t, l[1])); n != 9999 {
			t.Error(n)
		}
	}
}

// P9.2: calls within one another, as deep as they may be, and one deeper, made of what is known.
func TestDepth(t *testing.T) {
	l := []api.Code{code("a.f0", params(0), 3, 0, number(1, 4), reckon(api.Mul, 2, 1, 1), reckon(api.Add, 0, 0, 2), ret(0))}
	for i := range 34 {
		l = append(l, code(fmt.Sprintf("a.f%d", i+1), params(0), 3, 0, number(1, 2), copied(2, 1), reckon(api.Add, 0, 0, 2), call(0, fmt.Sprintf("a.f%d", i), 0), ret(0)))
	}
	for _, other := range ways(t, l)[30:] {
		for i := range l {
			want := api.OK
			if i > api.MaxDepth {
				want = api.ErrFuel
			}
			if e := alike(t, l, other, fmt.Sprintf("a.f%d", i), []uint32{7}); e != want {
				t.Errorf("%d: %d", i, e)
			}
		}
	}
}

package span

import (
	"math"
	"slices"
	"testing"

	"carling/api"
	"carling/irun"
)

// ends are places below 0, all of those of n instructions, and such as are past the last one.
func ends(n int) []int {
	l := []int{math.MinInt, math.MinInt + 1, -100, 1 << 40, math.MaxInt - 1, math.MaxInt}
	for at := -3; at < n+4; at++ {
		l = append(l, at)
	}
	return l
}

// calling asks of all spans whether a call stands within, which stand at these places and nowhere else.
func calling(t testing.TB, c api.Code, places ...int) {
	t.Helper()
	before := copyOf(c)
	for _, least := range ends(len(c.L)) {
		for _, greatest := range ends(len(c.L)) {
			s := [2]int{least, greatest}
			want := slices.ContainsFunc(places, func(at int) bool { return at > least && at < greatest })
			if Calls(c, s) != want {
				t.Errorf("%s: of %d: not %t", lines(c), s, want)
			}
		}
	}
	if !equalCode(c, before) {
		t.Errorf("%s: was handed in as %s", lines(c), lines(before))
	}
}

// P11.1: calls at the ends of a span, next to them, within, and outside.
func TestCallsAtEnds(t *testing.T) {
	c := alone(number(1, 1), number(2, 1), number(3, 1), call(4, "a.g"), number(5, 1), number(6, 1))
	for s, want := range map[[2]int]bool{
		{3, 6}: false, {0, 3}: false, {2, 4}: true, {2, 6}: true, {0, 4}: true, {0, 6}: true, {4, 6}: false, {0, 2}: false,
		{-1, 4}: true, {-1, 3}: false, {-1, 2}: false, {-1, -1}: false, {3, 3}: false, {2, 2}: false, {4, 2}: false, {6, 0}: false, {3, 4}: false, {2, 3}: false,
		{-1, 100}: true, {-100, 100}: true, {3, 100}: false, {-100, 3}: false, {100, 200}: false, {-9, -5}: false, {math.MinInt, math.MaxInt}: true, {math.MaxInt, math.MinInt}: false,
	} {
		if Calls(c, s) != want {
			t.Errorf("%d: not %t", s, want)
		}
	}
	// The first place is within a span that begins at -1.
	c = alone(call(1, "a.g"))
	if !Calls(c, [2]int{-1, 1}) || Calls(c, [2]int{0, 1}) || Calls(c, [2]int{-1, 0}) {
		t.Error(lines(c))
	}
}

// P11.1: no call, one, two, and nothing but calls, of all spans.
func TestCallsAnywhere(t *testing.T) {
	c := alone(number(1, 1), copied(2, 1), jump(3), zero(1, 5), store(0, 2))
	calling(t, c)
	for i := range c.L {
		d := copyOf(c)
		d.L[i] = call(i, "a.g", 1)
		calling(t, d, i)
		for k := range i {
			e := copyOf(d)
			e.L[k] = call(7, "b.g")
			calling(t, e, k, i)
		}
	}
	calling(t, alone(slices.Repeat([]api.Ir{call(0, "a.g", 0, 0)}, 4)...), 0, 1, 2, 3)
	// One that is jumped over, and one that no run comes to, are calls as all others.
	calling(t, alone(jump(2), call(1, "a.g"), ret(0), call(1, "a.g")), 1, 3)
}

// P11.1: of each kind of instruction ICall alone is a call, whatever the other parts say.
func TestCallsAlone(t *testing.T) {
	for kind := -3; kind < 15; kind++ {
		x := api.Ir{Kind: kind, Op: api.Add, D: 1, A: 1, B: 1, C: 3, N: 1, Name: "a.g", Args: []int{1}}
		var places []int
		if kind == api.ICall {
			places = []int{1}
		}
		calling(t, alone(number(1, 1), x, number(1, 1)), places...)
	}
	for _, kind := range []int{math.MinInt, math.MaxInt, -api.ICall, 256 + api.ICall, 1<<32 + api.ICall} {
		calling(t, alone(number(1, 1), api.Ir{Kind: kind, Name: "a.g"}, number(1, 1)))
	}
}

// P11.1: calls of functions that are not right are told as of those that are.
func TestCallsOfWrong(t *testing.T) {
	calling(t, api.Code{})
	calling(t, api.Code{Name: "a.f", Regs: 1})
	c := alone(number(1, 1), call(2, "a.g"), number(1, 1))
	for _, edit := range []func(*api.Code){
		func(c *api.Code) { c.Name = "" }, func(c *api.Code) { c.Params = params(-1, 17, 0, 0, 0, 0, 0, 0, 0) }, func(c *api.Code) { c.Regs = math.MinInt }, func(c *api.Code) { c.Regs = 1 }, func(c *api.Code) { c.Cells = -1 },
		func(c *api.Code) { c.L[0] = api.Ir{} }, func(c *api.Code) { c.L[1] = api.Ir{Kind: api.ICall} }, func(c *api.Code) { c.L[1] = call(-9, "?", 1, 2, 3, 4, 5, 6, 7, 8, -9) }, func(c *api.Code) { c.L[2] = jump(0) }, func(c *api.Code) { c.L[3] = api.Ir{} },
	} {
		d := copyOf(c)
		edit(&d)
		if e, _ := irun.Right(d); e == api.OK {
			t.Fatal(lines(d))
		}
		calling(t, d, 1)
	}
	calling(t, code("a.f", nil, 1, 0, call(0, "a.g")), 0)
	calling(t, code("a.f", nil, 1, 0, ret(0), call(0, "a.g"), call(0, "a.g")), 1, 2)
	// More instructions than a function may have.
	long := code("a.f", nil, 1, 0, slices.Repeat([]api.Ir{number(0, 1)}, 30000)...)
	long.L[25000] = call(0, "a.g")
	for s, want := range map[[2]int]bool{{-1, 30000}: true, {24999, 25001}: true, {25000, 29999}: false, {0, 25000}: false} {
		if Calls(long, s) != want {
			t.Errorf("%d: not %t", s, want)
		}
	}
}

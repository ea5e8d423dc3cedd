package span

import (
	"slices"
	"testing"

	"carling/api"
)

// P11.1: a parameter that is a word, and is never read, read once, written alone, or both; its beginning is -1 in any case.
func TestWords(t *testing.T) {
	reads, writes, other := store(0, 1), number(1, 5), load(2, 0)
	for _, c := range []struct {
		l    []api.Ir
		last int
	}{
		{nil, -1}, {[]api.Ir{other, other}, -1},
		{[]api.Ir{reads}, 0}, {[]api.Ir{other, other, reads, other}, 2}, {[]api.Ir{reads, other, reads}, 2},
		{[]api.Ir{writes}, 0}, {[]api.Ir{other, writes, other}, 1}, {[]api.Ir{writes, writes}, 1},
		{[]api.Ir{other, writes, other, reads}, 3}, {[]api.Ir{reads, other, writes}, 2}, {[]api.Ir{copied(1, 1)}, 0}, {[]api.Ir{other, copied(1, 1), other}, 1},
		{[]api.Ir{zero(1, 1)}, 0}, {[]api.Ir{jump(2), reads, other}, 1}, {[]api.Ir{other, ret(1)}, 1},
	} {
		f := alone(c.l...)
		f.Params = params(0, 0)
		l := spans(t, f)
		if want := [2]int{-1, c.last}; l[1] != want || l[0] != [2]int{-1, len(c.l)} {
			t.Errorf("%s: %d; not %d", lines(f), l, want)
		}
		f.Params = params(0)
		if l := spans(t, f); c.last >= 0 && l[1][0] < 0 || l[1][1] != c.last {
			t.Errorf("%s: %d, though it has no argument", lines(f), l[1])
		}
	}
}

// P11.1: parameters that are arrays have no register, wherever they stand among words.
func TestArrays(t *testing.T) {
	for _, p := range [][]api.Type{
		nil, params(1), params(16), params(0), params(0, 0), params(0, 0, 0, 0, 0, 0),
		params(3, 0), params(0, 3), params(3, 0, 0), params(0, 3, 0), params(0, 0, 3), params(1, 0, 2, 0, 3, 0), params(0, 1, 0, 2, 0, 3), params(1, 2, 3, 0), params(0, 16, 16, 16), params(16, 16, 16, 16, 16, 16), params(2, 2, 0, 0, 2, 2),
		{{Sec: true}, {Sec: true, Len: 4}, {Len: 4}, {Sec: true}}, {{}, {Len: 4}, {Sec: true, Len: 4}, {}},
	} {
		n := 0
		for _, x := range p {
			if x.Len == 0 {
				n++
			}
		}
		for more := range 4 {
			if n+more == 0 {
				continue
			}
			// Each register is in use, the last one first: at each place from 0 on one is.
			c := code("a.f", p, n+more, 100)
			var want [][2]int
			for r := range c.Regs {
				c.L = append(c.L, copied(c.Regs-1-r, c.Regs-1-r))
				want = append(want, [2]int{-1, c.Regs - 1 - r})
				if r >= n {
					want[r][0] = want[r][1]
				}
			}
			c.L = append(c.L, ret(0))
			want[0][1] = c.Regs
			has(t, c, want...)
			// None is, but the one that is told.
			want = slices.Repeat([][2]int{none}, c.Regs)
			want[c.Regs-1] = [2]int{1, 1}
			if more == 0 {
				want[c.Regs-1][0] = -1
			}
			has(t, code("a.f", p, c.Regs, 100, jump(1), ret(c.Regs-1)), want...)
		}
	}
}

package span

import (
	"slices"
	"testing"

	"carling/api"
)

// P11.1: the least and the greatest place are told whatever way a run goes: over them, to them, or never there.
func TestJumps(t *testing.T) {
	reads, writes := store(0, 1), number(1, 5)
	want := func(s [2]int, l ...api.Ir) {
		t.Helper()
		if got := spans(t, alone(l...))[1]; got != s {
			t.Errorf("%s: %d; not %d", lines(alone(l...)), got, s)
		}
	}
	for to := 1; to < 6; to++ {
		for _, x := range []api.Ir{jump(to), zero(7, to)} {
			want([2]int{1, 4}, x, writes, load(2, 0), load(2, 0), reads)
			want([2]int{1, 4}, x, reads, load(2, 0), load(2, 0), writes)
			want([2]int{3, 3}, x, load(2, 0), load(2, 0), writes, load(2, 0))
			want([2]int{2, 4}, x, load(2, 0), reads, reads, reads)
		}
	}
	for _, x := range []api.Ir{jump(4), zero(7, 4), zero(1, 4)} {
		least := 0
		if x.A != 1 {
			least = 1
		}
		want([2]int{least, 4}, x, writes, reads, jump(5), reads)
	}
	// Two ways: one writes it, the other one reads it.
	want([2]int{1, 3}, zero(7, 3), writes, jump(4), reads)
	want([2]int{1, 5}, zero(7, 3), writes, jump(4), writes, load(2, 0), reads)
	// Behind an IRet, and between an IJump and where it goes.
	want([2]int{0, 3}, writes, ret(7), load(2, 0), reads)
	want([2]int{2, 3}, ret(7), load(2, 0), writes, reads)
	want([2]int{1, 2}, jump(3), writes, reads, load(2, 0))
	want([2]int{0, 3}, writes, jump(4), ret(7), reads)
	want([2]int{0, 0}, zero(1, 3), load(2, 0), ret(7))
}

// P11.1: jumps that go back, and such as go nowhere, are wrong: nothing is told.
func TestJumpsBack(t *testing.T) {
	for at := range 5 {
		for to := -2; to < 9; to++ {
			for _, x := range []api.Ir{jump(to), zero(1, to)} {
				c := alone(slices.Insert([]api.Ir{number(1, 1), copied(2, 1), store(0, 2), copied(1, 1)}, at, x)...)
				if to <= at || to > 5 {
					fails(t, c, api.ErrJump)
					continue
				}
				spans(t, c)
			}
		}
	}
}

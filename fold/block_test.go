package fold

import (
	"slices"
	"testing"

	"carling/api"
)

// probes are a function of n instructions: a number is put into register 1, and all others copy it, but the last one; at its place x stands instead.
func probes(n, at int, x api.Ir) api.Code {
	l := slices.Repeat([]api.Ir{copied(2, 1)}, n-1)
	l[0] = number(1, 5)
	l = append(l, ret(2))
	l[at] = x
	return code("a.f", params(0), 12, 2, l...)
}

// knownUpTo asks that the copies of a function become numbers up to ahead of a place, and not from there on.
func knownUpTo(t testing.TB, c api.Code, place int) {
	t.Helper()
	want := copyOf(c).L
	for i, x := range want {
		if i < place && equal(x, copied(2, 1)) {
			want[i] = number(2, 5)
		}
	}
	folds(t, c, want...)
}

// P9.1: a block begins where an IJump or an IZero goes, and right behind one; right behind an IRet, wherever its C would go.
func TestBlocks(t *testing.T) {
	const n = 12
	for at := 1; at < n-1; at++ {
		for to := at + 1; to < n; to++ {
			for _, x := range []api.Ir{jump(to), zero(0, to), zero(1, to), zero(2, to)} {
				knownUpTo(t, probes(n, at, x), at+1)
				knownUpTo(t, probes(n, at, filled(x)), at+1)
			}
		}
		for to := range n {
			x := ret(1)
			x.C = to
			knownUpTo(t, probes(n, at, x), at+1)
		}
	}
}

// P9.1: a block begins at the place to which an instruction goes, though its own block, and those between, are gone on with anew.
func TestTargets(t *testing.T) {
	const n = 12
	for at := range n - 3 {
		for to := at + 2; to < n; to++ {
			for _, x := range []api.Ir{jump(to), zero(0, to)} {
				c := probes(n, at, x)
				c.L[at+1] = number(1, 5)
				want := copyOf(c).L
				for i, y := range want {
					if y.Kind == api.ICopy && (i < at || i > at+1 && i < to) {
						want[i] = number(2, 5)
					}
				}
				folds(t, c, want...)
			}
		}
	}
}

// P9.1: no block begins behind others, nor where their C would go if they had one.
func TestNoBlocks(t *testing.T) {
	const n = 12
	for at := 1; at < n-1; at++ {
		for _, x := range []api.Ir{number(3, 1), copied(3, 0), reckon(api.Add, 3, 0, 0), pick(3, 0, 0, 0), load(3, 0), store(1, 0), store(1, 1), call(3, "a.f", 0), call(3, "a.g", 1, 1)} {
			for to := range n {
				x.C = to // a register of an ISel, and nothing of the others
				c := probes(n, at, x)
				knownUpTo(t, c, n)
			}
		}
	}
}

// P9.1: what is known at the end of one block is not known in the next one, and the numbers there count anew.
func TestNextBlock(t *testing.T) {
	folds(t, alone(number(1, 5), copied(2, 1), zero(0, 5), number(1, 6), copied(3, 1), copied(4, 1), number(4, 7), copied(5, 4), reckon(api.Add, 6, 1, 4)),
		number(1, 5), number(2, 5), zero(0, 5), number(1, 6), number(3, 6), copied(4, 1), number(4, 7), number(5, 7), reckon(api.Add, 6, 1, 4), ret(0))
	// Both ways have the same number, which is still not known where they meet.
	stays(t, zero(0, 3), number(1, 5), jump(4), number(1, 5), copied(2, 1))
	// Nor is what stands ahead of a branch, though neither way writes it.
	stays(t, number(1, 5), zero(0, 4), number(2, 6), jump(5), number(2, 7), copied(3, 1))
}

// P9.1: jumps that no run comes to have blocks begin, too; several may go to one place.
func TestJumpsNobodyComesTo(t *testing.T) {
	folds(t, alone(number(1, 5), ret(0), jump(6), number(1, 6), copied(2, 1), copied(3, 1), copied(4, 1), copied(5, 1)),
		number(1, 5), ret(0), jump(6), number(1, 6), number(2, 6), number(3, 6), copied(4, 1), copied(5, 1), ret(0))
	folds(t, alone(zero(0, 5), zero(0, 5), jump(5), number(1, 6), copied(2, 1), copied(3, 1), number(1, 7), copied(3, 1)),
		zero(0, 5), zero(0, 5), jump(5), number(1, 6), number(2, 6), copied(3, 1), number(1, 7), number(3, 7), ret(0))
}

// P9.1: an IZero of a register that is known stays, and so do both ways, as do jumps to the next place.
func TestBranchesStay(t *testing.T) {
	for _, n := range []uint32{0, 1} {
		stays(t, number(1, n), zero(1, 3), number(2, 9), copied(3, 2))
	}
	stays(t, number(1, 5), jump(2), copied(2, 1))
	stays(t, number(1, 5), zero(0, 2), copied(2, 1))
	stays(t, number(1, 5), ret(1), copied(2, 1))
}

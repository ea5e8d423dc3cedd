package dead

import (
	"slices"
	"testing"

	"carling/api"
)

// jumps are an IJump and an IZero that go to a place.
func jumps(to int) []api.Ir { return []api.Ir{jump(to), zero(0, to)} }

// P10.1: the C of an IJump and of an IZero to an instruction that stays, to one that is left out, to one of several left out in a row, and behind left-out ones.
func TestJumps(t *testing.T) {
	gone, kept := number(1, 5), store(0, 0)
	for _, c := range []struct {
		l    []api.Ir // behind the jump, which is ahead of all
		to   int
		want int
	}{
		// To one that stays, with none left out between.
		{nil, 1, 1}, {[]api.Ir{kept}, 1, 1}, {[]api.Ir{kept}, 2, 2}, {[]api.Ir{kept, gone}, 1, 1}, {[]api.Ir{kept, kept, gone}, 2, 2},
		// To one that is left out.
		{[]api.Ir{gone}, 1, 1}, {[]api.Ir{kept, gone}, 2, 2}, {[]api.Ir{gone, kept}, 1, 1}, {[]api.Ir{kept, gone, kept}, 2, 2},
		// To one of several left out in a row.
		{[]api.Ir{gone, gone, gone}, 1, 1}, {[]api.Ir{gone, gone, gone}, 2, 1}, {[]api.Ir{gone, gone, gone}, 3, 1},
		{[]api.Ir{kept, gone, gone, kept}, 2, 2}, {[]api.Ir{kept, gone, gone, kept}, 3, 2}, {[]api.Ir{gone, kept, gone, gone, kept}, 3, 2}, {[]api.Ir{gone, kept, gone, gone, kept}, 4, 2},
		// Behind left-out ones.
		{[]api.Ir{gone}, 2, 1}, {[]api.Ir{gone, kept}, 2, 1}, {[]api.Ir{gone, kept}, 3, 2}, {[]api.Ir{gone, gone, gone}, 4, 1}, {[]api.Ir{kept, gone, gone, kept}, 4, 2},
		{[]api.Ir{gone, kept, gone, kept, gone}, 4, 2}, {[]api.Ir{gone, kept, gone, kept, gone}, 5, 3}, {[]api.Ir{gone, kept, gone, kept, gone}, 6, 3},
	} {
		left := slices.DeleteFunc(slices.Clone(c.l), func(x api.Ir) bool { return x.Kind == api.IConst })
		for i, x := range jumps(c.to) {
			want := jumps(c.want)[i]
			drops(t, alone(slices.Insert(slices.Clone(c.l), 0, x)...), append(slices.Insert(slices.Clone(left), 0, want), ret(0))...)
			drops(t, alone(slices.Insert(slices.Clone(c.l), 0, filled(x))...), append(slices.Insert(slices.Clone(left), 0, filled(want)), ret(0))...)
		}
	}
}

// P10.1: those left out ahead of a jump move it, and where it goes, alike.
func TestJumpsBehind(t *testing.T) {
	gone, kept := load(1, 0), call(7, "a.g")
	for n := range 6 {
		for i, x := range jumps(n + 2) {
			drops(t, alone(append(slices.Repeat([]api.Ir{gone}, n), x, kept)...), jumps(2)[i], kept, ret(0))
		}
		for i, x := range jumps(2*n + 3) {
			l := append(slices.Repeat([]api.Ir{gone, kept}, n), x, gone, kept, gone)
			drops(t, alone(l...), append(slices.Repeat([]api.Ir{kept}, n), jumps(n + 2)[i], kept, ret(0))...)
		}
	}
}

// P10.1: several jumps to one place, within one another, one behind the other, and of which no run comes to any.
func TestJumpsTogether(t *testing.T) {
	gone := number(1, 5)
	drops(t, alone(jump(5), zero(0, 5), jump(5), gone, gone, gone), jump(3), zero(0, 3), jump(3), ret(0))
	drops(t, alone(zero(0, 4), gone, jump(5), gone, store(0, 0), gone), zero(0, 2), jump(3), store(0, 0), ret(0))
	drops(t, alone(ret(0), gone, jump(4), gone, gone, store(0, 0)), ret(0), jump(2), store(0, 0), ret(0))
	// A way that has nothing left but its jump: both ways go to one place.
	drops(t, alone(zero(0, 3), gone, jump(5), gone, gone), zero(0, 2), jump(2), ret(0))
	// A branch on what stands there for it alone stays, and so does that.
	drops(t, alone(number(2, 1), zero(2, 3), gone, gone), number(2, 1), zero(2, 2), ret(0))
}

// P10.1: a C of others is none of a place, and stays: a register of an ISel, and what no instruction has.
func TestOthersCs(t *testing.T) {
	for c := range 8 {
		if c != 1 {
			drops(t, alone(number(1, 5), number(1, 5), number(1, 5), pick(0, 0, 0, c)), pick(0, 0, 0, c), ret(0))
		}
		for _, x := range []api.Ir{number(0, 1), load(0, 1), store(1, 0), ret(0), copied(0, 0), reckon(api.Or, 0, 0, 0), call(7, "a.g", 0)} {
			for _, x.C = range []int{c, -1, 1000} {
				drops(t, alone(number(1, 5), x, number(1, 5), x), x, x, ret(0))
			}
		}
	}
}

// P10.1: all that is left is as it was, but the places of jumps: the name, the parameters, how many registers and cells there are, and each field of each instruction.
func TestAllElse(t *testing.T) {
	l := []api.Ir{number(1, 5), copied(2, 0), reckon(api.Lt, 3, 2, 0), pick(4, 3, 2, 0), load(5, 3), store(2, 5), call(6, "b.g", 4, 0), zero(4, 9), jump(10), ret(6)}
	for i, x := range l {
		l[i] = filled(x)
	}
	for _, name := range []string{"a.f", "unit12345678.function1234", "z9.main"} {
		for _, p := range [][]api.Type{params(0), params(0, 0, 0), params(0, 16, 0, 1), {{Sec: true}, {Len: 4}}} {
			for _, size := range [][2]int{{8, 17}, {10000, 4096}} {
				leavesOut(t, code(name, p, size[0], size[1], append(l[:len(l):len(l)], ret(0))...), 0)
			}
		}
	}
}

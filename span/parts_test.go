package span

import (
	"math"
	"slices"
	"testing"

	"carling/api"
)

// one is a kind of instruction, with the registers that it reads and writes all unlike.
type one struct {
	x      api.Ir
	reads  []int
	writes []int
}

// kinds are one of each kind, and calls with each number of Args; jumps go to that place. In parts that a kind does not have stands the register 7, or what is none.
func kinds(to int) []one {
	l := []one{
		{api.Ir{Kind: api.IConst, D: 1, A: 7, B: 7, C: 7, N: 9}, nil, []int{1}},
		{api.Ir{Kind: api.ICopy, D: 1, A: 2, B: 7, C: 7, N: 7}, []int{2}, []int{1}},
		{api.Ir{Kind: api.IBin, Op: api.Shl, D: 1, A: 2, B: 3, C: 7, N: 7}, []int{2, 3}, []int{1}},
		{api.Ir{Kind: api.ISel, D: 1, A: 2, B: 3, C: 4, N: 7}, []int{2, 3, 4}, []int{1}},
		{api.Ir{Kind: api.ILoad, D: 1, A: 7, B: 7, C: 7, N: 2}, nil, []int{1}},
		{api.Ir{Kind: api.IStore, D: 7, A: 2, B: 7, C: 7, N: 3}, []int{2}, nil},
		{api.Ir{Kind: api.IJump, D: 7, A: 7, B: 7, C: to, N: 7}, nil, nil},
		{api.Ir{Kind: api.IZero, D: 7, A: 2, B: 7, C: to, N: 7}, []int{2}, nil},
		{api.Ir{Kind: api.IRet, D: 7, A: 2, B: 7, C: 7, N: 7}, []int{2}, nil},
	}
	for i := range l {
		l[i].x.Args, l[i].x.Name = []int{7, 7}, "a.g"
		y := l[i]
		y.x.Name, y.x.Args = "?", []int{-1, 8, 9999}
		for _, field := range []*int{&y.x.D, &y.x.A, &y.x.B, &y.x.C} {
			if *field == 7 {
				*field = math.MinInt
			}
		}
		l = append(l, y)
	}
	args := []int{2, 3, 4, 5, 6, 0}
	for n := range len(args) + 1 {
		l = append(l, one{api.Ir{Kind: api.ICall, Op: 99, D: 1, A: 7, B: -7, C: 7, N: 7, Name: "a.g", Args: args[:n]}, args[:n], []int{1}})
	}
	return l
}

// P11.1: each part that reads and each that writes, of every kind, at several places, and none else.
func TestParts(t *testing.T) {
	for ahead := range 4 {
		for _, o := range kinds(ahead + 1) {
			// The register 9 is all that the others read or write.
			l := append(slices.Repeat([]api.Ir{number(9, 1)}, ahead), o.x, ret(9))
			want := slices.Repeat([][2]int{none}, 10)
			for _, r := range slices.Concat(o.reads, o.writes) {
				want[r] = [2]int{ahead, ahead}
			}
			want[9] = [2]int{0, ahead + 1}
			if ahead == 0 {
				want[9][0] = 1
			}
			has(t, code("a.f", nil, 10, 4, l...), want...)
		}
	}
}

// P11.1: each part of every kind is a register's last place, and one's first place, among others that have it in use.
func TestPartsAtTheEnds(t *testing.T) {
	for _, o := range kinds(4) {
		met := slices.Concat(o.reads, o.writes)
		for r := range 8 {
			// The register is in use ahead of the instruction, which stands at the place 3, or behind it.
			ahead := code("a.f", nil, 10, 4, number(9, 1), copied(r, 9), number(9, 1), o.x, ret(9))
			behind := code("a.f", nil, 10, 4, number(9, 1), number(9, 1), number(9, 1), o.x, number(9, 1), copied(9, r), ret(9))
			first, last := [2]int{1, 1}, [2]int{5, 5}
			if slices.Contains(met, r) {
				first, last = [2]int{1, 3}, [2]int{3, 5}
			}
			if l := spans(t, ahead); l[r] != first {
				t.Errorf("%s: %d is of the register %d", lines(ahead), l[r], r)
			}
			if l := spans(t, behind); l[r] != last {
				t.Errorf("%s: %d is of the register %d", lines(behind), l[r], r)
			}
		}
	}
}

// P11.1: a register that stands in several parts of one instruction is in use at its place alone.
func TestPartsAlike(t *testing.T) {
	for _, x := range []api.Ir{copied(3, 3), reckon(api.Add, 3, 3, 3), reckon(api.Add, 3, 3, 9), reckon(api.Add, 9, 3, 3), pick(3, 3, 3, 3), pick(9, 3, 9, 3), call(3, "a.g", 3, 3, 3, 3, 3, 3), call(3, "a.g", 9, 3), call(9, "a.g", 3, 9, 3)} {
		l := spans(t, code("a.f", nil, 10, 0, number(9, 1), x, ret(9)))
		if l[3] != [2]int{1, 1} || l[9] != [2]int{0, 2} {
			t.Errorf("%+v: %d", x, l)
		}
	}
}

// P11.1: the last instruction is read as all others are.
func TestPartsOfTheLast(t *testing.T) {
	for r := range 8 {
		want := slices.Repeat([][2]int{none}, 8)
		want[r] = [2]int{1, 1}
		has(t, code("a.f", nil, 8, 1, jump(1), api.Ir{Kind: api.IRet, D: 9, A: r, B: -1, C: 8, Name: "?", Args: []int{0, 1, 2}}), want...)
	}
}

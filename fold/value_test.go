package fold

import (
	"math"
	"slices"
	"testing"

	"carling/api"
	"carling/word"
)

// writers are instructions of each kind that write register 1, behind which it is not known; 0 and 7 are not known.
func writers() []api.Ir {
	return []api.Ir{load(1, 0), load(1, 3), call(1, "a.g"), call(1, "b.g", 2, 3), copied(1, 0), copied(1, 7), reckon(api.Mul, 1, 0, 2), reckon(api.And, 1, 2, 7), pick(1, 0, 2, 2), pick(1, 2, 7, 2), pick(1, 3, 2, 7)}
}

// P9.1: an ICopy of a register that is known, and of one that is not.
func TestCopy(t *testing.T) {
	for _, n := range []uint32{0, 1, 5, 1 << 31, math.MaxUint32} {
		becomes(t, []api.Ir{number(1, n)}, copied(2, 1), number(2, n))
		becomes(t, []api.Ir{number(7, n), number(1, n+1)}, copied(0, 7), number(0, n))
		becomes(t, []api.Ir{number(1, n)}, copied(1, 1), number(1, n))
		stays(t, number(1, n), copied(2, 0))
		stays(t, number(1, n), copied(2, 3))
		stays(t, number(1, n), copied(1, 2))
	}
}

// P9.1: each op of words that are known is what comes of them, written out.
func TestOpsByHand(t *testing.T) {
	for _, c := range []struct {
		op         int
		a, b, want uint32
	}{
		{api.Add, 5, 6, 11}, {api.Add, math.MaxUint32, 2, 1}, {api.Sub, 9, 4, 5}, {api.Sub, 0, 1, math.MaxUint32}, {api.Mul, 5, 6, 30}, {api.Mul, 1 << 31, 3, 1 << 31},
		{api.And, 12, 10, 8}, {api.Or, 12, 10, 14}, {api.Xor, 12, 10, 6}, {api.Shl, 1, 33, 2}, {api.Shl, 3, 31, 1 << 31}, {api.Shr, 9, 2, 2}, {api.Shr, 9, 32, 9},
		{api.Lt, 1, 2, 1}, {api.Lt, 2, 1, 0}, {api.Lt, 2, 2, 0}, {api.Lt, 0, math.MaxUint32, 1}, {api.Eq, 7, 7, 1}, {api.Eq, 7, 8, 0},
	} {
		becomes(t, []api.Ir{number(1, c.a), number(2, c.b)}, reckon(c.op, 3, 1, 2), number(3, c.want))
		becomes(t, []api.Ir{number(2, c.b), number(1, c.a)}, reckon(c.op, 3, 1, 2), number(3, c.want))
	}
}

// P9.1: each op of two words that are known, and of one word that is known and one that is not, on either side.
func TestOps(t *testing.T) {
	for op := api.Add; op <= api.Eq; op++ {
		for _, a := range []uint32{0, 1, 2, 31, 32, 33, 1 << 31, math.MaxUint32} {
			for _, b := range []uint32{0, 1, 2, 31, 32, 33, 1 << 31, math.MaxUint32} {
				n, _ := word.Op(op, a, b)
				becomes(t, []api.Ir{number(1, a), number(2, b)}, reckon(op, 3, 1, 2), number(3, n))
				n, _ = word.Op(op, b, a)
				becomes(t, []api.Ir{number(1, a), number(2, b)}, reckon(op, 0, 2, 1), number(0, n))
			}
			n, _ := word.Op(op, a, a)
			becomes(t, []api.Ir{number(1, a)}, reckon(op, 3, 1, 1), number(3, n))
			// What would be sure of any word, as of 0 and a Mul, is not told either.
			stays(t, number(1, a), reckon(op, 3, 1, 0))
			stays(t, number(1, a), reckon(op, 3, 0, 1))
			stays(t, number(1, a), reckon(op, 3, 1, 4))
			stays(t, number(1, a), reckon(op, 3, 4, 1))
			stays(t, number(1, a), reckon(op, 3, 0, 0))
			stays(t, number(1, a), reckon(op, 1, 0, 1), copied(2, 1))
			stays(t, number(1, a), reckon(op, 1, 1, 0), copied(2, 1))
		}
	}
}

// P9.1: an ISel of a known A, with the part that is taken known and not known, and of one that is not known.
func TestSel(t *testing.T) {
	for _, c := range []uint32{0, 1, 2, 1 << 31, math.MaxUint32} {
		want := uint32(9)
		if c == 0 {
			want = 8
		}
		becomes(t, []api.Ir{number(1, c), number(2, 9), number(3, 8)}, pick(4, 1, 2, 3), number(4, want))
		becomes(t, []api.Ir{number(1, c), number(2, 9)}, pick(4, 1, 2, 2), number(4, 9))
		becomes(t, []api.Ir{number(1, c)}, pick(4, 1, 1, 1), number(4, c))
		// Only the part that is taken is known, or only the other one.
		taken, other := pick(4, 1, 2, 0), pick(4, 1, 0, 2)
		if c == 0 {
			taken, other = other, taken
		}
		becomes(t, []api.Ir{number(1, c), number(2, 9)}, taken, number(4, 9))
		stays(t, number(1, c), number(2, 9), other)
		stays(t, number(1, c), number(2, 9), number(4, 3), other, copied(5, 4))
		stays(t, number(1, c), pick(4, 1, 2, 0))
		// A is not known, though both parts are, and are the same.
		stays(t, number(2, c), number(3, c), pick(4, 0, 2, 3))
		stays(t, number(2, c), number(3, 4), pick(4, 5, 2, 3))
		stays(t, number(2, c), pick(2, 0, 2, 2), copied(3, 2))
		stays(t, number(2, c), pick(4, 0, 2, 0))
	}
}

// P9.1: behind what writes a register and is not known itself, the register is not known; behind an IConst it is known anew, and the IConst stays as it is.
func TestUnknownAgain(t *testing.T) {
	for _, x := range writers() {
		stays(t, x, copied(4, 1))
		stays(t, number(1, 5), x, copied(4, 1), copied(5, 4))
		stays(t, number(1, 5), number(4, 6), x, reckon(api.Add, 5, 1, 4), reckon(api.Add, 5, 4, 1), pick(5, 1, 4, 4), pick(5, 4, 1, 4))
		folds(t, alone(number(1, 5), copied(4, 1), x, copied(5, 1), number(1, 7), copied(6, 1), copied(5, 4)),
			number(1, 5), number(4, 5), x, copied(5, 1), number(1, 7), number(6, 7), number(5, 5), ret(0))
		// Other registers are not minded.
		folds(t, alone(number(4, 5), x, copied(5, 4)), number(4, 5), x, number(5, 5), ret(0))
	}
}

// P9.1: an IConst of a register that is known already has it known to be another word.
func TestKnownAnew(t *testing.T) {
	folds(t, alone(number(1, 5), copied(2, 1), number(1, 6), copied(3, 1), copied(4, 2), copied(1, 4), reckon(api.Add, 5, 1, 3)),
		number(1, 5), number(2, 5), number(1, 6), number(3, 6), number(4, 5), number(1, 5), number(5, 11), ret(0))
	stays(t, number(1, 5), number(1, 5), number(1, 0), number(2, 0))
}

// P9.1: an instruction that reads the register that it writes.
func TestItself(t *testing.T) {
	for op := api.Add; op <= api.Eq; op++ {
		once, _ := word.Op(op, 6, 6)
		twice, _ := word.Op(op, once, once)
		folds(t, alone(number(1, 6), reckon(op, 1, 1, 1), reckon(op, 1, 1, 1), copied(2, 1)), number(1, 6), number(1, once), number(1, twice), number(2, twice), ret(0))
		left, _ := word.Op(op, 6, 9)
		right, _ := word.Op(op, 9, left)
		folds(t, alone(number(1, 6), number(2, 9), reckon(op, 1, 1, 2), reckon(op, 1, 2, 1)), number(1, 6), number(2, 9), number(1, left), number(1, right), ret(0))
		stays(t, reckon(op, 0, 0, 0), copied(1, 0))
	}
	folds(t, alone(number(1, 6), copied(1, 1), copied(2, 1)), number(1, 6), number(1, 6), number(2, 6), ret(0))
	folds(t, alone(number(1, 6), number(2, 0), pick(1, 1, 2, 0), pick(1, 1, 0, 2), pick(2, 2, 0, 1)), number(1, 6), number(2, 0), number(1, 0), number(1, 0), number(2, 0), ret(0))
	stays(t, copied(0, 0), pick(0, 0, 0, 0), copied(1, 0))
	// One whose word is known and is put into what it is reckoned of: behind it that is what it becomes, ahead of it what it was.
	folds(t, alone(number(1, 6), load(2, 0), pick(1, 1, 2, 1), copied(3, 1)), number(1, 6), load(2, 0), pick(1, 1, 2, 1), copied(3, 1), ret(0))
}

// P9.1: instructions of which each one is worked out of those ahead.
func TestChain(t *testing.T) {
	folds(t, alone(number(1, 2), reckon(api.Add, 2, 1, 1), copied(3, 2), reckon(api.Mul, 4, 3, 2), reckon(api.Lt, 5, 4, 1), pick(6, 5, 0, 4), reckon(api.Sub, 7, 6, 1), copied(0, 7), reckon(api.Shl, 0, 0, 1)),
		number(1, 2), number(2, 4), number(3, 4), number(4, 16), number(5, 0), number(6, 16), number(7, 14), number(0, 14), number(0, 56), ret(0))
	// Where one is not known, what hangs on it is not, either, up to what does not any more.
	folds(t, alone(number(1, 2), load(2, 0), reckon(api.Add, 3, 1, 2), copied(4, 3), reckon(api.Mul, 4, 4, 1), pick(5, 1, 1, 4), pick(6, 4, 1, 1), reckon(api.Or, 4, 5, 1), copied(3, 4)),
		number(1, 2), load(2, 0), reckon(api.Add, 3, 1, 2), copied(4, 3), reckon(api.Mul, 4, 4, 1), number(5, 2), pick(6, 4, 1, 1), number(4, 2), number(3, 2), ret(0))
}

// P9.1: parameters, and registers that nothing has written, are not known, though these are 0 in a run.
func TestNothingWritten(t *testing.T) {
	for r := range 8 {
		d := (r + 1) % 8
		stays(t, copied(d, r), copied(r, d))
		stays(t, reckon(api.Add, d, r, r))
		stays(t, pick(d, r, r, r))
		stays(t, number(d, 4), reckon(api.Mul, d, d, r), copied(r, d))
		stays(t, number(d, 0), pick(d, d, d, r), copied(r, d))
	}
	c := code("a.f", params(0, 0), 4, 0, copied(2, 0), reckon(api.Add, 3, 1, 2), ret(3))
	folds(t, c, c.L...)
}

// P9.1: what is stored is not known to a load, and what is read stays known.
func TestReadersLeaveAll(t *testing.T) {
	folds(t, alone(number(1, 5), store(0, 1), load(2, 0), copied(3, 2), call(4, "a.g", 1, 1), copied(5, 1), copied(6, 4)),
		number(1, 5), store(0, 1), load(2, 0), copied(3, 2), call(4, "a.g", 1, 1), number(5, 5), copied(6, 4), ret(0))
	// An IStore writes no register, whatever its D is.
	x := store(0, 2)
	x.D = 1
	folds(t, alone(number(1, 5), x, copied(3, 1)), number(1, 5), x, number(3, 5), ret(0))
	stays(t, x, copied(3, 1))
}

// P9.1: what becomes an IConst has D and N alone; all others have all that they had.
func TestFields(t *testing.T) {
	ahead := []api.Ir{number(1, 5), number(2, 0)}
	for _, c := range []struct {
		x    api.Ir
		want api.Ir
	}{
		{copied(3, 1), number(3, 5)}, {copied(3, 2), number(3, 0)}, {copied(0, 1), number(0, 5)}, {reckon(api.Mul, 3, 1, 1), number(3, 25)}, {reckon(api.Lt, 0, 1, 2), number(0, 0)},
		{pick(3, 1, 1, 2), number(3, 5)}, {pick(0, 2, 1, 2), number(0, 0)}, {pick(6, 1, 1, 7), number(6, 5)}, {pick(6, 2, 7, 1), number(6, 5)},
	} {
		becomes(t, ahead, c.x, c.want)
		becomes(t, ahead, filled(c.x), c.want)
	}
	for _, x := range []api.Ir{number(3, 4), copied(3, 0), reckon(api.Add, 3, 1, 0), pick(3, 0, 1, 1), pick(3, 1, 0, 1), load(3, 2), store(2, 1), call(3, "b.g", 1, 2, 0), jump(4), zero(1, 4), ret(1)} {
		for _, y := range []api.Ir{x, filled(x)} {
			l := []api.Ir{filled(ahead[0]), filled(ahead[1]), y, filled(number(4, 9)), filled(ret(4))}
			folds(t, alone(l...), append(slices.Clone(l), ret(0))...)
		}
	}
}

// P9.1: the name, the parameters, Regs and Cells are as they were, whatever is folded.
func TestRest(t *testing.T) {
	l := []api.Ir{number(0, 5), copied(0, 0), ret(0)}
	for _, c := range []api.Code{
		code("a.f", nil, 1, 0, l...), code("unit_1.fn_2", params(0, 0, 0, 0, 0, 0), 6, 0, l...), code("b.g", params(16, 0, 16, 1, 2, 3), 10000, 4096, l...), code("a.f", params(1), 9, 1, l...),
		code("a.f", []api.Type{{Sec: true}, {Sec: true, Len: 3}, {}}, 2, 3, l...),
	} {
		folds(t, c, number(0, 5), number(0, 5), ret(0)) // folding asks for the rest
	}
}

package dead

import (
	"math"
	"testing"

	"carling/api"
)

// readers are instructions of each kind and part that reads; each reads the register r, and no other one but 0. None of them is dead, where 0 is read behind it. A jump goes to that place.
func readers(r, to int) []api.Ir {
	return []api.Ir{
		store(1, r), zero(r, to), ret(r), call(0, "a.g", r), call(0, "a.g", r, 0), call(0, "a.g", 0, r), call(0, "a.g", 0, 0, 0, 0, 0, r), call(r, "a.g", r),
		copied(0, r), reckon(api.Sub, 0, r, 0), reckon(api.Sub, 0, 0, r), pick(0, r, 0, 0), pick(0, 0, r, 0), pick(0, 0, 0, r),
	}
}

// others are instructions of each kind that read no register but 0, though others stand in the parts that they do not have; else they are as readers are.
func others(to int) []api.Ir {
	l := []api.Ir{
		number(0, 1), load(0, 1), jump(to), store(1, 0), zero(0, to), ret(0), copied(0, 0),
		reckon(api.Or, 0, 0, 0), pick(0, 0, 0, 0), call(0, "a.g"), call(7, "a.g", 0),
	}
	for i, x := range l {
		l[i] = filled(x)
	}
	return l
}

// P10.1: each idle kind stays, if an instruction behind it reads what it writes, whichever part of that one reads, and whatever stands between.
func TestIdleNotDead(t *testing.T) {
	for _, x := range idles(3) {
		for _, y := range readers(3, 2) {
			stays(t, x, y)
			stays(t, filled(x), filled(y))
		}
		for _, y := range readers(3, 4) {
			stays(t, x, store(0, 0), call(7, "a.g"), y)
			stays(t, x, ret(0), jump(3), y)
		}
		leavesOut(t, code("a.f", params(0), 8, 4, x, ret(3)))
	}
}

// P10.1: each idle kind is left out, if no instruction behind it reads what it writes, whatever these are.
func TestIdleDead(t *testing.T) {
	for r := 1; r < 8; r++ {
		for _, x := range idles(r) {
			leavesOut(t, alone(x), 0)
			for _, y := range others(2) {
				leavesOut(t, alone(x, y), 0)
				leavesOut(t, alone(filled(x), y), 0)
			}
		}
	}
}

// P10.1: a number is as dead as any other, whichever it is; so is what is done with any op, and of any cell.
func TestIdleWhatever(t *testing.T) {
	for _, n := range []uint32{0, 1, math.MaxUint32} {
		leavesOut(t, alone(number(1, n)), 0)
		stays(t, number(1, n), store(0, 1))
	}
	for op := api.Add; op <= api.Eq; op++ {
		leavesOut(t, alone(reckon(op, 1, 0, 0)), 0)
		stays(t, reckon(op, 1, 0, 0), store(0, 1))
	}
	for n := range uint32(4) {
		leavesOut(t, alone(store(n, 0), load(1, n)), 1)
		stays(t, load(1, n), store(n, 1))
	}
}

// P10.1: what reads a register ahead of the one that writes it alone does not count, whatever it is.
func TestReadAhead(t *testing.T) {
	for _, x := range idles(3) {
		for _, to := range []int{1, 2, 3} {
			for _, y := range readers(3, to) {
				leavesOut(t, alone(y, x, store(0, 0)), 1)
			}
		}
		// Of two that write it the one behind what reads it is left out.
		leavesOut(t, alone(x, store(0, 3), x), 2)
	}
}

// P10.1: an instruction that reads the register that it writes is not behind itself; others of these keep it.
func TestReadsItself(t *testing.T) {
	for _, x := range []api.Ir{copied(3, 3), reckon(api.Add, 3, 3, 3), reckon(api.Add, 3, 3, 0), reckon(api.Add, 3, 0, 3), pick(3, 3, 3, 3), pick(3, 0, 0, 3), pick(3, 0, 3, 0), pick(3, 3, 0, 0)} {
		leavesOut(t, alone(x), 0)
		leavesOut(t, alone(x, x, x), 0, 1, 2)
		leavesOut(t, alone(store(0, 3), x, x), 1, 2)
		leavesOut(t, alone(number(3, 1), x, store(0, 3), x, number(3, 2)), 3, 4)
		stays(t, x, store(0, 3))
		stays(t, x, x, x, zero(3, 4))
	}
}

// P10.1: IStore, ICall, IJump, IZero and IRet stay, though nothing reads the register that is their D.
func TestNeverDead(t *testing.T) {
	for _, x := range []api.Ir{store(0, 0), store(3, 7), call(7, "a.g"), call(7, "a.none", 1, 2), jump(2), zero(0, 2), zero(5, 2), ret(0), ret(4)} {
		for _, y := range []api.Ir{x, filled(x)} {
			for y.D = range 8 {
				stays(t, call(6, "a.g"), y)
				stays(t, ret(0), y) // no run comes to it
			}
		}
	}
	stays(t, store(0, 0), store(0, 0), store(0, 0))
	stays(t, call(1, "a.g"), call(1, "a.g"), jump(3), zero(0, 4))
}

// P10.1: what is read by a dead instruction alone is dead, too, and so are chains of these; up to where one is not dead.
func TestChains(t *testing.T) {
	chain := []api.Ir{number(1, 5), copied(2, 1), reckon(api.Mul, 3, 1, 2), pick(4, 1, 2, 3), copied(5, 4)}
	all := []int{0, 1, 2, 3, 4}
	leavesOut(t, alone(chain...), all...)
	for r, kept := range []int{0, 1, 2, 3, 4, 5} {
		for _, y := range readers(r, 6) {
			leavesOut(t, alone(append(chain[:5:5], y)...), all[kept:]...)
		}
	}
	// Of a reader of two registers both are kept.
	leavesOut(t, alone(number(1, 5), load(2, 0), load(3, 0), copied(4, 1), copied(5, 2), copied(6, 3), call(7, "a.g", 4, 6)), 1, 4)
	// A loop's words, lowered: each round reads what the one ahead wrote, and nothing reads the last one.
	leavesOut(t, alone(number(1, 1), reckon(api.Add, 1, 1, 1), reckon(api.Add, 1, 1, 1), reckon(api.Add, 2, 1, 0)), 0, 1, 2, 3)
}

// P10.1: a register that is written again before it is read counts as read all the same, as what is read is what stands behind, on whichever way a run goes.
func TestWrittenAgain(t *testing.T) {
	for _, x := range idles(3) {
		for _, y := range idles(3) {
			stays(t, x, y, store(0, 3))
		}
		stays(t, x, call(3, "a.g"), store(0, 3))
		stays(t, x, ret(0), store(0, 3))
		stays(t, x, jump(3), store(0, 3))
		stays(t, zero(0, 3), x, jump(4), store(0, 3))
		stays(t, zero(0, 3), x, jump(4), number(3, 1), store(0, 3))
	}
}

// P10.1: of a function of which nothing is dead all stays as it is.
func TestNothingDead(t *testing.T) {
	stays(t)
	stays(t, number(1, 5), copied(2, 1), reckon(api.Shl, 3, 2, 1), load(4, 3), zero(4, 7), pick(5, 4, 3, 2), jump(8), call(5, "b.g", 3, 3), store(2, 5))
	c := code("unit.function", params(2, 0, 16, 0, 0, 1), 10000, 4096, ret(9999))
	drops(t, c, ret(9999))
	c.L = []api.Ir{load(9999, 4095), number(9998, 1), store(4095, 9999), ret(3)}
	leavesOut(t, c, 1)
}

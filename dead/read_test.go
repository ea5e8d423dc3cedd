package dead

import (
	"slices"
	"testing"

	"carling/api"
)

// reading asks which registers are read of a function, from each place on, and that at places that are none nothing is.
func reading(t testing.TB, c api.Code, want ...[]int) {
	t.Helper()
	before := copyOf(c)
	if len(want) != len(c.L) {
		t.Fatalf("%s: %d", lines(c), want)
	}
	for at, l := range want {
		if got := Read(c, at); !slices.Equal(got, l) {
			t.Errorf("%s: at %d: %d; not %d", lines(c), at, got, l)
		}
	}
	n := len(c.L)
	for _, at := range []int{n, n + 1, n + 2, 2 * n, 1<<63 - 1, -1, -2, -n, -1 << 63} {
		if got := Read(c, at); len(got) != 0 {
			t.Errorf("%s: at %d: %d", lines(c), at, got)
		}
	}
	if !equalCode(c, before) {
		t.Errorf("%s: was handed in as %s", lines(c), lines(before))
	}
}

// P10.2: from the first place, from the last one, from how many there are, from one more, and from below 0.
func TestRead(t *testing.T) {
	reading(t, alone(), []int{0})
	reading(t, code("a.f", nil, 8, 0, ret(7)), []int{7})
	reading(t, alone(store(0, 3), store(1, 5), store(2, 1)), []int{0, 1, 3, 5}, []int{0, 1, 5}, []int{0, 1}, []int{0})
	reading(t, alone(number(1, 5), jump(3), store(0, 1)), []int{0, 1}, []int{0, 1}, []int{0, 1}, []int{0})
}

// P10.2: rising, each once, in whichever order and however often they are read.
func TestReadRising(t *testing.T) {
	reading(t, alone(call(0, "a.g", 7, 2, 7, 5, 2, 0), store(0, 2)), []int{0, 2, 5, 7}, []int{0, 2}, []int{0})
	reading(t, alone(store(0, 1), store(0, 6), store(0, 4), store(0, 6), store(0, 1)), []int{0, 1, 4, 6}, []int{0, 1, 4, 6}, []int{0, 1, 4, 6}, []int{0, 1, 6}, []int{0, 1}, []int{0})
	var l []api.Ir
	var all []int
	for i := range 5000 {
		l = append(l, store(0, (i*1237+11)%5000))
		all = append(all, i)
	}
	c := code("a.f", nil, 5000, 1, append(l, ret(0))...)
	for at := range 5 {
		want := slices.Clone(all)
		for _, x := range l[:at] {
			want = slices.DeleteFunc(want, func(r int) bool { return r == x.A })
		}
		if got := Read(c, at); !slices.Equal(got, want) {
			t.Errorf("at %d: %d; not %d", at, len(got), len(want))
		}
	}
}

// P10.2: each part that reads, and none that does not.
func TestReadParts(t *testing.T) {
	for _, y := range readers(3, 1) {
		reading(t, alone(y), []int{0, 3}, []int{0})
		reading(t, alone(filled(y)), []int{0, 3}, []int{0})
	}
	for _, y := range others(1) {
		reading(t, alone(y), []int{0}, []int{0})
	}
	reading(t, alone(pick(0, 1, 3, 2), reckon(api.Add, 0, 5, 4)), []int{0, 1, 2, 3, 4, 5}, []int{0, 4, 5}, []int{0})
	reading(t, alone(call(4, "a.g", 6, 5, 4, 3, 2, 1)), []int{0, 1, 2, 3, 4, 5, 6}, []int{0})
}

// P10.2: instructions that are dead read nothing; what is written stays among what is read.
func TestReadDead(t *testing.T) {
	reading(t, alone(copied(1, 2), reckon(api.Add, 1, 3, 4), pick(1, 5, 6, 7)), []int{0}, []int{0}, []int{0}, []int{0})
	reading(t, alone(copied(1, 2), reckon(api.Add, 3, 1, 4), pick(5, 3, 6, 7)), []int{0}, []int{0}, []int{0}, []int{0})
	reading(t, alone(copied(1, 2), reckon(api.Add, 3, 1, 4), pick(5, 3, 6, 7), store(0, 3)), []int{0, 1, 2, 3, 4}, []int{0, 1, 3, 4}, []int{0, 3}, []int{0, 3}, []int{0})
	// One that reads the register that it writes, dead and not dead.
	reading(t, alone(copied(1, 1), store(0, 2), reckon(api.Add, 2, 2, 3)), []int{0, 2}, []int{0, 2}, []int{0}, []int{0})
	reading(t, alone(reckon(api.Add, 2, 2, 3), store(0, 2)), []int{0, 2, 3}, []int{0, 2}, []int{0})
	// A register that is written again, and one that is never written.
	reading(t, alone(number(1, 5), number(1, 6), store(0, 1), number(1, 7), store(1, 1), number(1, 8)), []int{0, 1}, []int{0, 1}, []int{0, 1}, []int{0, 1}, []int{0, 1}, []int{0}, []int{0})
	// What no run comes to reads as all else.
	reading(t, alone(ret(4), store(0, 5), jump(4), copied(6, 7)), []int{0, 4, 5}, []int{0, 5}, []int{0}, []int{0}, []int{0})
}

// P10.2: what an instruction at a place reads does not hang on those ahead of it: a dead one is dead from its own place on, too.
func TestReadAtDead(t *testing.T) {
	c := alone(store(0, 1), copied(1, 2), store(0, 3))
	reading(t, c, []int{0, 1, 3}, []int{0, 3}, []int{0, 3}, []int{0})
	d := dropping(t, c)
	reading(t, d, []int{0, 1, 3}, []int{0, 3}, []int{0})
}

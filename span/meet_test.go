package span

import (
	"math"
	"testing"
)

// meeting asks whether two spans meet, both ways.
func meeting(t testing.TB, a, b [2]int, want bool) {
	t.Helper()
	if Meet(a, b) != want || Meet(b, a) != want {
		t.Errorf("%d, %d: %t, %t; not %t", a, b, Meet(a, b), Meet(b, a), want)
	}
}

// P11.2: spans that meet, spans that only touch, one within another, the same one twice, and such as are not in use.
func TestMeet(t *testing.T) {
	for _, c := range []struct {
		a, b [2]int
		want bool
	}{
		{[2]int{0, 3}, [2]int{2, 5}, true}, {[2]int{-1, 1}, [2]int{0, 2}, true}, {[2]int{-1, 4}, [2]int{-1, 0}, true}, {[2]int{1, 9}, [2]int{8, 9}, true}, {[2]int{1, 9}, [2]int{1, 2}, true},
		// Those that only touch, and those that don't.
		{[2]int{0, 1}, [2]int{1, 2}, false}, {[2]int{-1, 0}, [2]int{0, 5}, false}, {[2]int{0, 4}, [2]int{4, 9}, false}, {[2]int{0, 1}, [2]int{2, 3}, false}, {[2]int{-1, 3}, [2]int{7, 9}, false},
		// One within another.
		{[2]int{0, 9}, [2]int{3, 5}, true}, {[2]int{-1, 9}, [2]int{0, 1}, true}, {[2]int{0, 9}, [2]int{0, 9}, true}, {[2]int{0, 9}, [2]int{4, 4}, false}, {[2]int{0, 9}, [2]int{0, 0}, false}, {[2]int{0, 9}, [2]int{9, 9}, false},
		// The same one twice.
		{[2]int{0, 1}, [2]int{0, 1}, true}, {[2]int{-1, 0}, [2]int{-1, 0}, true}, {[2]int{-1, 7}, [2]int{-1, 7}, true}, {[2]int{3, 3}, [2]int{3, 3}, false}, {[2]int{0, 0}, [2]int{0, 0}, false},
		// Those that are not in use, or whose argument is not.
		{none, none, false}, {none, [2]int{-1, 5}, false}, {none, [2]int{-1, 0}, false}, {none, [2]int{0, 5}, false},
		// Numbers that are no span of any function.
		{[2]int{5, 2}, [2]int{0, 9}, false}, {[2]int{9, 0}, [2]int{9, 0}, false}, {[2]int{9, 0}, [2]int{3, 5}, false}, {[2]int{-9, -5}, [2]int{-7, -2}, true}, {[2]int{-9, -5}, [2]int{-5, -2}, false}, {[2]int{-9, 9}, [2]int{-1, 0}, true},
		{[2]int{math.MinInt, math.MaxInt}, [2]int{0, 1}, true}, {[2]int{math.MinInt, math.MaxInt}, [2]int{math.MinInt, math.MaxInt}, true}, {[2]int{math.MinInt, 0}, [2]int{0, math.MaxInt}, false}, {[2]int{math.MinInt, 1}, [2]int{0, math.MaxInt}, true},
		{[2]int{math.MaxInt, math.MinInt}, [2]int{0, 1}, false}, {[2]int{math.MinInt, math.MinInt}, [2]int{0, 1}, false}, {[2]int{math.MaxInt, math.MaxInt}, [2]int{0, math.MaxInt}, false}, {[2]int{math.MinInt, math.MinInt + 1}, [2]int{math.MaxInt - 1, math.MaxInt}, false},
	} {
		meeting(t, c.a, c.b, c.want)
	}
}

// P11.2: each of the conditions broken alone: the others hold.
func TestMeetConditions(t *testing.T) {
	for i, c := range [][2][2]int{{{3, 3}, {1, 5}}, {{1, 5}, {3, 3}}, {{5, 7}, {2, 4}}, {{2, 4}, {5, 7}}, {{4, 7}, {2, 4}}, {{2, 4}, {4, 7}}, {{4, 3}, {1, 5}}, {{1, 5}, {4, 3}}} {
		a, b := c[0], c[1]
		broken := 0
		for _, holds := range []bool{a[0] < a[1], b[0] < b[1], a[0] < b[1], b[0] < a[1]} {
			if !holds {
				broken++
			}
		}
		if broken != 1 {
			t.Fatal(i, broken)
		}
		meeting(t, a, b, false)
	}
}

// P11.2: all spans of small numbers: they meet, if there is a place between two next to one another that is within both.
func TestMeetAll(t *testing.T) {
	const least, greatest = -3, 5
	within := func(s [2]int, i int) bool { return s[0] < i && i <= s[1] }
	for i := range 9 * 9 * 9 * 9 {
		a := [2]int{least + i%9, least + i/9%9}
		b := [2]int{least + i/81%9, least + i/729}
		want := false
		for at := least; at <= greatest; at++ {
			want = want || within(a, at) && within(b, at)
		}
		meeting(t, a, b, want)
	}
}

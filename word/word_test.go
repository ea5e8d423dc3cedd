package word

import (
	"math"
	"testing"

	"carling/api"
)

const top = math.MaxUint32

// inOrder are the signs as P1.2 lists them: that of op 1 first. It is written out again, so that a slip in the program's table shows.
var inOrder = []string{"+", "-", "*", "&", "|", "^", "<<", ">>", "<", "=="}

// samples are words at the edges, and others strewn by a fixed rule.
func samples() []uint32 {
	l := []uint32{0, 1, 2, 3, 31, 32, 33, 63, 64, 255, 256, 65535, 65536, 1<<31 - 1, 1 << 31, 1<<31 + 1, top - 1, top}
	for i, n := 0, uint32(12345); i < 40; i++ {
		n = n*1664525 + 1013904223
		l = append(l, n)
	}
	return l
}

// everyPair calls f with all pairs of samples.
func everyPair(f func(a, b uint32)) {
	l := samples()
	for _, a := range l {
		for _, b := range l {
			f(a, b)
		}
	}
}

// reckon is Op of an op that must be one.
func reckon(t *testing.T, op int, a, b uint32) uint32 {
	t.Helper()
	n, is := Op(op, a, b)
	if !is {
		t.Fatalf("Op(%d, %d, %d): false", op, a, b)
	}
	return n
}

// P1.1: each op, with ordinary words and at the edges.
func TestOpOfWords(t *testing.T) {
	cases := []struct {
		op         int
		a, b, want uint32
	}{
		{api.Add, 2, 3, 5}, {api.Add, 0, 0, 0}, {api.Add, top, 1, 0}, {api.Add, top, 2, 1}, {api.Add, top, top, top - 1}, {api.Add, 1 << 31, 1 << 31, 0}, {api.Add, 1<<31 - 1, 1, 1 << 31},
		{api.Sub, 5, 3, 2}, {api.Sub, 7, 7, 0}, {api.Sub, 0, 1, top}, {api.Sub, 3, 5, top - 1}, {api.Sub, 0, top, 1}, {api.Sub, 1 << 31, 1, 1<<31 - 1},
		{api.Mul, 6, 7, 42}, {api.Mul, 0, top, 0}, {api.Mul, 1 << 31, 2, 0}, {api.Mul, 1 << 16, 1 << 16, 0}, {api.Mul, top, top, 1}, {api.Mul, top, 2, top - 1}, {api.Mul, 65537, 65537, 131073},
		{api.And, 6, 3, 2}, {api.And, 0, top, 0}, {api.And, top, top, top}, {api.And, 0xF0F0F0F0, 0xFF00FF00, 0xF000F000},
		{api.Or, 6, 3, 7}, {api.Or, 0, 0, 0}, {api.Or, 0, top, top}, {api.Or, 0xF0F0F0F0, 0xFF00FF00, 0xFFF0FFF0},
		{api.Xor, 6, 3, 5}, {api.Xor, 9, 9, 0}, {api.Xor, 0, top, top}, {api.Xor, 0xF0F0F0F0, 0xFF00FF00, 0x0FF00FF0},
		{api.Lt, 1, 2, 1}, {api.Lt, 2, 1, 0}, {api.Lt, 2, 2, 0}, {api.Lt, 0, 0, 0}, {api.Lt, 0, top, 1}, {api.Lt, top, 0, 0}, {api.Lt, top, top, 0}, {api.Lt, 1<<31 - 1, 1 << 31, 1}, {api.Lt, 1 << 31, 1, 0},
		{api.Eq, 2, 2, 1}, {api.Eq, 2, 3, 0}, {api.Eq, 3, 2, 0}, {api.Eq, 0, 0, 1}, {api.Eq, 0, top, 0}, {api.Eq, top, top, 1}, {api.Eq, 1, 1<<31 + 1, 0},
	}
	for _, c := range cases {
		if n, is := Op(c.op, c.a, c.b); n != c.want || !is {
			t.Errorf("Op(%d, %d, %d): %d, %t; not %d, true", c.op, c.a, c.b, n, is, c.want)
		}
	}
}

// P1.1: shifts go by b modulo 32, and noughts come in.
func TestOpOfShifts(t *testing.T) {
	cases := []struct {
		op         int
		a, b, want uint32
	}{
		{api.Shl, 5, 0, 5}, {api.Shl, 5, 1, 10}, {api.Shl, 3, 31, 1 << 31}, {api.Shl, 5, 32, 5}, {api.Shl, 1, 33, 2}, {api.Shl, 1, 63, 1 << 31}, {api.Shl, 5, 64, 5}, {api.Shl, 1, 1 << 31, 1}, {api.Shl, 1, top, 1 << 31}, {api.Shl, top, 4, 0xFFFFFFF0}, {api.Shl, 0, 7, 0},
		{api.Shr, 5, 0, 5}, {api.Shr, 8, 2, 2}, {api.Shr, 1 << 31, 31, 1}, {api.Shr, 5, 32, 5}, {api.Shr, 8, 33, 4}, {api.Shr, top, 63, 1}, {api.Shr, 5, 64, 5}, {api.Shr, 5, 1 << 31, 5}, {api.Shr, top, top, 1}, {api.Shr, top, 4, 0x0FFFFFFF}, {api.Shr, 0, 7, 0},
	}
	for _, c := range cases {
		if n, is := Op(c.op, c.a, c.b); n != c.want || !is {
			t.Errorf("Op(%d, %d, %d): %d, %t; not %d, true", c.op, c.a, c.b, n, is, c.want)
		}
	}
}

// P1.1: every op is as it would be among greater numbers, cut to 32 bits.
func TestOpAmongGreaterNumbers(t *testing.T) {
	everyPair(func(a, b uint32) {
		x, y := uint64(a), uint64(b)
		less, like := uint64(0), uint64(0)
		if x < y {
			less = 1
		}
		if x == y {
			like = 1
		}
		want := []uint64{x + y, x + 1<<32 - y, x * y, x & y, x | y, x ^ y, x << (y % 32), x >> (y % 32), less, like}
		for i, w := range want {
			if n := reckon(t, i+1, a, b); n != uint32(w) {
				t.Errorf("Op(%d, %d, %d): %d, not %d", i+1, a, b, n, uint32(w))
			}
		}
	})
}

// noOps are numbers that no op has.
func noOps() []int {
	return []int{0, 11, 12, 255, 256, -1, -2, -10, 1<<32 + 1, math.MaxInt, math.MinInt}
}

// P1.1: what is no op is 0 and false.
func TestOpThatIsNone(t *testing.T) {
	for _, op := range noOps() {
		for _, a := range samples() {
			if n, is := Op(op, a, 7); n != 0 || is {
				t.Errorf("Op(%d, %d, 7): %d, %t", op, a, n, is)
			}
		}
	}
}

// P1.2: the signs in the document's order.
func TestSignsInOrder(t *testing.T) {
	ops := []int{api.Add, api.Sub, api.Mul, api.And, api.Or, api.Xor, api.Shl, api.Shr, api.Lt, api.Eq}
	for i, op := range ops {
		if op != i+1 {
			t.Errorf("op %d stands at %d", op, i+1)
		}
		if s, is := Sign(op); s != inOrder[i] || !is {
			t.Errorf("Sign(%d): %q, %t; not %q", op, s, is, inOrder[i])
		}
		if n, is := Of(inOrder[i]); n != op || !is {
			t.Errorf("Of(%q): %d, %t; not %d", inOrder[i], n, is, op)
		}
	}
}

// P1.2: ops that are none have no sign.
func TestSignOfNone(t *testing.T) {
	for _, op := range noOps() {
		if s, is := Sign(op); s != "" || is {
			t.Errorf("Sign(%d): %q, %t", op, s, is)
		}
	}
}

// P1.2: texts that are no sign have no op.
func TestOfNone(t *testing.T) {
	l := []string{"", "=", "!", "!=", "<=", ">", ">=", "===", "<<<", ">>>", "/", "%", "a", "1", "Add", "\x00", "\xff", "+-", "++", "&&", "||", "＋", "sel"}
	for _, s := range inOrder {
		l = append(l, s+" ", " "+s, s+"x", "x"+s, s+"\n", s+"\x00", "\x00"+s, s+"=")
	}
	for _, s := range l {
		if n, is := Of(s); n != 0 || is {
			t.Errorf("Of(%q): %d, %t", s, n, is)
		}
	}
}

// P1.3: a, if c is not 0; else b.
func TestSel(t *testing.T) {
	everyPair(func(a, b uint32) {
		if n := Sel(0, a, b); n != b {
			t.Errorf("Sel(0, %d, %d): %d", a, b, n)
		}
		for _, c := range []uint32{1, 2, 9, 256, 65536, 1 << 31, top - 1, top} {
			if n := Sel(c, a, b); n != a {
				t.Errorf("Sel(%d, %d, %d): %d", c, a, b, n)
			}
		}
	})
}

// P1.4: signs and ops undo one another.
func TestSignsUndoOps(t *testing.T) {
	for op := -300; op <= 300; op++ {
		s, is := Sign(op)
		if is != (op >= api.Add && op <= api.Eq) {
			t.Errorf("Sign(%d): %q, %t", op, s, is)
		}
		if n, isOp := Of(s); is && (n != op || !isOp) {
			t.Errorf("Of(Sign(%d)): %d, %t", op, n, isOp)
		}
	}
	everyShortText(func(s string) {
		op, is := Of(s)
		if back, isSign := Sign(op); isSign != is || back != s && is {
			t.Errorf("Sign(Of(%q)): %q, %t", s, back, isSign)
		}
	})
}

// everyShortText calls f with all texts of at most two bytes.
func everyShortText(f func(s string)) {
	f("")
	for a := range 256 {
		f(string([]byte{byte(a)}))
		for b := range 256 {
			f(string([]byte{byte(a), byte(b)}))
		}
	}
}

// P1.4: Sub undoes Add, and Add undoes Sub.
func TestSubUndoesAdd(t *testing.T) {
	everyPair(func(a, b uint32) {
		if n := reckon(t, api.Sub, reckon(t, api.Add, a, b), b); n != a {
			t.Errorf("%d and %d, less %d: %d", a, b, b, n)
		}
		if n := reckon(t, api.Add, reckon(t, api.Sub, a, b), b); n != a {
			t.Errorf("%d less %d, and %d: %d", a, b, b, n)
		}
	})
}

// P1.4: Xor undoes itself.
func TestXorUndoesItself(t *testing.T) {
	everyPair(func(a, b uint32) {
		if n := reckon(t, api.Xor, reckon(t, api.Xor, a, b), b); n != a {
			t.Errorf("%d ^ %d ^ %d: %d", a, b, b, n)
		}
	})
}

// P1.4: And and Or of two words are together what Add of them is.
func TestAndWithOrIsAdd(t *testing.T) {
	everyPair(func(a, b uint32) {
		n := reckon(t, api.Add, reckon(t, api.And, a, b), reckon(t, api.Or, a, b))
		if sum := reckon(t, api.Add, a, b); n != sum {
			t.Errorf("%d and %d: %d, not %d", a, b, n, sum)
		}
	})
}

// P1.4: Lt is 0 or 1, and of two unlike words it holds just one way round.
func TestLtOneWayRound(t *testing.T) {
	everyPair(func(a, b uint32) {
		x, y := reckon(t, api.Lt, a, b), reckon(t, api.Lt, b, a)
		if x > 1 || y > 1 {
			t.Errorf("Lt of %d, %d: %d, %d", a, b, x, y)
		}
		if a != b && x == y || a == b && x != 0 {
			t.Errorf("Lt of %d, %d: %d, and the other way round %d", a, b, x, y)
		}
	})
}

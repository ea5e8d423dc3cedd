package check

import (
	"fmt"
	"testing"

	"carling/api"
)

// statements asks for what Check tells of each of some.
func statements(t *testing.T, l map[string]api.Errno) {
	t.Helper()
	for s, want := range l {
		statement(t, s, want)
	}
}

// P5.3: SLet: E, then the name.
func TestLet(t *testing.T) {
	statements(t, map[string]api.Errno{
		"(let y 1)": api.OK, "(let y x)": api.OK, "(let y k)": api.OK, "(let y (at s 3))": api.OK,
		"(let x 1)": api.ErrTwice, "(let k 1)": api.ErrTwice, "(let t 1)": api.ErrTwice, "(let s 1)": api.ErrTwice,
		"(let y y)": api.ErrName, "(let y (+ y 1))": api.ErrName, "(let x x)": api.ErrTwice, "(let t t)": api.ErrType, "(let x none)": api.ErrName,
		"(let x (at t 4))": api.ErrIndex, "(let x (call g k))": api.ErrLabel, "(let k (call b.p))": api.ErrType,
		"(let y 1) (let y 2)": api.ErrTwice, "(let y 1) (let z 2)": api.OK, "(let y 1) (let z 2) (let y 3)": api.ErrTwice,
		"(let y 1) (let y none)": api.ErrName, "(let y 1) (new y pub 1)": api.ErrTwice, "(let y 1) (for y 0 1)": api.ErrTwice,
		"(for i 0 2 (let i 1))": api.ErrTwice, "(let g 1) (let f 2) (let a 3) (let b 4)": api.OK,
	})
}

// P5.3: SLet's word is a word that may be set, secret if E is.
func TestLetMakesAWord(t *testing.T) {
	statements(t, map[string]api.Errno{
		"(let y 1) (set y x)": api.OK, "(let y 1) (set y k)": api.ErrLabel, "(let y k) (set y k)": api.OK, "(let y k) (set y 1) (set x y)": api.ErrLabel,
		"(let y 1) (if y () ())": api.OK, "(let y k) (if y () ())": api.ErrLabel, "(let y (at s 0)) (if y () ())": api.ErrLabel, "(let y (at t 0)) (if y () ())": api.OK,
		"(let y (+ 1 k)) (put t 0 y)": api.ErrLabel, "(let y (+ 1 k)) (put s 0 y)": api.OK, "(let y k) (let z y) (set x z)": api.ErrLabel,
		"(let y 1) (put t y 1)": api.ErrIndex, "(let y 1) (put y 0 1)": api.ErrType, "(let y 1) (let z (at y 0))": api.ErrType,
		"(let y (call b.r k)) (if y () ())": api.OK, "(let y (call b.z)) (if y () ())": api.ErrLabel,
	})
}

// P5.3: SNew: the name; an array of its length and label.
func TestNew(t *testing.T) {
	statements(t, map[string]api.Errno{
		"(new u pub 1)": api.OK, "(new u sec 16)": api.OK, "(new x pub 1)": api.ErrTwice, "(new t pub 4)": api.ErrTwice, "(new k sec 4)": api.ErrTwice,
		"(new u pub 1) (new u pub 1)": api.ErrTwice, "(new u pub 1) (let u 1)": api.ErrTwice, "(new u pub 1) (for u 0 1)": api.ErrTwice, "(for i 0 1 (new i pub 1))": api.ErrTwice,
		"(new u pub 3) (put u 2 1)": api.OK, "(new u pub 3) (put u 3 1)": api.ErrIndex, "(new u pub 1) (put u 0 1)": api.OK, "(new u pub 1) (put u 1 1)": api.ErrIndex,
		"(new u pub 16) (put u 15 1)": api.OK, "(new u pub 16) (put u 16 1)": api.ErrIndex, "(new u pub 3) (put u 0 k)": api.ErrLabel, "(new u sec 3) (put u 0 k)": api.OK,
		"(new u sec 3) (set x (at u 0))": api.ErrLabel, "(new u pub 3) (set x (at u 0))": api.OK, "(new u sec 3) (set k (at u 0))": api.OK,
		"(new u pub 3) (set u 1)": api.ErrType, "(new u pub 3) (let y u)": api.ErrType, "(put u 0 1) (new u pub 3)": api.ErrName,
	})
}

// P5.3: SSet: the name, what it stands for, E, then the labels.
func TestSet(t *testing.T) {
	statements(t, map[string]api.Errno{
		"(set x 1)": api.OK, "(set x x)": api.OK, "(set k 1)": api.OK, "(set k k)": api.OK, "(set k x)": api.OK, "(set x k)": api.ErrLabel, "(set x (at s 0))": api.ErrLabel,
		"(set y 1)": api.ErrName, "(set y none)": api.ErrName, "(set y k)": api.ErrName, "(set y (at t 4))": api.ErrName, "(set f 1)": api.ErrName, "(set b 1)": api.ErrName,
		"(set t 1)": api.ErrType, "(set s k)": api.ErrType, "(set t none)": api.ErrType, "(set t (at t 4))": api.ErrType, "(set t (call g k))": api.ErrType,
		"(for i 0 2 (set i 1))": api.ErrType, "(for i 0 2 (set i k))": api.ErrType, "(for i 0 2 (set i none))": api.ErrType, "(for i 0 0 (set i i))": api.ErrType, "(for i 0 2) (set i 1)": api.ErrName,
		"(set x none)": api.ErrName, "(set x t)": api.ErrType, "(set x (at t 4))": api.ErrIndex, "(set x (+ k none))": api.ErrName, "(set x (+ k (at t 4)))": api.ErrIndex, "(set x (call b.q k k))": api.ErrLabel,
		"(set y 1) (let y 1)": api.ErrName, "(let y 1) (set y 2)": api.OK, "(set k k) (set x 1) (set x k)": api.ErrLabel,
	})
}

// P5.3: SPut: the name, what it stands for, Index, E, then the labels.
func TestPut(t *testing.T) {
	statements(t, map[string]api.Errno{
		"(put t 0 1)": api.OK, "(put t 3 x)": api.OK, "(put s 3 k)": api.OK, "(put s 0 x)": api.OK, "(put t 0 k)": api.ErrLabel, "(put t 0 (at s 0))": api.ErrLabel,
		"(put y 0 1)": api.ErrName, "(put y 9 none)": api.ErrName, "(put y none t)": api.ErrName, "(put f 0 1)": api.ErrName,
		"(put x 0 1)": api.ErrType, "(put k 0 k)": api.ErrType, "(put x 99 none)": api.ErrType, "(put x none k)": api.ErrType, "(for i 0 2 (put i 0 1))": api.ErrType,
		"(put t 4 1)": api.ErrIndex, "(put t 4 none)": api.ErrIndex, "(put t 4 k)": api.ErrIndex, "(put t none none)": api.ErrIndex, "(put t t t)": api.ErrIndex, "(put t x 1)": api.ErrIndex, "(put t k 1)": api.ErrIndex,
		"(put t 0 none)": api.ErrName, "(put t 0 t)": api.ErrType, "(put t 0 (at t 4))": api.ErrIndex, "(put t 0 (+ k none))": api.ErrName, "(put t 0 (+ k t))": api.ErrType, "(put t 0 (call g k))": api.ErrLabel,
		"(for i 0 4 (put t i 1))": api.OK, "(for i 0 5 (put t i 1))": api.ErrIndex, "(for i 0 4 (put t i i))": api.OK, "(for i 0 4 (put t i k))": api.ErrLabel, "(for i 0 4) (put t i 1)": api.ErrIndex,
	})
}

// P5.3: SFor: the name, then its Body; its word is public, and may not be set.
func TestFor(t *testing.T) {
	statements(t, map[string]api.Errno{
		"(for i 0 4)": api.OK, "(for i 4 0)": api.OK, "(for i 0 4 (let y i))": api.OK, "(for i 0 4 (set x i))": api.OK, "(for i 0 4 (if i () ()))": api.OK,
		"(for x 0 4)": api.ErrTwice, "(for t 0 4)": api.ErrTwice, "(for k 0 4 (let y none))": api.ErrTwice, "(for s 4 0 (set k none))": api.ErrTwice,
		"(for i 0 4 (for i 0 4))": api.ErrTwice, "(for i 0 4 (for h 0 4 (let i 1)))": api.ErrTwice, "(for i 0 4 (for h 0 4 (set i 1)))": api.ErrType,
		"(for i 0 4) (for i 0 4)": api.OK, "(for i 0 4) (let i 1)": api.OK, "(for i 0 4) (new i pub 1)": api.OK, "(let i 1) (for i 0 4)": api.ErrTwice,
		"(for i 0 4 (let y none))": api.ErrName, "(for i 4 0 (let y none))": api.ErrName, "(for i 0 0 (set t 1))": api.ErrType, "(for i 0 2 (set x 1) (set x k) (set none 1))": api.ErrLabel,
		"(for i 0 2 (let y 1) (let y 2))": api.ErrTwice, "(for i 0 2 (let y i) (for h 0 2 (let z (+ y h))))": api.OK,
		"(for i 0 2 (let y i) (for h 0 2 (let y h)))": api.ErrTwice, "(for i 0 2 (let y (+ i none)))": api.ErrName, "(let y i) (for i 0 2)": api.ErrName,
	})
}

// P5.3: SIf: E, its label, Body, then Else.
func TestIf(t *testing.T) {
	statements(t, map[string]api.Errno{
		"(if x () ())": api.OK, "(if 1 ((set x 1)) ((set x 2)))": api.OK, "(if k () ())": api.ErrLabel, "(if (at s 0) () ())": api.ErrLabel, "(if (sel 1 2 k) () ())": api.ErrLabel,
		"(if none () ())": api.ErrName, "(if t () ())": api.ErrType, "(if (at t 4) () ())": api.ErrIndex, "(if (+ k none) () ())": api.ErrName,
		"(if none ((set t 1)) ((set t 1)))": api.ErrName, "(if k ((set t 1)) ((set none 1)))": api.ErrLabel,
		"(if x ((set t 1)) ((set none 1)))": api.ErrType, "(if x ((set none 1)) ((set t 1)))": api.ErrName, "(if x ((set x 1)) ((set t 1)))": api.ErrType, "(if 0 ((set t 1)) ())": api.ErrType,
		"(if x ((let y 1)) ((let y 2)))": api.OK, "(if x ((let y 1) (let y 2)) ())": api.ErrTwice, "(if x () ((let y 1) (let y 2)))": api.ErrTwice,
		"(if x ((set x 1) (set x k)) ((set none 1)))": api.ErrLabel, "(if x () ((set x 1) (set x k) (set none 1)))": api.ErrLabel,
	})
}

// P5.3: a name is in scope behind where it is named, up to the end of its list of statements, and not behind it.
func TestScope(t *testing.T) {
	for _, named := range []struct{ text, use string }{{"(let y 1)", "(set y 2)"}, {"(let y k)", "(set y k)"}, {"(new y pub 2)", "(put y 1 1)"}, {"(new y sec 2)", "(put y 0 k)"}} {
		open := map[string]api.Errno{
			"NAME USE": api.OK, "USE NAME": api.ErrName, "NAME NAME": api.ErrTwice,
			"NAME (for i 0 2 USE)": api.OK, "NAME (if x (USE) (USE))": api.OK, "NAME (if x () ((for i 0 2 (if x (USE) ()))))": api.OK,
			"NAME (for i 0 2 NAME)": api.ErrTwice, "NAME (if x (NAME) ())": api.ErrTwice, "NAME (if x () (NAME))": api.ErrTwice, "NAME (for i 0 2 (if x () (NAME)))": api.ErrTwice,
			"(for i 0 2 NAME USE)": api.OK, "(for i 0 2 NAME) USE": api.ErrName, "(for i 0 2 USE NAME)": api.ErrName, "(for i 0 2 NAME) NAME": api.OK, "(for i 0 2 NAME) (for i 0 2 USE)": api.ErrName, "(for i 0 2 NAME) (for i 0 2 NAME)": api.OK, "(for i 0 2 NAME) NAME USE": api.OK,
			"(if x (NAME) (USE))": api.ErrName, "(if x (NAME) (NAME))": api.OK, "(if x (NAME) ()) USE": api.ErrName, "(if x () (NAME)) USE": api.ErrName, "(if x (NAME USE) (NAME USE))": api.OK, "(if x (NAME) (NAME)) NAME USE": api.OK,
			"(if x ((if x (NAME) ()) USE) ())": api.ErrName, "(if x ((if x (NAME) ()) NAME USE) ())": api.OK, "(if x (NAME (if x () ()) USE) ())": api.OK, "(if x (NAME (for i 0 2 USE) USE) ())": api.OK,
			"NAME (for i 0 2) USE": api.OK, "NAME (if x () ()) USE": api.OK, "NAME (for i 0 2 USE) USE": api.OK, "NAME (if x (USE) (USE)) USE": api.OK, "NAME (for i 0 2 (let z 1)) USE": api.OK, "NAME (for i 0 2 (let z 1)) (let z 2) USE": api.OK, "NAME (for i 0 2 NAME) USE": api.ErrTwice,
			"NAME (if x ((set x 1) (put t 0 1)) ((set k 1) (put s 0 1))) USE (set x 1) (set k 1) (put t 0 1) (put s 0 1)": api.OK,
		}
		for form, want := range open {
			statement(t, replaced(form, named.text, named.use), want)
		}
	}
	// A name of a loop is in its Body alone, and what stands ahead of the loop is as it was behind it.
	statements(t, map[string]api.Errno{
		"(for i 0 2 (set x i)) (set x i)": api.ErrName, "(for i 0 2 (for h 0 2 (set x (+ i h))))": api.OK, "(for i 0 2 (for h 0 2) (set x h))": api.ErrName, "(for i 0 2 (for h 0 2) (set x i))": api.OK,
		"(for i 0 4 (for h 0 5) (put t i 1))": api.OK, "(for h 0 5) (for h 0 4 (put t h 1))": api.OK, "(for h 0 4) (for h 0 5 (put t h 1))": api.ErrIndex, "(for h 0 4 (if x ((put t h 1)) ((put s h 1))))": api.OK,
	})
}

// replaced is a form with its words NAME and USE laid in.
func replaced(form, name, use string) string {
	out := ""
	for i := 0; i < len(form); i++ {
		switch {
		case form[i] == 'N':
			out += name
			i += len("NAME") - 1
		case form[i] == 'U':
			out += use
			i += len("USE") - 1
		default:
			out += form[i : i+1]
		}
	}
	return out
}

// P5.4: numbers and words.
func TestNumbersAndWords(t *testing.T) {
	for _, s := range []string{"0", "1", "4294967295", "x"} {
		secrecy(t, s, false)
	}
	secrecy(t, "k", true)
	for s, want := range map[string]api.Errno{"none": api.ErrName, "f": api.ErrName, "g": api.ErrName, "a": api.ErrName, "b": api.ErrName, "i": api.ErrName, "t": api.ErrType, "s": api.ErrType} {
		expression(t, s, want)
	}
	statements(t, map[string]api.Errno{"(for i 0 2 (let y i) (set x y))": api.OK, "(for i 0 2 (put t 0 i))": api.OK, "(for i 0 2 (let y (call g i)))": api.OK})
}

// P5.4: EAt: the name, what it stands for, then the index.
func TestAt(t *testing.T) {
	for i := range 4 {
		secrecy(t, fmt.Sprintf("(at t %d)", i), false)
		secrecy(t, fmt.Sprintf("(at s %d)", i), true)
	}
	for s, want := range map[string]api.Errno{
		"(at none 0)": api.ErrName, "(at none 99)": api.ErrName, "(at none none)": api.ErrName, "(at g 0)": api.ErrName, "(at x 0)": api.ErrType, "(at k 0)": api.ErrType, "(at x 99)": api.ErrType, "(at x none)": api.ErrType,
		"(at t 4)": api.ErrIndex, "(at s 4)": api.ErrIndex, "(at t 5)": api.ErrIndex, "(at t 64)": api.ErrIndex, "(at t 2147483648)": api.ErrIndex, "(at t 4294967295)": api.ErrIndex, "(at t 4294967292)": api.ErrIndex,
		"(at t x)": api.ErrIndex, "(at t k)": api.ErrIndex, "(at t none)": api.ErrIndex, "(at t t)": api.ErrIndex, "(at t (+ 0 1))": api.ErrIndex, "(at t (+ none 1))": api.ErrIndex, "(at t (at t 0))": api.ErrIndex, "(at t (at t 9))": api.ErrIndex, "(at t (sel 1 2 3))": api.ErrIndex, "(at t (call b.o))": api.ErrIndex, "(at t (call none))": api.ErrIndex,
	} {
		expression(t, s, want)
	}
}

// P5.4: EAt with the word of a loop: its To counts, whatever its From is; with other words, never.
func TestAtLoops(t *testing.T) {
	for to := range 65 {
		for _, length := range []int{1, 2, 15, 16} {
			for _, from := range []int{0, 1, to, 64} {
				want := api.OK
				if to > length {
					want = api.ErrIndex
				}
				function(t, fmt.Sprintf("pub (new u pub %d) (for i %d %d (set x (at u i))) (ret x)", length, from, to), want)
				function(t, fmt.Sprintf("pub (new u sec %d) (for i %d %d (put u i (at u i))) (ret x)", length, from, to), want)
			}
		}
	}
	statements(t, map[string]api.Errno{
		"(for i 0 4 (for h 0 5 (set x (at t i))))": api.OK, "(for i 0 4 (for h 0 5 (set x (at t h))))": api.ErrIndex, "(for i 0 5 (for h 0 4 (set x (at t h))))": api.OK,
		"(for i 0 4 (let y i) (set x (at t y)))": api.ErrIndex, "(for i 0 4 (set x (at t (+ i 0))))": api.ErrIndex, "(for i 0 4 (new u pub 4) (set x (at t u)))": api.ErrIndex, "(for i 0 4) (set x (at t i))": api.ErrIndex,
		"(for i 0 4 (set x (at i 0)))": api.ErrType, "(for i 0 4 (set x (at i i)))": api.ErrType, "(for i 0 4 (set x (at s i)))": api.ErrLabel, "(for i 0 4 (set k (at s i)))": api.OK,
	})
}

// P5.4: EBin, ESel: their parts, in order; secret, if one is.
func TestParts(t *testing.T) {
	for _, sign := range []string{"+", "-", "*", "&", "|", "^", "<<", ">>", "<", "=="} {
		secrecy(t, "("+sign+" 1 x)", false)
		secrecy(t, "("+sign+" k x)", true)
		secrecy(t, "("+sign+" x k)", true)
		secrecy(t, "("+sign+" k k)", true)
	}
	for _, s := range []string{"(sel x x x)", "(sel 1 (+ x (at t 0)) (sel 1 2 3))", "(+ (call b.r k) (call h k))"} {
		secrecy(t, s, false)
	}
	for _, s := range []string{"(sel k x x)", "(sel x k x)", "(sel x x k)", "(sel k k k)", "(+ 1 (+ 2 (+ 3 k)))", "(sel 1 (+ x (at s 0)) (sel 1 2 3))", "(sel 1 2 (sel 1 2 (at s 3)))", "(+ (call b.z) 1)", "(+ (call b.r k) (call m))"} {
		secrecy(t, s, true)
	}
	wrong := []struct {
		text string
		e    api.Errno
	}{{"none", api.ErrName}, {"t", api.ErrType}, {"(at t 4)", api.ErrIndex}, {"(call g k)", api.ErrLabel}, {"(call b.o 1)", api.ErrType}, {"(call c.p 1)", api.ErrName}}
	for _, one := range wrong {
		for _, two := range wrong {
			expression(t, "(+ "+one.text+" "+two.text+")", one.e)
			expression(t, "(+ k (- x (* "+one.text+" "+two.text+")))", one.e)
			expression(t, "(sel "+one.text+" "+two.text+" 1)", one.e)
			expression(t, "(sel k "+one.text+" "+two.text+")", one.e)
			expression(t, "(sel "+one.text+" k "+two.text+")", one.e)
		}
		expression(t, "(sel x k "+one.text+")", one.e)
	}
}

// P5.4: ECall: which functions there are.
func TestCallNames(t *testing.T) {
	for s, want := range map[string]api.Errno{
		"(call g 1)": api.OK, "(call h 1)": api.OK, "(call m)": api.OK, "(call b.p 1)": api.OK, "(call d.p 1)": api.OK,
		"(call f)": api.ErrName, "(call f 1)": api.ErrName, "(call f 1 2 3 4)": api.ErrName, "(call late)": api.ErrName, "(call none)": api.ErrName, "(call none none)": api.ErrName, "(call none k t)": api.ErrName,
		"(call p 1)": api.ErrName, "(call b 1)": api.ErrName, "(call x)": api.ErrName, "(call a)": api.ErrName,
		"(call a.g 1)": api.ErrName, "(call a.f 1)": api.ErrName, "(call a.late)": api.ErrName, "(call c.p 1)": api.ErrName, "(call c.none)": api.ErrName, "(call b.none)": api.ErrName, "(call b.g 1)": api.ErrName, "(call d.q 1 1)": api.ErrName, "(call e.p 1)": api.ErrName, "(call bb.p 1)": api.ErrName, "(call b.pp 1)": api.ErrName,
	} {
		expression(t, s, want)
	}
	// The first one of a name is the one that is called.
	secrecy(t, "(call b.p 1)", false)
	// With the import c.p is known; without those of b and d theirs are not.
	u := read(t, "(unit a) (import c) (fn f () pub (ret (call c.p 1)))")
	told(t, u, others(t), api.OK, -1)
	told(t, u, nil, api.ErrName, 0)
	told(t, read(t, "(unit a) (import c) (fn f () pub (ret (call b.p 1)))"), others(t), api.ErrName, 0)
	told(t, read(t, "(unit a) (fn f () pub (ret (call b.p 1)))"), others(t), api.ErrName, 0)
	told(t, read(t, "(unit a) (fn f () pub (ret (call d.p 1)))"), others(t), api.ErrName, 0)
	// Those ahead, whichever they are; not those behind.
	toldText(t, "(unit a) (fn f () pub (ret 1)) (fn g () pub (ret (call f))) (fn h () pub (ret (+ (call f) (call g))))", api.OK, -1)
	toldText(t, "(unit a) (fn f () pub (ret (call g))) (fn g () pub (ret 1))", api.ErrName, 0)
	toldText(t, "(unit a) (fn f () pub (ret 1)) (fn g () pub (ret (call h))) (fn h () pub (ret (call f)))", api.ErrName, 1)
	toldText(t, "(unit a) (fn f () pub (ret (call f)))", api.ErrName, 0)
}

// P5.4: ECall: how many parts, and of words alone; ahead of the parts.
func TestCallTypes(t *testing.T) {
	for s, want := range map[string]api.Errno{
		"(call m 1)": api.ErrType, "(call g)": api.ErrType, "(call g 1 2)": api.ErrType, "(call b.p)": api.ErrType, "(call b.p 1 2)": api.ErrType, "(call b.q 1)": api.ErrType, "(call b.q 1 2)": api.OK, "(call b.q 1 2 3)": api.ErrType,
		"(call b.o)": api.OK, "(call b.o 1)": api.ErrType, "(call b.six 1 2 3 4 5)": api.ErrType, "(call b.six 1 2 3 4 5 6)": api.OK,
		"(call arr t)": api.ErrType, "(call arr 1)": api.ErrType, "(call arr)": api.ErrType, "(call b.v t)": api.ErrType, "(call b.v 1)": api.ErrType, "(call b.w 1 1)": api.ErrType, "(call b.y 1 1)": api.ErrType, "(call b.w 1 s)": api.ErrType, "(call b.w 1 none)": api.ErrType,
		"(call g none none)": api.ErrType, "(call g k k)": api.ErrType, "(call b.q (at t 4))": api.ErrType, "(call arr none)": api.ErrType, "(call b.y none k)": api.ErrType,
		"(call g none)": api.ErrName, "(call g t)": api.ErrType, "(call g (at t 4))": api.ErrIndex, "(call g (call g))": api.ErrType, "(call g (call none))": api.ErrName,
	} {
		expression(t, s, want)
	}
	// A Len below 0 is no array's.
	told(t, read(t, "(unit a) (import b) (fn f () pub (ret (call b.n 1)))"), []api.Sig{{Name: "b.n", Params: []api.Type{{Len: -1}}}}, api.OK, -1)
	// Signatures that may not be have their Params all the same.
	told(t, read(t, "(unit a) (import b) (fn f () pub (ret (call b.n 1)))"), []api.Sig{{Name: "b.n", Params: []api.Type{{Len: 99}}}}, api.ErrType, 0)
	told(t, read(t, "(unit a) (import b) (fn f () pub (ret (call b.n 1 1 1 1 1 1)))"), []api.Sig{{Name: "b.n", Params: make([]api.Type, 7)}}, api.ErrType, 0)
}

// P5.4: ECall: the parts, in order, each with what is wrong with it, and then with its label. Of a call it counts alone whether its function's Sec is true.
func TestCallLabels(t *testing.T) {
	for s, want := range map[string]api.Errno{
		"(call g x)": api.OK, "(call g k)": api.ErrLabel, "(call h k)": api.OK, "(call h x)": api.OK, "(call b.q x k)": api.OK, "(call b.q k k)": api.ErrLabel, "(call b.q k x)": api.ErrLabel,
		"(call b.q k none)": api.ErrLabel, "(call b.q k t)": api.ErrLabel, "(call b.q none k)": api.ErrName, "(call b.q t k)": api.ErrType, "(call b.q (+ k none) k)": api.ErrName, "(call b.q x none)": api.ErrName, "(call b.q x (at s 4))": api.ErrIndex,
		"(call b.six x k x k x k)": api.OK, "(call b.six x k k k x k)": api.ErrLabel, "(call b.six x k x k k k)": api.ErrLabel, "(call b.six x k x none k k)": api.ErrName, "(call b.six x k x k k none)": api.ErrLabel, "(call b.six x k x k x none)": api.ErrName,
		"(call g (at s 0))": api.ErrLabel, "(call g (call m))": api.ErrLabel, "(call g (call h k))": api.OK, "(call g (call b.z))": api.ErrLabel, "(call g (call b.r k))": api.OK, "(call g (call b.q x x))": api.ErrLabel, "(call g (sel 1 2 k))": api.ErrLabel,
	} {
		expression(t, s, want)
	}
	for _, s := range []string{"(call g x)", "(call h k)", "(call h (at s 0))", "(call b.r k)", "(call b.six x k x k x k)", "(call h (call m))"} {
		secrecy(t, s, false)
	}
	for _, s := range []string{"(call m)", "(call b.z)", "(call b.q 1 1)", "(call d.p 1)", "(call d.p k)", "(+ (call h k) (call m))"} {
		secrecy(t, s, true)
	}
}

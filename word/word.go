// Package word is layer 1: words of 32 bits, and how they are reckoned.
package word

import "carling/api"

// Op is two words, reckoned modulo 2^32; false of what is no op.
func Op(op int, a, b uint32) (uint32, bool) {
	switch op {
	case api.Add:
		return a + b, true
	case api.Sub:
		return a - b, true
	case api.Mul:
		return a * b, true
	case api.And:
		return a & b, true
	case api.Or:
		return a | b, true
	case api.Xor:
		return a ^ b, true
	case api.Shl:
		return a << shift(b), true
	case api.Shr:
		return a >> shift(b), true
	case api.Lt:
		return truth(a < b), true
	case api.Eq:
		return truth(a == b), true
	}
	return 0, false
}

// shift is by how many bits b shifts: Go's own shift by 32 or more leaves nothing, where a word's begins anew.
func shift(b uint32) uint32 {
	return b % 32
}

// truth is what a comparison answers, as a word.
func truth(holds bool) uint32 {
	if holds {
		return 1
	}
	return 0
}

// signs are how the ops are written, each at its op's place. No op is 0, so what stands there is no sign.
func signs() [api.Eq + 1]string {
	return [api.Eq + 1]string{
		api.Add: "+",
		api.Sub: "-",
		api.Mul: "*",
		api.And: "&",
		api.Or:  "|",
		api.Xor: "^",
		api.Shl: "<<",
		api.Shr: ">>",
		api.Lt:  "<",
		api.Eq:  "==",
	}
}

// Sign is how an op is written; false of what is no op.
func Sign(op int) (string, bool) {
	if op < api.Add || op > api.Eq {
		return "", false
	}
	return signs()[op], true
}

// Of is the op of a sign; false of what is none.
func Of(sign string) (int, bool) {
	table := signs()
	for op := api.Add; op <= api.Eq; op++ {
		if table[op] == sign {
			return op, true
		}
	}
	return 0, false
}

// Sel is a, if c is not 0; else b.
func Sel(c, a, b uint32) uint32 {
	if c != 0 {
		return a
	}
	return b
}

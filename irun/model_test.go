package irun

import (
	"math/big"
	"regexp"
	"strings"

	"carling/api"
)

// A second Right, by patterns and letters, and a second Run: one loop over a pile of calls, whose registers and cells stand in maps, which counts beyond what there may be and asks behind the run whether it was too much.

// pair is what two names with a dot between are like.
var pair = regexp.MustCompile(`\A[a-z][a-z0-9_]{0,11}\.[a-z][a-z0-9_]{0,11}\z`)

// between tells whether a number is one from least to most.
func between(n, least, most int) bool { return least <= n && n <= most }

// modelForm tells whether there is a ground of ErrForm.
func modelForm(c api.Code) bool {
	words, sum, bad := 0, 0, 0
	for _, p := range c.Params {
		switch {
		case !between(p.Len, 0, 16):
			bad++
		case p.Len > 0:
			sum += p.Len
		default:
			words++
		}
	}
	return bad > 0 || !pair.MatchString(c.Name) || len(c.Params) > 6 || !between(c.Regs, words, 10000) || !between(c.Cells, sum, 4096) || !between(len(c.L), 1, 10000)
}

// modelRight is Right's: the grounds of an instruction are gathered, and the least one is told, as their numbers rise as they are named.
func modelRight(c api.Code) (api.Errno, int) {
	if modelForm(c) {
		return api.ErrForm, -1
	}
	for i, x := range c.L {
		least := api.Errno(100)
		ground := func(e api.Errno, holds bool) {
			if holds {
				least = min(least, e)
			}
		}
		ground(api.ErrEnd, i+1 == len(c.L) && x.Kind != api.IRet)
		if x.Kind == api.IJump || x.Kind == api.IZero {
			ground(api.ErrJump, !between(x.C, i+1, len(c.L)-1))
		}
		if x.Kind == api.ILoad || x.Kind == api.IStore {
			ground(api.ErrAddr, int64(x.N)-int64(c.Cells) >= 0)
		}
		if between(x.Kind, 1, 10) {
			for _, letter := range registersOf(x.Kind) {
				for _, r := range map[rune][]int{'D': {x.D}, 'A': {x.A}, 'B': {x.B}, 'C': {x.C}, 's': x.Args}[letter] {
					ground(api.ErrReg, !between(r, 0, c.Regs-1))
				}
			}
		}
		ground(api.ErrOp, !between(x.Kind, 1, 10))
		ground(api.ErrOp, x.Kind == api.IBin && !between(x.Op, 1, 10))
		ground(api.ErrOp, x.Kind == api.ICall && (len(x.Args) > 6 || !pair.MatchString(x.Name)))
		if least < 100 {
			return least, i
		}
	}
	return api.OK, -1
}

// level is a call of the pile: its function, where it stands, and which register of the one below it waits.
type level struct {
	c     api.Code
	at    int
	regs  map[int]uint32
	cells map[uint32]uint32
	d     int
}

// enter is a level of a function with these arguments.
func enter(c api.Code, args []uint32, d int) *level {
	v := &level{c: c, regs: map[int]uint32{}, cells: map[uint32]uint32{}, d: d}
	var words, cells []uint32
	for _, p := range c.Params {
		if p.Len == 0 {
			words, args = append(words, args[0]), args[1:]
		}
		cells, args = append(cells, args[:p.Len]...), args[p.Len:]
	}
	for i, x := range words {
		v.regs[i] = x
	}
	for i, x := range cells {
		v.cells[uint32(i)] = x
	}
	return v
}

// modelRun is Run's; and how many instructions were gone through.
func modelRun(l []api.Code, name string, args []uint32) (api.Outcome, []int, api.Errno, int) {
	known := map[string][]api.Code{}
	twice := false
	for _, c := range l {
		if e, _ := modelRight(c); e != api.OK {
			return api.Outcome{}, nil, api.ErrForm, 0
		}
		twice = twice || len(known[c.Name]) > 0
		known[c.Name] = append(known[c.Name], c)
	}
	if twice {
		return api.Outcome{}, nil, api.ErrTwice, 0
	}
	if len(known[name]) == 0 {
		return api.Outcome{}, nil, api.ErrNone, 0
	}
	need := 0
	for _, p := range known[name][0].Params {
		need += max(1, p.Len)
	}
	if len(args) != need {
		return api.Outcome{}, nil, api.ErrArg, 0
	}
	o, branches, e, gone := modelPile(known, enter(known[name][0], args, 0))
	if gone > 60000 {
		e = api.ErrFuel
	}
	if e != api.OK {
		return api.Outcome{}, nil, e, gone
	}
	return o, branches, e, gone
}

// modelPile goes through a function and those that it calls. It is left some way beyond what may be gone through.
func modelPile(known map[string][]api.Code, first *level) (o api.Outcome, branches []int, e api.Errno, gone int) {
	pile := []*level{first}
	for gone < 60100 {
		v := pile[len(pile)-1]
		x := v.c.L[v.at]
		v.at++
		gone++
		switch x.Kind {
		case api.IConst:
			v.regs[x.D] = x.N
		case api.ICopy:
			v.regs[x.D] = v.regs[x.A]
		case api.IBin:
			v.regs[x.D] = modelOp(x.Op, v.regs[x.A], v.regs[x.B])
		case api.ISel:
			if v.regs[x.A] == 0 {
				v.regs[x.D] = v.regs[x.C]
			} else {
				v.regs[x.D] = v.regs[x.B]
			}
		case api.ILoad:
			v.regs[x.D] = v.cells[x.N]
		case api.IStore:
			v.cells[x.N] = v.regs[x.A]
		case api.IJump:
			v.at = x.C
		case api.IZero:
			way := 1
			if v.regs[x.A] == 0 {
				way, v.at = 0, x.C
			}
			branches = append(branches, way)
		case api.ICall:
			c := known[x.Name]
			if len(c) == 0 {
				return o, nil, api.ErrName, gone
			}
			if len(c[0].Params) != len(x.Args) || strings.ContainsFunc(lengths(c[0]), func(r rune) bool { return r > 0 }) {
				return o, nil, api.ErrType, gone
			}
			if len(pile) == 33 { // the first one is no call
				return o, nil, api.ErrFuel, gone
			}
			var args []uint32
			for _, r := range x.Args {
				args = append(args, v.regs[r])
			}
			pile = append(pile, enter(c[0], args, x.D))
		case api.IRet:
			pile = pile[:len(pile)-1]
			if len(pile) > 0 {
				pile[len(pile)-1].regs[v.d] = v.regs[x.A]
				continue
			}
			o.Result = v.regs[x.A]
			for i := range len(lengths(v.c)) {
				for range v.c.Params[i].Len {
					o.Arrays = append(o.Arrays, v.cells[uint32(len(o.Arrays))])
				}
			}
			return o, branches, api.OK, gone
		}
	}
	return o, nil, api.ErrFuel, gone
}

// lengths are a function's parameters as a text, a letter each.
func lengths(c api.Code) string {
	s := ""
	for _, p := range c.Params {
		s += string(rune(p.Len))
	}
	return s
}

// modelOp is word.Op's, of numbers without end.
func modelOp(op int, a, b uint32) uint32 {
	x, y, z := big.NewInt(int64(a)), big.NewInt(int64(b)), new(big.Int)
	switch op {
	case api.Add:
		z.Add(x, y)
	case api.Sub:
		z.Sub(x, y)
	case api.Mul:
		z.Mul(x, y)
	case api.And:
		z.And(x, y)
	case api.Or:
		z.Or(x, y)
	case api.Xor:
		z.Xor(x, y)
	case api.Shl:
		z.Lsh(x, uint(b%32))
	case api.Shr:
		z.Rsh(x, uint(b%32))
	case api.Lt:
		z.SetInt64(int64(max(0, y.Cmp(x))))
	case api.Eq:
		z.SetInt64(int64(1 - x.CmpAbs(y)*x.CmpAbs(y)))
	}
	return uint32(z.Mod(z, big.NewInt(1<<32)).Uint64())
}

package mean

import (
	"math/big"
	"strconv"
	"strings"
	"testing"

	"carling/api"
	"carling/tree"
)

// A second run: it goes through nodes, its scopes are lists that are never changed, it counts all steps, and asks behind the run whether they were too many.

// cells are the words that stand under a name (a word is one), and the names ahead of it.
type cells struct {
	name string
	l    []uint32
	up   *cells
}

// get are the words of a name.
func (c *cells) get(name string) []uint32 {
	for c.name != name {
		c = c.up
	}
	return c.l
}

// second is such a run.
type second struct {
	funcs    map[string]api.Node
	steps    int
	deepest  int
	branches []int
}

// enough is where a run is left, as it is known already that it takes too long.
const enough = 4000

// over tells whether it is.
func (m *second) over() bool { return m.steps > enough || m.deepest > api.MaxDepth }

// modelRun is Run's, of units with which nothing is wrong and a function that has these arguments; and how many steps it takes.
func modelRun(t testing.TB, l []api.Unit, name string, args []uint32) (api.Outcome, []int, api.Errno, int) {
	m := &second{funcs: map[string]api.Node{}}
	for _, u := range l {
		nodes, e := tree.Nodes(u)
		if e != api.OK {
			t.Fatal(e)
		}
		for _, n := range nodes {
			if n.L[0].Word == "fn" {
				m.funcs[u.Name+"."+n.L[1].Word] = n
			}
		}
	}
	o := m.function(name, args, 0)
	if m.steps > 3000 || m.deepest > api.MaxDepth {
		return api.Outcome{}, nil, api.ErrFuel, m.steps
	}
	return o, m.branches, api.OK, m.steps
}

// function goes through a function, within so many calls.
func (m *second) function(name string, args []uint32, deep int) api.Outcome {
	m.deepest = max(m.deepest, deep)
	if m.over() {
		return api.Outcome{}
	}
	fn := m.funcs[name]
	unit, _, _ := strings.Cut(name, ".")
	var env *cells
	var arrays []*cells
	for _, p := range fn.L[2].L {
		n := 1
		if len(p.L) == 3 {
			n, _ = strconv.Atoi(p.L[2].Word)
		}
		env = &cells{name: p.L[0].Word, l: append([]uint32{}, args[:n]...), up: env}
		args = args[n:]
		if len(p.L) == 3 {
			arrays = append(arrays, env)
		}
	}
	last := len(fn.L) - 1
	env = m.list(fn.L[4:last], env, unit, deep)
	o := api.Outcome{Result: m.expr(fn.L[last].L[1], env, unit, deep)}
	for _, c := range arrays {
		o.Arrays = append(o.Arrays, c.l...)
	}
	return o
}

// list goes through statements, and tells what is in scope behind them.
func (m *second) list(l []api.Node, env *cells, unit string, deep int) *cells {
	for _, n := range l {
		if m.over() {
			return env
		}
		m.steps++
		env = m.stmt(n, env, unit, deep)
	}
	return env
}

// stmt goes through a statement.
func (m *second) stmt(n api.Node, env *cells, unit string, deep int) *cells {
	switch n.L[0].Word {
	case "let":
		return &cells{name: n.L[1].Word, l: []uint32{m.expr(n.L[2], env, unit, deep)}, up: env}
	case "new":
		return &cells{name: n.L[1].Word, l: make([]uint32, integer(n.L[3])), up: env}
	case "set":
		x := m.expr(n.L[2], env, unit, deep)
		env.get(n.L[1].Word)[0] = x
	case "put":
		x := m.expr(n.L[3], env, unit, deep)
		env.get(n.L[1].Word)[m.plain(n.L[2], env)] = x
	case "for":
		for i := integer(n.L[2]); i < integer(n.L[3]); i++ {
			m.list(n.L[4:], &cells{name: n.L[1].Word, l: []uint32{uint32(i)}, up: env}, unit, deep)
		}
	case "if":
		way := 0
		if m.expr(n.L[1], env, unit, deep) > 0 {
			way = 1
		}
		m.branches = append(m.branches, way)
		m.list(n.L[3-way].L, env, unit, deep)
	}
	return env
}

// integer is the number that a node is.
func integer(n api.Node) int {
	i, _ := strconv.Atoi(n.Word)
	return i
}

// plain is what a node that is a word comes to.
func (m *second) plain(n api.Node, env *cells) uint32 {
	if '0' <= n.Word[0] && n.Word[0] <= '9' {
		return uint32(integer(n))
	}
	return env.get(n.Word)[0]
}

// expr is what an expression comes to.
func (m *second) expr(n api.Node, env *cells, unit string, deep int) uint32 {
	m.steps++
	if m.over() {
		return 0
	}
	if !n.IsList {
		return m.plain(n, env)
	}
	first := n.L[0].Word
	if first == "at" {
		return env.get(n.L[1].Word)[m.plain(n.L[2], env)]
	}
	parts := n.L[1:]
	if first == "call" {
		parts = parts[1:]
	}
	var l []uint32
	for _, part := range parts {
		l = append(l, m.expr(part, env, unit, deep))
	}
	switch first {
	case "sel":
		if l[0] == 0 {
			return l[2]
		}
		return l[1]
	case "call":
		name := n.L[1].Word
		if !strings.Contains(name, ".") {
			name = unit + "." + name
		}
		return m.function(name, l, deep+1).Result
	}
	return reckoned(first, l[0], l[1])
}

// reckoned are two words by a sign, as numbers without a limit, modulo 2^32.
func reckoned(sign string, x, y uint32) uint32 {
	a, b, r := big.NewInt(int64(x)), big.NewInt(int64(y)), new(big.Int)
	switch sign {
	case "+":
		r.Add(a, b)
	case "-":
		r.Sub(a, b)
	case "*":
		r.Mul(a, b)
	case "&":
		r.And(a, b)
	case "|":
		r.Or(a, b)
	case "^":
		r.Xor(a, b)
	case "<<":
		r.Lsh(a, uint(y%32))
	case ">>":
		r.Rsh(a, uint(y%32))
	case "<":
		if a.Cmp(b) < 0 {
			return 1
		}
	case "==":
		if a.Cmp(b) == 0 {
			return 1
		}
	}
	return uint32(r.Mod(r, big.NewInt(1<<32)).Uint64())
}

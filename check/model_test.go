package check

import (
	"slices"
	"strconv"
	"strings"

	"carling/api"
	"carling/face"
	"carling/tree"
)

// A second checker: it goes through nodes, its scopes are lists that are never changed, and it gives up at the first fault by a panic.

// bound is a name in scope, and those ahead of it.
type bound struct {
	name string
	what byte // w: a word, l: a loop's, a: an array
	sec  bool
	n    int
	up   *bound
}

// get is what a name stands for; nil, if it is not in scope.
func (b *bound) get(name string) *bound {
	for ; b != nil && b.name != name; b = b.up {
	}
	return b
}

// judge is a function of a unit, the unit's nodes ahead of it, and the signatures that are known.
type judge struct {
	imports []string
	ahead   []api.Node
	known   []api.Sig
}

// fail gives up, if something is so.
func fail(is bool, e api.Errno) {
	if is {
		panic(e)
	}
}

// caught is what something gives up with, or OK.
func caught(do func()) (e api.Errno) {
	defer func() {
		if r := recover(); r != nil {
			e = r.(api.Errno)
		}
	}()
	do()
	return api.OK
}

// modelCheck is what Check tells.
func modelCheck(u api.Unit, known []api.Sig) (api.Errno, int) {
	l, e := tree.Nodes(u)
	if e != api.OK {
		return api.ErrForm, -1
	}
	names := append(slices.Clone(u.Imports), u.Name)
	slices.Sort(names)
	if len(slices.Compact(slices.Clone(names))) < len(names) {
		return api.ErrTwice, -1
	}
	fns := l[len(l)-len(u.Funcs):]
	for i, fn := range fns {
		j := judge{u.Imports, fns[:i], known}
		if e := caught(func() { j.function(fn.L) }); e != api.OK {
			return e, i
		}
	}
	return api.OK, -1
}

// function judges the nodes of a function.
func (j judge) function(l []api.Node) {
	for _, other := range j.ahead {
		fail(other.L[1].Word == l[1].Word, api.ErrTwice)
	}
	var sc *bound
	for _, p := range l[2].L {
		fail(sc.get(p.L[0].Word) != nil, api.ErrTwice)
		sc = declared(sc, p.L)
	}
	sc = j.list(l[4:len(l)-1], sc)
	result := l[len(l)-1].L[1]
	fail(j.expr(result, sc) && l[3].Word == "pub", api.ErrLabel)
	fail(1+modelList(l[4:len(l)-1])+modelExpr(result) > 2000, api.ErrLong)
}

// declared is a scope with a name, a label and perhaps a length in it.
func declared(sc *bound, l []api.Node) *bound {
	b := bound{name: l[0].Word, what: 'w', sec: l[1].Word == "sec", up: sc}
	if len(l) > 2 {
		b.what = 'a'
		b.n, _ = strconv.Atoi(l[2].Word)
	}
	return &b
}

// list judges statements, and tells the scope behind them.
func (j judge) list(l []api.Node, sc *bound) *bound {
	for _, s := range l {
		sc = j.stmt(s.L, sc)
	}
	return sc
}

// stmt judges a statement, and tells the scope behind it.
func (j judge) stmt(l []api.Node, sc *bound) *bound {
	name := l[1].Word
	old := sc.get(name)
	switch l[0].Word {
	case "let":
		sec := j.expr(l[2], sc)
		fail(old != nil, api.ErrTwice)
		return &bound{name, 'w', sec, 0, sc}
	case "new":
		fail(old != nil, api.ErrTwice)
		return declared(sc, l[1:])
	case "set":
		fail(old == nil, api.ErrName)
		fail(old.what != 'w', api.ErrType)
		fail(j.expr(l[2], sc) && !old.sec, api.ErrLabel)
	case "put":
		sec := j.at(l[1], l[2], sc)
		fail(j.expr(l[3], sc) && !sec, api.ErrLabel)
	case "for":
		fail(old != nil, api.ErrTwice)
		to, _ := strconv.Atoi(l[3].Word)
		j.list(l[4:], &bound{name, 'l', false, to, sc})
	case "if":
		fail(j.expr(l[1], sc), api.ErrLabel)
		j.list(l[2].L, sc)
		j.list(l[3].L, sc)
	}
	return sc
}

// at judges an array's place, and tells whether it is secret.
func (j judge) at(name, index api.Node, sc *bound) bool {
	b := sc.get(name.Word)
	fail(b == nil, api.ErrName)
	fail(b.what != 'a', api.ErrType)
	fail(index.IsList, api.ErrIndex)
	if n, err := strconv.ParseUint(index.Word, 10, 32); err == nil {
		fail(n >= uint64(b.n), api.ErrIndex)
		return b.sec
	}
	i := sc.get(index.Word)
	fail(i == nil || i.what != 'l' || i.n > b.n, api.ErrIndex)
	return b.sec
}

// expr judges an expression, and tells whether it is secret.
func (j judge) expr(x api.Node, sc *bound) bool {
	if !x.IsList {
		if x.Word[0] <= '9' {
			return false
		}
		b := sc.get(x.Word)
		fail(b == nil, api.ErrName)
		fail(b.what == 'a', api.ErrType)
		return b.sec
	}
	switch x.L[0].Word {
	case "at":
		return j.at(x.L[1], x.L[2], sc)
	case "call":
		return j.call(x.L[1].Word, x.L[2:], sc)
	}
	sec := 0
	for _, part := range x.L[1:] {
		if j.expr(part, sc) {
			sec++
		}
	}
	return sec > 0
}

// call judges a call, and tells whether it is secret.
func (j judge) call(name string, parts []api.Node, sc *bound) bool {
	var types []string
	var sec, found bool
	for _, fn := range j.ahead {
		if fn.L[1].Word == name {
			found, sec = true, fn.L[3].Word == "sec"
			for _, p := range fn.L[2].L {
				types = append(types, []string{"", "", p.L[1].Word, "array"}[len(p.L)])
			}
		}
	}
	for i := len(j.known) - 1; i >= 0; i-- {
		sig := j.known[i]
		if unit, _, two := strings.Cut(name, "."); two && slices.Contains(j.imports, unit) && sig.Name == name {
			found, sec, types = true, sig.Sec, nil
			for _, t := range sig.Params {
				types = append(types, map[[2]bool]string{{false, false}: "pub", {true, false}: "sec", {false, true}: "array", {true, true}: "array"}[[2]bool{t.Sec, t.Len > 0}])
			}
		}
	}
	fail(!found, api.ErrName)
	fail(len(types) != len(parts) || slices.Contains(types, "array"), api.ErrType)
	for i, part := range parts {
		fail(j.expr(part, sc) && types[i] == "pub", api.ErrLabel)
	}
	return sec
}

// modelExpr is the weight of an expression's nodes.
func modelExpr(x api.Node) int {
	n := 1
	if !x.IsList {
		return n
	}
	parts := x.L[1:]
	if x.L[0].Word == "at" || x.L[0].Word == "call" {
		parts = x.L[2:]
	}
	for _, part := range parts {
		n += modelExpr(part)
	}
	return n
}

// modelList is the weight of statements' nodes: loops are gone through round by round.
func modelList(l []api.Node) int {
	n := 0
	for _, s := range l {
		last := s.L[len(s.L)-1]
		switch s.L[0].Word {
		case "let", "set", "put":
			n += 1 + modelExpr(last)
		case "new":
			size, _ := strconv.Atoi(last.Word)
			n += size
		case "for":
			from, _ := strconv.Atoi(s.L[2].Word)
			to, _ := strconv.Atoi(s.L[3].Word)
			for i := from; i < to; i++ {
				n += modelList(s.L[4:])
			}
		case "if":
			n += 3 + modelExpr(s.L[1]) + modelList(s.L[2].L) + modelList(s.L[3].L)
		}
	}
	return n
}

// modelAll is what All tells.
func modelAll(l []api.Unit) (api.Errno, int, int) {
	var names []string
	var known []api.Sig
	for _, u := range l {
		names = append(names, u.Name)
		known = append(known, face.Sigs(u)...)
	}
	for i, u := range l {
		if slices.Contains(names[:i], u.Name) {
			return api.ErrTwice, i, -1
		}
		for _, name := range u.Imports {
			if !slices.Contains(names, name) {
				return api.ErrName, i, -1
			}
		}
		if e, n := modelCheck(u, known); e != api.OK {
			return e, i, n
		}
	}
	for i := range l {
		if reaches(l, names, i, i, len(l)) {
			return api.ErrCycle, -1, -1
		}
	}
	return api.OK, -1, -1
}

// reaches tells whether a unit imports another one, through at most some.
func reaches(l []api.Unit, names []string, from, to, some int) bool {
	if some == 0 {
		return false
	}
	for _, name := range l[from].Imports {
		next := slices.Index(names, name)
		if next == to || reaches(l, names, next, to, some-1) {
			return true
		}
	}
	return false
}

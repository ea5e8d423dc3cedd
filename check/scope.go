package check

import (
	"strings"

	"carling/api"
	"carling/face"
)

// thing is what a name in scope stands for. The zero thing is what all other names stand for.
type thing struct {
	kind int
	sec  bool
	size int // an array's length, a loop's To
}

// Kinds of things.
const (
	isWord  = 1 // a word that may be set
	isLoop  = 2 // a loop's word
	isArray = 3
)

// walk is what is known where a function of a unit is gone through.
type walk struct {
	unit    string
	ahead   []api.Sig // the unit's own functions that it may call
	imports map[string]int
	others  []api.Sig
	scope   map[string]thing
}

// knows tells whether a name is in scope.
func (w walk) knows(name string) bool {
	return w.scope[name] != thing{}
}

// add puts a name in scope, if it is not there already.
func (w walk) add(name string, t thing) api.Errno {
	if w.knows(name) {
		return api.ErrTwice
	}
	w.scope[name] = t
	return api.OK
}

// typed is a thing of a type: a word that may be set, or an array.
func typed(t api.Type) thing {
	if t.Len > 0 {
		return thing{kind: isArray, sec: t.Sec, size: t.Len}
	}
	return thing{kind: isWord, sec: t.Sec}
}

// function tells what is wrong with a function.
func (w walk) function(f api.Func) api.Errno {
	for _, p := range f.Params {
		if e := w.add(p.Name, typed(p.Type)); e != api.OK {
			return e
		}
	}
	if e := w.statements(f.Body); e != api.OK {
		return e
	}
	if e := w.flows(f.Result, f.Sec); e != api.OK {
		return e
	}
	if Weight(f) > api.MaxCode {
		return api.ErrLong
	}
	return api.OK
}

// statements tells what is wrong with statements, and leaves in scope what they name.
func (w walk) statements(l []api.Stmt) api.Errno {
	for _, s := range l {
		if e := w.statement(s); e != api.OK {
			return e
		}
	}
	return api.OK
}

// within tells what is wrong with statements that stand within another one: behind them nothing that they name is in scope. None of it was ahead of them either, as that is ErrTwice.
func (w walk) within(l []api.Stmt) api.Errno {
	if e := w.statements(l); e != api.OK {
		return e
	}
	for _, s := range l {
		if s.Kind == api.SLet || s.Kind == api.SNew {
			delete(w.scope, s.Name)
		}
	}
	return api.OK
}

// statement tells what is wrong with a statement.
func (w walk) statement(s api.Stmt) api.Errno {
	switch s.Kind {
	case api.SLet:
		return w.let(s)
	case api.SNew:
		return w.add(s.Name, typed(s.Type))
	case api.SSet:
		return w.set(s)
	case api.SPut:
		return w.put(s)
	case api.SFor:
		return w.loop(s)
	}
	return w.branch(s)
}

// let tells what is wrong with an SLet.
func (w walk) let(s api.Stmt) api.Errno {
	sec, e := w.expression(s.E)
	if e != api.OK {
		return e
	}
	return w.add(s.Name, thing{kind: isWord, sec: sec})
}

// set tells what is wrong with an SSet.
func (w walk) set(s api.Stmt) api.Errno {
	if !w.knows(s.Name) {
		return api.ErrName
	}
	word := w.scope[s.Name]
	if word.kind != isWord {
		return api.ErrType
	}
	return w.flows(s.E, word.sec)
}

// put tells what is wrong with an SPut.
func (w walk) put(s api.Stmt) api.Errno {
	sec, e := w.place(s.Name, s.Index)
	if e != api.OK {
		return e
	}
	return w.flows(s.E, sec)
}

// loop tells what is wrong with an SFor.
func (w walk) loop(s api.Stmt) api.Errno {
	if e := w.add(s.Name, thing{kind: isLoop, size: s.To}); e != api.OK {
		return e
	}
	e := w.within(s.Body)
	delete(w.scope, s.Name)
	return e
}

// branch tells what is wrong with an SIf. Which way it goes is seen by all, so what it hangs on is public.
func (w walk) branch(s api.Stmt) api.Errno {
	if e := w.flows(s.E, false); e != api.OK {
		return e
	}
	if e := w.within(s.Body); e != api.OK {
		return e
	}
	return w.within(s.Else)
}

// flows tells what is wrong with an expression of which something is made that is secret, or is not.
func (w walk) flows(x api.Expr, toSecret bool) api.Errno {
	sec, e := w.expression(x)
	if e == api.OK && sec && !toSecret {
		return api.ErrLabel
	}
	return e
}

// expression tells whether an expression is secret, and what is wrong with it.
func (w walk) expression(x api.Expr) (bool, api.Errno) {
	switch x.Kind {
	case api.EVar:
		return w.variable(x.Name)
	case api.EAt:
		return w.place(x.Name, x.L[0])
	case api.EBin, api.ESel:
		return w.parts(x.L)
	case api.ECall:
		return w.call(x)
	}
	return false, api.OK // a number
}

// variable is expression's, of a word.
func (w walk) variable(name string) (bool, api.Errno) {
	if !w.knows(name) {
		return false, api.ErrName
	}
	t := w.scope[name]
	if t.kind == isArray {
		return false, api.ErrType
	}
	return t.sec, api.OK
}

// place is expression's, of an array's place.
func (w walk) place(name string, index api.Expr) (bool, api.Errno) {
	if !w.knows(name) {
		return false, api.ErrName
	}
	array := w.scope[name]
	if array.kind != isArray {
		return false, api.ErrType
	}
	if !w.isBelow(index, array.size) {
		return false, api.ErrIndex
	}
	return array.sec, api.OK
}

// isBelow tells whether an index is below a length, whatever is run. That is known of a number and of a loop's word alone.
func (w walk) isBelow(index api.Expr, length int) bool {
	switch index.Kind {
	case api.ENum:
		return uint64(index.N) < uint64(length)
	case api.EVar:
		t := w.scope[index.Name]
		return t.kind == isLoop && t.size <= length
	}
	return false
}

// parts is expression's, of one of which any part makes it secret.
func (w walk) parts(l []api.Expr) (bool, api.Errno) {
	secret := false
	for _, part := range l {
		sec, e := w.expression(part)
		if e != api.OK {
			return false, e
		}
		secret = secret || sec
	}
	return secret, api.OK
}

// call is expression's, of a call.
func (w walk) call(x api.Expr) (bool, api.Errno) {
	sig, is := w.find(x.Name)
	if !is {
		return false, api.ErrName
	}
	if len(sig.Params) != len(x.L) {
		return false, api.ErrType
	}
	for _, t := range sig.Params {
		if t.Len > 0 {
			return false, api.ErrType
		}
	}
	for i, part := range x.L {
		if e := w.flows(part, sig.Params[i].Sec); e != api.OK {
			return false, e
		}
	}
	return sig.Sec, api.OK
}

// find is the function that is called by a name: the unit's own are called by theirs alone, so that of two names the first one must be imported.
func (w walk) find(name string) (api.Sig, bool) {
	unit, _, two := strings.Cut(name, ".")
	if !two {
		return face.Find(w.ahead, w.unit+"."+name)
	}
	if w.imports[unit] == 0 {
		return api.Sig{}, false
	}
	return face.Find(w.others, name)
}

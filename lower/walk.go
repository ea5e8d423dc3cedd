package lower

import (
	"strings"

	"carling/api"
)

// thing is what a name stands for, or a number, or a place of an array. The zero thing is what all other expressions stand for: they must be worked out.
type thing struct {
	kind int
	n    uint32 // a number
	at   int    // a word's register, an array's first cell, a place's
}

// Kinds of things.
const (
	isNumber = 1 // the word of a loop, too: as a round is lowered it is known
	isWord   = 2
	isArray  = 3
	isCell   = 4
)

// walk is what is known where a function is gone through. A name whose scope has ended may still stand there: what is checked does not ask for it, and begins anew where it names it again.
type walk struct {
	unit  string
	names map[string]thing
	regs  int              // how many registers there are
	cells int              // how many cells arrays in scope have
	most  int              // the most that they have had
	add   func(api.Ir) int // adds an instruction, and is its place
	land  func(jump int)   // has one that jumps go on at the next one that is added
}

// register is a new one.
func (w *walk) register() int {
	w.regs++
	return w.regs - 1
}

// word has a name stand for a word in a new register, which is told.
func (w *walk) word(name string) int {
	r := w.register()
	w.names[name] = thing{kind: isWord, at: r}
	return r
}

// array has a name stand for an array in new cells, whose first one is told.
func (w *walk) array(name string, length int) int {
	first := w.cells
	w.names[name] = thing{kind: isArray, at: first}
	w.cells += length
	w.most = max(w.most, w.cells)
	return first
}

// function lowers a function. Its parameters come first, as a run puts its arguments into the first registers and cells.
func (w *walk) function(f api.Func) {
	for _, p := range f.Params {
		if p.Type.Len > 0 {
			w.array(p.Name, p.Type.Len)
			continue
		}
		w.word(p.Name)
	}
	w.statements(busy(f.Body))
	w.add(api.Ir{Kind: api.IRet, A: w.value(f.Result)})
}

// busy are statements without the loops that do nothing: these have no weight, so of them alone there may be more rounds than can be gone through.
func busy(l []api.Stmt) []api.Stmt {
	var kept []api.Stmt
	for _, s := range l {
		s.Body, s.Else = busy(s.Body), busy(s.Else)
		if s.Kind != api.SFor || s.From < s.To && len(s.Body) > 0 {
			kept = append(kept, s)
		}
	}
	return kept
}

// statements lowers statements. The cells of arrays that they name are free behind them: where others begin there, noughts are stored first.
func (w *walk) statements(l []api.Stmt) {
	before := w.cells
	for _, s := range l {
		w.statement(s)
	}
	w.cells = before
}

// statement lowers a statement.
func (w *walk) statement(s api.Stmt) {
	switch s.Kind {
	case api.SLet:
		w.into(w.word(s.Name), s.E)
	case api.SNew:
		w.noughts(s)
	case api.SSet:
		w.set(s)
	case api.SPut:
		w.put(s)
	case api.SFor:
		w.loop(s)
	case api.SIf:
		w.branch(s)
	}
}

// noughts lowers an SNew.
func (w *walk) noughts(s api.Stmt) {
	nought := w.register()
	w.add(api.Ir{Kind: api.IConst, D: nought})
	first := w.array(s.Name, s.Type.Len)
	for i := range s.Type.Len {
		w.add(api.Ir{Kind: api.IStore, A: nought, N: uint32(first + i)})
	}
}

// set lowers an SSet. A word that becomes itself stays as it is.
func (w *walk) set(s api.Stmt) {
	word := w.names[s.Name]
	if w.plain(s.E) != word {
		w.into(word.at, s.E)
	}
}

// put lowers an SPut. It is as long in each round of a loop: a place that becomes itself is stored, too.
func (w *walk) put(s api.Stmt) {
	from := w.value(s.E)
	w.add(api.Ir{Kind: api.IStore, A: from, N: uint32(w.place(s.Name, s.Index).at)})
}

// loop lowers an SFor, round by round.
func (w *walk) loop(s api.Stmt) {
	for n := s.From; n < s.To; n++ {
		w.names[s.Name] = thing{kind: isNumber, n: uint32(n)}
		w.statements(s.Body)
	}
}

// branch lowers an SIf.
func (w *walk) branch(s api.Stmt) {
	toElse := w.add(api.Ir{Kind: api.IZero, A: w.value(s.E)})
	w.statements(s.Body)
	if len(s.Else) == 0 {
		w.land(toElse)
		return
	}
	toEnd := w.add(api.Ir{Kind: api.IJump})
	w.land(toElse)
	w.statements(s.Else)
	w.land(toEnd)
}

// plain is what an expression stands for.
func (w *walk) plain(x api.Expr) thing {
	switch x.Kind {
	case api.ENum:
		return thing{kind: isNumber, n: x.N}
	case api.EVar:
		return w.names[x.Name]
	case api.EAt:
		return w.place(x.Name, x.L[0])
	}
	return thing{}
}

// place is an array's, at an index that is a number or the word of a loop.
func (w *walk) place(name string, index api.Expr) thing {
	return thing{kind: isCell, at: w.names[name].at + int(w.plain(index).n)}
}

// value is a register that has what an expression comes to: of a word its own, as no part of an expression sets one.
func (w *walk) value(x api.Expr) int {
	if t := w.plain(x); t.kind == isWord {
		return t.at
	}
	d := w.register()
	w.into(d, x)
	return d
}

// into has a register become what an expression comes to. Only the last instruction writes it, so that the expression may read it.
func (w *walk) into(d int, x api.Expr) {
	switch t := w.plain(x); t.kind {
	case isNumber:
		w.add(api.Ir{Kind: api.IConst, D: d, N: t.n})
	case isWord:
		w.add(api.Ir{Kind: api.ICopy, D: d, A: t.at})
	case isCell:
		w.add(api.Ir{Kind: api.ILoad, D: d, N: uint32(t.at)})
	default:
		w.reckon(d, x)
	}
}

// reckon is into's, of an expression that must be worked out of its parts.
func (w *walk) reckon(d int, x api.Expr) {
	var l []int
	for _, part := range x.L {
		l = append(l, w.value(part))
	}
	switch x.Kind {
	case api.EBin:
		w.add(api.Ir{Kind: api.IBin, Op: x.Op, D: d, A: l[0], B: l[1]})
	case api.ESel:
		w.add(api.Ir{Kind: api.ISel, D: d, A: l[0], B: l[1], C: l[2]})
	case api.ECall:
		w.add(api.Ir{Kind: api.ICall, D: d, Name: w.full(x.Name), Args: l})
	}
}

// full is a function's full name: a name alone is one of the unit's own.
func (w *walk) full(name string) string {
	if strings.Contains(name, ".") {
		return name
	}
	return w.unit + "." + name
}

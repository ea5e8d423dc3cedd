package tree

import (
	"carling/api"
	"carling/word"
)

// rest are the nodes of a list that are not read yet.
type rest struct {
	l  []api.Node
	at int // the list's own place: that of a node that is missing in it
}

// refuse gives up, as a node can't stand where it stands.
func refuse(n api.Node) {
	giveUp(api.ErrForm, n.At)
}

// enter are the nodes of a list. A list that has a word, too, is none: no text has it, and the word would be lost.
func enter(n api.Node) *rest {
	if !n.IsList || n.Word != "" {
		refuse(n)
	}
	return &rest{n.L, n.At}
}

// text is a node's word. A word that has nodes, too, is none, for the same reason.
func text(n api.Node) string {
	if n.IsList || len(n.L) > 0 {
		refuse(n)
	}
	return n.Word
}

// more tells whether nodes are left.
func (r *rest) more() bool {
	return len(r.l) > 0
}

// next is the node that is read now.
func (r *rest) next() api.Node {
	if !r.more() {
		giveUp(api.ErrForm, r.at)
	}
	n := r.l[0]
	r.l = r.l[1:]
	return n
}

// nextOf is the node that is read now, where there are so many of its sort already, and may be so many at most.
func (r *rest) nextOf(have, most int) api.Node {
	n := r.next()
	if have >= most {
		giveUp(api.ErrLong, n.At)
	}
	return n
}

// end gives up, if nodes are left.
func (r *rest) end() {
	if r.more() {
		refuse(r.l[0])
	}
}

// begins tells whether the next node is a list of that first word.
func (r *rest) begins(w string) bool {
	if !r.more() || !r.l[0].IsList || len(r.l[0].L) == 0 {
		return false
	}
	first := r.l[0].L[0]
	return !first.IsList && first.Word == w
}

// skip reads a word that must stand there.
func (r *rest) skip(w string) {
	n := r.next()
	if text(n) != w {
		refuse(n)
	}
}

// name reads a name.
func (r *rest) name() string {
	return nameOf(r.next())
}

// nameOf is the name that a node is.
func nameOf(n api.Node) string {
	s := text(n)
	if !Name(s) {
		refuse(n)
	}
	return s
}

// full reads a full name.
func (r *rest) full() string {
	n := r.next()
	s := text(n)
	if !isFull(s) {
		refuse(n)
	}
	return s
}

// label reads a label: whether it is secret.
func (r *rest) label() bool {
	n := r.next()
	s := text(n)
	if s != "pub" && s != "sec" {
		refuse(n)
	}
	return s == "sec"
}

// within reads a number from least to most.
func (r *rest) within(least, most uint32) int {
	node := r.next()
	n, is := number(text(node))
	if !is || n < least || n > most {
		refuse(node)
	}
	return int(n)
}

// readUnit is the unit of nodes.
func readUnit(l []api.Node) api.Unit {
	var u api.Unit
	r := &rest{l, 0}
	head := enter(r.next())
	head.skip("unit")
	u.Name = head.name()
	head.end()
	if r.begins("import") {
		u.Imports = readImports(enter(r.next()))
	}
	for r.more() {
		u.Funcs = append(u.Funcs, readFunc(r.nextOf(len(u.Funcs), api.MaxFuncs)))
	}
	return u
}

// readImports are the names of an import, one at least.
func readImports(r *rest) []string {
	r.skip("import")
	l := []string{r.name()}
	for r.more() {
		l = append(l, nameOf(r.nextOf(len(l), maxImports)))
	}
	return l
}

// readFunc is the function that a node is.
func readFunc(n api.Node) api.Func {
	var f api.Func
	r := enter(n)
	r.skip("fn")
	f.Name = r.name()
	f.Params = readParams(enter(r.next()))
	f.Sec = r.label()
	for {
		in := enter(r.next())
		first := in.next()
		if text(first) == "ret" {
			f.Result = in.expr()
			in.end()
			break
		}
		f.Body = append(f.Body, readStmt(first, in))
	}
	r.end()
	return f
}

// readParams are a function's parameters.
func readParams(r *rest) []api.Param {
	var l []api.Param
	for r.more() {
		l = append(l, readParam(enter(r.nextOf(len(l), api.MaxParams))))
	}
	return l
}

// readParam is a parameter: an array, if it has a length.
func readParam(r *rest) api.Param {
	var p api.Param
	p.Name = r.name()
	p.Type.Sec = r.label()
	if r.more() {
		p.Type.Len = r.within(1, api.MaxLen)
	}
	r.end()
	return p
}

// stmts reads all that is left as statements.
func (r *rest) stmts() []api.Stmt {
	var l []api.Stmt
	for r.more() {
		in := enter(r.next())
		l = append(l, readStmt(in.next(), in))
	}
	return l
}

// readStmt is the statement of that first node, r being what stands behind it.
func readStmt(first api.Node, r *rest) api.Stmt {
	var s api.Stmt
	switch text(first) {
	case "let":
		s.Kind = api.SLet
		s.Name = r.name()
		s.E = r.expr()
	case "set":
		s.Kind = api.SSet
		s.Name = r.name()
		s.E = r.expr()
	case "new":
		s.Kind = api.SNew
		s.Name = r.name()
		s.Type.Sec = r.label()
		s.Type.Len = r.within(1, api.MaxLen)
	case "put":
		s.Kind = api.SPut
		s.Name = r.name()
		s.Index = r.expr()
		s.E = r.expr()
	case "for":
		s.Kind = api.SFor
		s.Name = r.name()
		s.From = r.within(0, api.MaxLoop)
		s.To = r.within(0, api.MaxLoop)
		s.Body = r.stmts()
	case "if":
		s.Kind = api.SIf
		s.E = r.expr()
		s.Body = enter(r.next()).stmts()
		s.Else = enter(r.next()).stmts()
	default:
		refuse(first)
	}
	r.end()
	return s
}

// expr reads an expression.
func (r *rest) expr() api.Expr {
	return readExpr(r.next())
}

// exprs reads so many expressions.
func (r *rest) exprs(n int) []api.Expr {
	var l []api.Expr
	for range n {
		l = append(l, r.expr())
	}
	return l
}

// args reads all that is left as arguments.
func (r *rest) args() []api.Expr {
	var l []api.Expr
	for r.more() {
		l = append(l, readExpr(r.nextOf(len(l), api.MaxParams)))
	}
	return l
}

// readExpr is the expression that a node is.
func readExpr(n api.Node) api.Expr {
	if n.IsList {
		return readParts(enter(n))
	}
	s := text(n)
	if v, is := number(s); is {
		return api.Expr{Kind: api.ENum, N: v}
	}
	if !Name(s) {
		refuse(n)
	}
	return api.Expr{Kind: api.EVar, Name: s}
}

// readParts is the expression that a list is.
func readParts(r *rest) api.Expr {
	var x api.Expr
	first := r.next()
	switch s := text(first); s {
	case "at":
		x.Kind = api.EAt
		x.Name = r.name()
		x.L = r.exprs(1)
	case "sel":
		x.Kind = api.ESel
		x.L = r.exprs(3)
	case "call":
		x.Kind = api.ECall
		x.Name = r.full()
		x.L = r.args()
	default:
		op, is := word.Of(s)
		if !is {
			refuse(first)
		}
		x.Kind = api.EBin
		x.Op = op
		x.L = r.exprs(2)
	}
	r.end()
	return x
}

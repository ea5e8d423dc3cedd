package tree

import (
	"strconv"

	"carling/api"
	"carling/word"
)

// must gives up, if what has to hold of what is shown does not. Nothing that is shown has a place.
func must(holds bool) {
	if !holds {
		giveUp(api.ErrForm, 0)
	}
}

// leaf is a word's node.
func leaf(s string) api.Node {
	return api.Node{Word: s}
}

// list is nodes, put together. It takes a list that is handed in as its own.
func list(l ...api.Node) api.Node {
	return api.Node{IsList: true, L: l}
}

// form is a list of that first word.
func form(first string, l ...api.Node) api.Node {
	return list(append([]api.Node{leaf(first)}, l...)...)
}

// each are the nodes of several things.
func each[T any](l []T, node func(T) api.Node) []api.Node {
	var nodes []api.Node
	for _, x := range l {
		nodes = append(nodes, node(x))
	}
	return nodes
}

// nameNode is a name's node.
func nameNode(s string) api.Node {
	must(Name(s))
	return leaf(s)
}

// labelNode is a label's node.
func labelNode(sec bool) api.Node {
	if sec {
		return leaf("sec")
	}
	return leaf("pub")
}

// numberNode is the node of a number that must be from least to most.
func numberNode(n, least, most int) api.Node {
	must(least <= n && n <= most)
	return leaf(strconv.Itoa(n))
}

// unitNodes are a unit's nodes.
func unitNodes(u api.Unit) []api.Node {
	must(len(u.Imports) <= maxImports && len(u.Funcs) <= api.MaxFuncs)
	l := []api.Node{form("unit", nameNode(u.Name))}
	if len(u.Imports) > 0 {
		l = append(l, form("import", each(u.Imports, nameNode)...))
	}
	return append(l, each(u.Funcs, funcNode)...)
}

// funcNode is a function's node.
func funcNode(f api.Func) api.Node {
	must(len(f.Params) <= api.MaxParams)
	l := []api.Node{nameNode(f.Name), list(each(f.Params, paramNode)...), labelNode(f.Sec)}
	l = append(l, each(f.Body, stmtNode)...)
	l = append(l, form("ret", exprNode(f.Result)))
	return form("fn", l...)
}

// paramNode is a parameter's node: with a length, if it is an array.
func paramNode(p api.Param) api.Node {
	l := []api.Node{nameNode(p.Name), labelNode(p.Type.Sec)}
	if p.Type.Len != 0 {
		l = append(l, numberNode(p.Type.Len, 1, api.MaxLen))
	}
	return list(l...)
}

// stmtNode is a statement's node.
func stmtNode(s api.Stmt) api.Node {
	var n api.Node
	more := s // less what its kind has: nothing may be left of it
	switch s.Kind {
	case api.SLet:
		n = form("let", nameNode(s.Name), exprNode(s.E))
		more.Name, more.E = "", api.Expr{}
	case api.SSet:
		n = form("set", nameNode(s.Name), exprNode(s.E))
		more.Name, more.E = "", api.Expr{}
	case api.SNew:
		n = form("new", nameNode(s.Name), labelNode(s.Type.Sec), numberNode(s.Type.Len, 1, api.MaxLen))
		more.Name, more.Type = "", api.Type{}
	case api.SPut:
		n = form("put", nameNode(s.Name), exprNode(s.Index), exprNode(s.E))
		more.Name, more.Index, more.E = "", api.Expr{}, api.Expr{}
	case api.SFor:
		n = forNode(s)
		more.Name, more.From, more.To, more.Body = "", 0, 0, nil
	case api.SIf:
		n = form("if", exprNode(s.E), list(each(s.Body, stmtNode)...), list(each(s.Else, stmtNode)...))
		more.E, more.Body, more.Else = api.Expr{}, nil, nil
	default:
		must(false)
	}
	must(isBare(more))
	return n
}

// forNode is a loop's node.
func forNode(s api.Stmt) api.Node {
	l := []api.Node{nameNode(s.Name), numberNode(s.From, 0, api.MaxLoop), numberNode(s.To, 0, api.MaxLoop)}
	return form("for", append(l, each(s.Body, stmtNode)...)...)
}

// isBare tells whether a statement has nothing but a kind.
func isBare(s api.Stmt) bool {
	return s.Name == "" && s.Type == api.Type{} && s.From == 0 && s.To == 0 &&
		isNone(s.Index) && isNone(s.E) && len(s.Body) == 0 && len(s.Else) == 0
}

// isNone tells whether an expression is a zero value.
func isNone(x api.Expr) bool {
	return x.Kind == 0 && x.N == 0 && x.Op == 0 && x.Name == "" && len(x.L) == 0
}

// exprNode is an expression's node.
func exprNode(x api.Expr) api.Node {
	switch x.Kind {
	case api.ENum:
		must(x.Op == 0 && x.Name == "" && len(x.L) == 0)
		return leaf(strconv.FormatUint(uint64(x.N), 10))
	case api.EVar:
		must(x.N == 0 && x.Op == 0 && len(x.L) == 0)
		return nameNode(x.Name)
	case api.EAt:
		must(x.N == 0 && x.Op == 0 && len(x.L) == 1)
		return form("at", nameNode(x.Name), exprNode(x.L[0]))
	case api.EBin:
		sign, is := word.Sign(x.Op)
		must(is && x.N == 0 && x.Name == "" && len(x.L) == 2)
		return form(sign, each(x.L, exprNode)...)
	case api.ESel:
		must(x.N == 0 && x.Op == 0 && x.Name == "" && len(x.L) == 3)
		return form("sel", each(x.L, exprNode)...)
	case api.ECall:
		must(x.N == 0 && x.Op == 0 && isFull(x.Name) && len(x.L) <= api.MaxParams)
		return form("call", append([]api.Node{leaf(x.Name)}, each(x.L, exprNode)...)...)
	}
	must(false)
	return api.Node{}
}

package check

import "carling/api"

// maxWeight is what greater weights count as, so that none is too great to be reckoned.
const maxWeight = 1000000

// Weight is how much a function is, its loops gone through.
func Weight(f api.Func) int {
	return min(1+listWeight(f.Body)+exprWeight(f.Result), maxWeight)
}

// listWeight is that of statements.
func listWeight(l []api.Stmt) int {
	sum := 0
	for _, s := range l {
		sum = min(sum+stmtWeight(s), maxWeight)
	}
	return sum
}

// stmtWeight is a statement's. A kind that is none has no weight, as nothing gives it one.
func stmtWeight(s api.Stmt) int {
	switch s.Kind {
	case api.SLet, api.SSet, api.SPut:
		return 1 + exprWeight(s.E)
	case api.SNew:
		return min(max(s.Type.Len, 0), maxWeight)
	case api.SFor:
		return times(rounds(s), listWeight(s.Body))
	case api.SIf:
		return 3 + exprWeight(s.E) + listWeight(s.Body) + listWeight(s.Else)
	}
	return 0
}

// rounds is how often a loop's body is gone through. The difference is taken without a sign, as To less From may be more than an int holds.
func rounds(s api.Stmt) int {
	if s.To <= s.From {
		return 0
	}
	return int(min(uint(s.To)-uint(s.From), maxWeight))
}

// times is a weight, n times; both are at most maxWeight.
func times(n, weight int) int {
	return int(min(int64(n)*int64(weight), maxWeight))
}

// exprWeight is an expression's: whatever stands in L is a part of it.
func exprWeight(x api.Expr) int {
	sum := 1
	for _, part := range x.L {
		sum = min(sum+exprWeight(part), maxWeight)
	}
	return sum
}

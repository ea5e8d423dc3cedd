package mean

import (
	"slices"
	"strings"

	"carling/api"
	"carling/word"
)

// maxSteps is how many a run takes at most, those within its calls among them.
const maxSteps = 3000

// run is what the functions of one run have in common.
type run struct {
	known    map[string]function
	steps    int
	within   int // how many calls are gone into, and not come back from
	branches []int
}

// step counts one more. A run that takes too long gives up from however deep within it.
func (r *run) step() {
	if r.steps == maxSteps {
		panic(api.ErrFuel)
	}
	r.steps++
}

// whole is what comes of a function.
func (r *run) whole(f function, args []uint32) api.Outcome {
	s := r.begin(f, args)
	result := s.finish(f)
	return api.Outcome{Result: result, Arrays: s.arraysOf(f.Params)}
}

// call is the result of a function that is run within another one.
func (r *run) call(f function, args []uint32) uint32 {
	if r.within == api.MaxDepth {
		panic(api.ErrFuel)
	}
	r.within++
	result := r.begin(f, args).finish(f)
	r.within--
	return result
}

// state is what stands under the names of a function that is run. A name whose scope has ended may still stand there: what is checked does not ask for it, and begins anew where it names it again.
type state struct {
	run    *run
	unit   string
	words  map[string]uint32
	arrays map[string][]uint32
}

// begin is a function's state ahead of its statements: its arguments, its arrays' in memory of their own, as they may be put into.
func (r *run) begin(f function, args []uint32) state {
	s := state{run: r, unit: f.unit, words: map[string]uint32{}, arrays: map[string][]uint32{}}
	for _, p := range f.Params {
		n := p.Type.Len
		if n == 0 {
			s.words[p.Name] = args[0]
			args = args[1:]
			continue
		}
		s.arrays[p.Name] = slices.Clone(args[:n])
		args = args[n:]
	}
	return s
}

// finish goes through a function's statements, and works its result out.
func (s state) finish(f function) uint32 {
	s.statements(f.Body)
	return s.value(f.Result)
}

// arraysOf are the parameters that are arrays, one behind the other.
func (s state) arraysOf(l []api.Param) []uint32 {
	var out []uint32
	for _, p := range l {
		out = append(out, s.arrays[p.Name]...)
	}
	return out
}

// statements goes through statements.
func (s state) statements(l []api.Stmt) {
	for _, x := range l {
		s.statement(x)
	}
}

// statement goes through a statement.
func (s state) statement(x api.Stmt) {
	s.run.step()
	switch x.Kind {
	case api.SLet, api.SSet:
		s.words[x.Name] = s.value(x.E)
	case api.SNew:
		s.arrays[x.Name] = make([]uint32, x.Type.Len)
	case api.SPut:
		n := s.value(x.E)
		s.arrays[x.Name][s.index(x.Index)] = n
	case api.SFor:
		for i := x.From; i < x.To; i++ {
			s.words[x.Name] = uint32(i)
			s.statements(x.Body)
		}
	case api.SIf:
		s.branch(x)
	}
}

// branch goes through an SIf. Its own way is put down behind those of the calls in its E, as it is known no sooner.
func (s state) branch(x api.Stmt) {
	if s.value(x.E) != 0 {
		s.run.branches = append(s.run.branches, 1)
		s.statements(x.Body)
		return
	}
	s.run.branches = append(s.run.branches, 0)
	s.statements(x.Else)
}

// value is what an expression comes to.
func (s state) value(x api.Expr) uint32 {
	s.run.step()
	switch x.Kind {
	case api.EVar:
		return s.words[x.Name]
	case api.EAt:
		return s.arrays[x.Name][s.index(x.L[0])]
	case api.EBin:
		l := s.values(x.L)
		n, _ := word.Op(x.Op, l[0], l[1])
		return n
	case api.ESel:
		l := s.values(x.L)
		return word.Sel(l[0], l[1], l[2])
	case api.ECall:
		l := s.values(x.L)
		return s.run.call(s.called(x.Name), l)
	}
	return x.N // a number
}

// values are what expressions come to.
func (s state) values(l []api.Expr) []uint32 {
	var out []uint32
	for _, x := range l {
		out = append(out, s.value(x))
	}
	return out
}

// index is which place of an array is meant: a number, or the word of a loop. It is no step.
func (s state) index(x api.Expr) uint32 {
	if x.Kind == api.EVar {
		return s.words[x.Name]
	}
	return x.N
}

// called is the function that a call's name means.
func (s state) called(name string) function {
	if !strings.Contains(name, ".") {
		name = s.unit + "." + name
	}
	return s.run.known[name]
}

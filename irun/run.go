package irun

import (
	"carling/api"
	"carling/word"
)

// maxGone is how many instructions a run goes through at most, those within its calls among them.
const maxGone = 60000

// run is what the functions of one run have in common.
type run struct {
	known    map[string]api.Code
	deeds    map[int]func(*frame, api.Ir)
	gone     int
	within   int // how many calls are gone into, and not come back from
	branches []int
	wrong    api.Errno // what ends all of it, from however deep within calls
}

// frame is a function that is being run.
type frame struct {
	run    *run
	regs   []uint32
	cells  []uint32
	next   int // the place that is gone on with
	ended  bool
	result uint32
}

// deeds are what the instructions do, by their kinds.
func deeds() map[int]func(*frame, api.Ir) {
	return map[int]func(*frame, api.Ir){
		api.IConst: (*frame).number,
		api.ICopy:  (*frame).copied,
		api.IBin:   (*frame).reckon,
		api.ISel:   (*frame).pick,
		api.ILoad:  (*frame).load,
		api.IStore: (*frame).store,
		api.ICall:  (*frame).call,
		api.IJump:  (*frame).jump,
		api.IZero:  (*frame).branch,
		api.IRet:   (*frame).end,
	}
}

// begin is a function ahead of its first instruction. Its cells are its own, as they may be stored into.
func (r *run) begin(c api.Code, args []uint32) *frame {
	f := &frame{run: r, regs: make([]uint32, c.Regs), cells: make([]uint32, c.Cells)}
	words, cells := 0, 0
	for _, p := range c.Params {
		if p.Len == 0 {
			f.regs[words] = args[0]
			words++
			args = args[1:]
			continue
		}
		cells += copy(f.cells[cells:], args[:p.Len])
		args = args[p.Len:]
	}
	return f
}

// finish goes through a function's instructions, up to its end, or to where something is wrong.
func (f *frame) finish(l []api.Ir) {
	for !f.ended && f.run.wrong == api.OK {
		f.step(l[f.next])
	}
}

// step goes through an instruction. The next place is set ahead of what it does, which may set another one.
func (f *frame) step(x api.Ir) {
	if f.run.gone == maxGone {
		f.run.wrong = api.ErrFuel
		return
	}
	f.run.gone++
	f.next++
	f.run.deeds[x.Kind](f, x)
}

// number is what an IConst does.
func (f *frame) number(x api.Ir) {
	f.regs[x.D] = x.N
}

// copied is what an ICopy does.
func (f *frame) copied(x api.Ir) {
	f.regs[x.D] = f.regs[x.A]
}

// reckon is what an IBin does.
func (f *frame) reckon(x api.Ir) {
	f.regs[x.D], _ = word.Op(x.Op, f.regs[x.A], f.regs[x.B])
}

// pick is what an ISel does.
func (f *frame) pick(x api.Ir) {
	f.regs[x.D] = word.Sel(f.regs[x.A], f.regs[x.B], f.regs[x.C])
}

// load is what an ILoad does.
func (f *frame) load(x api.Ir) {
	f.regs[x.D] = f.cells[x.N]
}

// store is what an IStore does.
func (f *frame) store(x api.Ir) {
	f.cells[x.N] = f.regs[x.A]
}

// call is what an ICall does. What it calls is looked at only now: one that is not come to may name what is none.
func (f *frame) call(x api.Ir) {
	c, is := f.run.known[x.Name]
	_, cells := room(c.Params)
	switch {
	case !is:
		f.run.wrong = api.ErrName
	case len(c.Params) != len(x.Args) || cells > 0:
		f.run.wrong = api.ErrType
	case f.run.within == api.MaxDepth:
		f.run.wrong = api.ErrFuel
	default:
		f.regs[x.D] = f.run.inner(c, f.values(x.Args))
	}
}

// inner is the result of a function that is run within another one.
func (r *run) inner(c api.Code, args []uint32) uint32 {
	r.within++
	f := r.begin(c, args)
	f.finish(c.L)
	r.within--
	return f.result
}

// values are what stands in registers.
func (f *frame) values(l []int) []uint32 {
	var out []uint32
	for _, r := range l {
		out = append(out, f.regs[r])
	}
	return out
}

// jump is what an IJump does.
func (f *frame) jump(x api.Ir) {
	f.next = x.C
}

// branch is what an IZero does. Which way it went is told as a word's truth: 1 is the way that goes on with the next one.
func (f *frame) branch(x api.Ir) {
	if f.regs[x.A] != 0 {
		f.run.branches = append(f.run.branches, 1)
		return
	}
	f.run.branches = append(f.run.branches, 0)
	f.next = x.C
}

// end is what an IRet does.
func (f *frame) end(x api.Ir) {
	f.result = f.regs[x.A]
	f.ended = true
}

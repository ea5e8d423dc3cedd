package lower

import (
	"fmt"
	"math/rand"
	"slices"
	"strings"
	"testing"

	"carling/api"
	"carling/check"
	"carling/face"
	"carling/irun"
	"carling/mean"
)

// bound is a name in scope: of a word that may be set (w), of a loop (l), of an array (a).
type bound struct {
	name string
	what byte
	sec  bool
	n    int // an array's length, a loop's To
}

// maker makes texts of units with which, but for their weight, nothing is wrong.
type maker struct {
	r     *rand.Rand
	loops int // how many rounds a loop has at most
	len   int // how many words an array has at most
	scope []bound
	sigs  []api.Sig // that may be called, by the names by which they are
}

// one is any of some.
func one[T any](m *maker, l []T) T { return l[m.r.Intn(len(l))] }

// label is how it is written whether something is secret.
func label(sec bool) string { return map[bool]string{false: "pub", true: "sec"}[sec] }

// fresh is a name that is not in scope; few are there to be had, so that they come again.
func (m *maker) fresh() string {
	for range 20 {
		name := one(m, []string{"x", "y", "z", "i", "j", "t", "u", "k"})
		if !slices.ContainsFunc(m.scope, func(b bound) bool { return b.name == name }) {
			return name
		}
	}
	return fmt.Sprintf("q%d", len(m.scope))
}

// known is something in scope that is fit, if there is one.
func (m *maker) known(fit func(bound) bool) (bound, bool) {
	var l []bound
	for _, b := range m.scope {
		if fit(b) {
			l = append(l, b)
		}
	}
	if len(l) == 0 {
		return bound{}, false
	}
	return one(m, l), true
}

// place is an array in scope with an index.
func (m *maker) place(secret bool) (bound, string, bool) {
	array, is := m.known(func(b bound) bool { return b.what == 'a' && (secret || !b.sec) })
	if !is {
		return bound{}, "", false
	}
	i, is := m.known(func(b bound) bool { return b.what == 'l' && b.n <= array.n })
	if is && m.r.Intn(2) == 0 {
		return array, i.name, true
	}
	return array, fmt.Sprint(m.r.Intn(array.n)), true
}

// call is a call.
func (m *maker) call(deep int, secret bool) (string, bool) {
	var l []api.Sig
	for _, sig := range m.sigs {
		array := slices.ContainsFunc(sig.Params, func(t api.Type) bool { return t.Len > 0 })
		if !array && (secret || !sig.Sec) {
			l = append(l, sig)
		}
	}
	if len(l) == 0 {
		return "", false
	}
	sig := one(m, l)
	s := "(call " + sig.Name
	for _, t := range sig.Params {
		s += " " + m.expr(deep-1, t.Sec)
	}
	return s + ")", true
}

// number is a small one, or any.
func (m *maker) number() string {
	if m.r.Intn(3) > 0 {
		return fmt.Sprint(m.r.Intn(4))
	}
	return fmt.Sprint(m.r.Uint32())
}

// expr is an expression, one that may be secret, or one that may not.
func (m *maker) expr(deep int, secret bool) string {
	kind := m.r.Intn(11)
	if deep <= 0 {
		kind = m.r.Intn(5)
	}
	switch kind {
	case 0:
		return m.number()
	case 1, 2:
		if b, is := m.known(func(b bound) bool { return b.what != 'a' && (secret || !b.sec) }); is {
			return b.name
		}
	case 3, 4:
		if array, index, is := m.place(secret); is {
			return "(at " + array.name + " " + index + ")"
		}
	case 5, 6, 7:
		sign := one(m, []string{"+", "-", "*", "&", "|", "^", "<<", ">>", "<", "=="})
		return "(" + sign + " " + m.expr(deep-1, secret) + " " + m.expr(deep-1, secret) + ")"
	case 8:
		return "(sel " + m.expr(deep-1, secret) + " " + m.expr(deep-1, secret) + " " + m.expr(deep-1, secret) + ")"
	default:
		if s, is := m.call(deep, secret); is {
			return s
		}
	}
	return m.number()
}

// list is statements; what they name is in scope behind them only if it is kept.
func (m *maker) list(deep int, kept bool) string {
	before := len(m.scope)
	var l []string
	for range m.r.Intn(5) {
		l = append(l, m.stmt(deep))
	}
	if !kept {
		m.scope = m.scope[:before]
	}
	return strings.Join(l, " ")
}

// stmt is a statement.
func (m *maker) stmt(deep int) string {
	kind := m.r.Intn(8)
	if deep <= 0 {
		kind = m.r.Intn(5)
	}
	switch kind {
	case 0:
		return m.let()
	case 1:
		b := bound{name: m.fresh(), what: 'a', sec: m.r.Intn(2) == 0, n: 1 + m.r.Intn(m.len)}
		m.scope = append(m.scope, b)
		return fmt.Sprintf("(new %s %s %d)", b.name, label(b.sec), b.n)
	case 2, 3:
		if array, index, is := m.place(true); is {
			return fmt.Sprintf("(put %s %s %s)", array.name, index, m.expr(2, array.sec))
		}
	case 5:
		return m.loop(deep)
	case 6, 7:
		return "(if " + m.expr(2, false) + " (" + m.list(deep-1, false) + ") (" + m.list(deep-1, false) + "))"
	}
	if b, is := m.known(func(b bound) bool { return b.what == 'w' }); is {
		return "(set " + b.name + " " + m.expr(3, b.sec) + ")"
	}
	return m.let()
}

// let is an SLet. It is not known of its word whether it is secret, where it may be: so it is taken for one.
func (m *maker) let() string {
	b := bound{name: m.fresh(), what: 'w', sec: m.r.Intn(2) == 0}
	e := m.expr(3, b.sec)
	if b.sec {
		secret, is := m.known(func(b bound) bool { return b.what == 'w' && b.sec })
		if !is {
			b.sec, e = false, m.number()
		} else {
			e = "(+ " + secret.name + " " + e + ")"
		}
	}
	m.scope = append(m.scope, b)
	return "(let " + b.name + " " + e + ")"
}

// loop is an SFor.
func (m *maker) loop(deep int) string {
	before := len(m.scope)
	b := bound{name: m.fresh(), what: 'l', n: m.r.Intn(m.loops + 1)}
	m.scope = append(m.scope, b)
	s := fmt.Sprintf("(for %s %d %d %s)", b.name, m.r.Intn(3), b.n, m.list(deep-1, false))
	m.scope = m.scope[:before]
	return s
}

// function is a function.
func (m *maker) function(name string) string {
	m.scope = nil
	var params []string
	for range m.r.Intn(5) {
		b := bound{name: m.fresh(), what: 'w', sec: m.r.Intn(2) == 0}
		p := "(" + b.name + " " + label(b.sec)
		if m.r.Intn(4) == 0 {
			b.what, b.n = 'a', 1+m.r.Intn(m.len)
			p += " " + fmt.Sprint(b.n)
		}
		m.scope = append(m.scope, b)
		params = append(params, p+")")
	}
	sec := m.r.Intn(2) == 0
	return "(fn " + name + " (" + strings.Join(params, " ") + ") " + label(sec) + " " + m.list(3, true) + " (ret " + m.expr(3, sec) + "))"
}

// unit is a unit of a name that imports all of some units.
func (m *maker) unit(t testing.TB, name string, imports []api.Unit) api.Unit {
	text := "(unit " + name + ") "
	m.sigs = nil
	if len(imports) > 0 {
		text += "(import"
		for _, u := range imports {
			text += " " + u.Name
			m.sigs = append(m.sigs, face.Sigs(u)...)
		}
		text += ") "
	}
	for _, f := range []string{"f", "g", "h"} {
		text += m.function(f)
		u := read(t, text)
		sig := face.Sigs(u)[len(u.Funcs)-1]
		sig.Name = f
		m.sigs = append(m.sigs, sig)
	}
	return read(t, text)
}

// group is three units, in any order.
func (m *maker) group(t testing.TB) []api.Unit {
	var l []api.Unit
	for _, name := range []string{"a", "b", "c"} {
		l = append(l, m.unit(t, name, l[:m.r.Intn(len(l)+1)]))
	}
	m.r.Shuffle(len(l), func(i, j int) { l[i], l[j] = l[j], l[i] })
	return l
}

// words are arguments, most of them small.
func (m *maker) words(n int) []uint32 {
	var l []uint32
	for range n {
		if m.r.Intn(3) > 0 {
			l = append(l, uint32(m.r.Intn(4)))
			continue
		}
		l = append(l, m.r.Uint32())
	}
	return l
}

// size is how many arguments a function has.
func size(sig api.Sig) int {
	n := 0
	for _, p := range sig.Params {
		n += max(p.Len, 1)
	}
	return n
}

// makers makes groups of units by chance, and asks something of those with which nothing is wrong. Of those that are wrong, each function of the unit that is tells what check.Check does.
func makers(t *testing.T, seed int64, times int, ask func(m *maker, l []api.Unit)) {
	t.Helper()
	r := rand.New(rand.NewSource(seed))
	right, heavy := 0, 0
	for i := range times {
		m := &maker{r: r, loops: []int{2, 4, 8, 64}[i%4], len: []int{4, 16}[i/4%2]}
		l := m.group(t)
		e, n, _ := check.All(l)
		if e == api.OK {
			right++
			ask(m, l)
			continue
		}
		if e != api.ErrLong {
			t.Fatalf("%s: %d, %d", shown(l), e, n)
		}
		heavy++
		for k := range l[n].Funcs {
			fails(t, l[n], k, known(l), api.ErrLong)
		}
	}
	if right < times/2 || heavy < times/100 {
		t.Errorf("of %d groups %d are right, %d weigh too much", times, right, heavy)
	}
}

// P8.1 to P8.3: units that are made by chance: what is told is right, and not too long; and what mean.Run tells of each function, irun.Run tells of those that are lowered.
func TestByChance(t *testing.T) {
	met, ways, arrays, calls := map[api.Errno]int{}, 0, 0, 0
	makers(t, 8, 400, func(m *maker, l []api.Unit) {
		codes := all(t, l)
		m.r.Shuffle(len(codes), func(i, j int) { codes[i], codes[j] = codes[j], codes[i] })
		for _, c := range codes {
			calls += count(c, api.ICall)
			for range 2 {
				args := m.words(size(api.Sig{Params: c.Params}))
				wantO, wantB, wantE := mean.Run(l, c.Name, args)
				met[wantE]++
				if wantE != api.OK {
					continue
				}
				o, b, e := irun.Run(codes, c.Name, args)
				if e != api.OK || o.Result != wantO.Result || !slices.Equal(o.Arrays, wantO.Arrays) || !slices.Equal(b, wantB) {
					t.Fatalf("%s of %d: %+v, %d, %d; not %+v, %d, %d\n%s", c.Name, args, o, b, e, wantO, wantB, wantE, shown(l))
				}
				if len(b) > 3 {
					ways++
				}
				if len(o.Arrays) > 0 {
					arrays++
				}
			}
		}
	})
	if met[api.OK] < 5000 || met[api.ErrFuel] < 10 || ways < 1000 || arrays < 2000 || calls < 10000 {
		t.Errorf("met %d; %d of many branches, %d of arrays; %d calls", met, ways, arrays, calls)
	}
}

// P8.4: units that are made by chance: the same unit has the same ones, whatever stands behind them.
func TestSameByChance(t *testing.T) {
	more := read(t, "(unit z) (fn m ((t sec 3) (x sec)) sec (put t 1 x) (ret (at t 2))) (fn n ((x pub)) pub (for i 0 9 (set x i)) (ret x))")
	makers(t, 84, 100, func(m *maker, l []api.Unit) {
		sigs := known(l)
		for _, u := range l {
			for i := range u.Funcs {
				want := fmt.Sprintf("%+v", lowered(t, u, i, sigs))
				for _, behind := range [][]api.Func{u.Funcs[i+1:], nil, more.Funcs, more.Funcs[1:], append(slices.Clone(more.Funcs), u.Funcs[i+1:]...)} {
					other := u
					other.Funcs = append(slices.Clone(u.Funcs[:i+1]), behind...)
					if got := fmt.Sprintf("%+v", lowered(t, other, i, sigs)); got != want {
						t.Fatalf("%s: %d: %s; not %s", shown([]api.Unit{other}), i, got, want)
					}
				}
			}
		}
	})
}

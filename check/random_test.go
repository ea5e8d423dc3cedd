package check

import (
	"fmt"
	"math/rand"
	"slices"
	"strings"
	"testing"

	"carling/api"
	"carling/face"
)

// maker makes texts of units, most of which are nearly right: one choice in some is made without looking.
type maker struct {
	r     *rand.Rand
	blind int
	scope []bound
	sigs  []api.Sig // that may be called, by the names by which they are
}

// astray tells whether a choice is made without looking.
func (m *maker) astray() bool { return m.blind > 0 && m.r.Intn(m.blind) == 0 }

// one is any of some.
func one[T any](m *maker, l []T) T { return l[m.r.Intn(len(l))] }

// label is any.
func (m *maker) label() string { return one(m, []string{"pub", "sec"}) }

// fresh is a name that is not in scope, if there is one.
func (m *maker) fresh() string {
	for range 20 {
		name := one(m, []string{"x", "y", "z", "i", "j", "t", "u", "v", "k", "m", "n", "o"})
		if m.astray() || !slices.ContainsFunc(m.scope, func(b bound) bool { return b.name == name }) {
			return name
		}
	}
	return fmt.Sprintf("q%d", len(m.scope))
}

// name is one in scope that is fit, if there is one.
func (m *maker) name(fit func(bound) bool) (string, bool) {
	if m.astray() {
		return m.fresh(), true
	}
	var l []string
	for _, b := range m.scope {
		if fit(b) || m.astray() {
			l = append(l, b.name)
		}
	}
	if len(l) == 0 {
		return "", false
	}
	return one(m, l), true
}

// add puts something in scope.
func (m *maker) add(b bound) { m.scope = append(m.scope, b) }

// get is what a name stands for.
func (m *maker) get(name string) bound {
	for _, b := range m.scope {
		if b.name == name {
			return b
		}
	}
	return bound{}
}

// place is an array and an index.
func (m *maker) place(secret bool) (string, bool) {
	name, is := m.name(func(b bound) bool { return b.what == 'a' && (secret || !b.sec) })
	if !is {
		return "", false
	}
	length := m.get(name).n
	index := fmt.Sprint(m.r.Intn(max(length, 1)))
	if i, is := m.name(func(b bound) bool { return b.what == 'l' && b.n <= length }); is && m.r.Intn(2) == 0 {
		index = i
	}
	if m.astray() {
		index = one(m, []string{fmt.Sprint(length), fmt.Sprint(length + 1), "17", "(+ 0 1)", m.fresh(), "4294967295"})
	}
	return name + " " + index, true
}

// call is a call.
func (m *maker) call(deep int, secret bool) (string, bool) {
	var l []api.Sig
	for _, sig := range m.sigs {
		array := slices.ContainsFunc(sig.Params, func(t api.Type) bool { return t.Len > 0 })
		if !array && (secret || !sig.Sec) || m.astray() {
			l = append(l, sig)
		}
	}
	if len(l) == 0 {
		return "", false
	}
	sig := one(m, l)
	s := "(call " + sig.Name
	for _, t := range sig.Params {
		s += " " + m.expr(deep-1, t.Sec)
	}
	if m.astray() && len(sig.Params) < 6 {
		s += " 1"
	}
	return s + ")", true
}

// expr is an expression, one that may be secret, or one that may not.
func (m *maker) expr(deep int, secret bool) string {
	if m.astray() {
		secret = true
	}
	kind := m.r.Intn(9)
	if deep <= 0 {
		kind = m.r.Intn(5)
	}
	switch kind {
	case 0:
		return fmt.Sprint(m.r.Intn(20))
	case 1, 2:
		if name, is := m.name(func(b bound) bool { return b.what != 'a' && (secret || !b.sec) }); is {
			return name
		}
	case 3, 4:
		if s, is := m.place(secret); is {
			return "(at " + s + ")"
		}
	case 5:
		return "(+ " + m.expr(deep-1, secret) + " " + m.expr(deep-1, secret) + ")"
	case 6:
		return "(sel " + m.expr(deep-1, secret) + " " + m.expr(deep-1, secret) + " " + m.expr(deep-1, secret) + ")"
	default:
		if s, is := m.call(deep, secret); is {
			return s
		}
	}
	return "1"
}

// list is statements; what they name is in scope behind them only if it is kept.
func (m *maker) list(deep int, kept bool) string {
	before := len(m.scope)
	var l []string
	for range min(m.r.Intn(5), 5*deep) {
		l = append(l, m.stmt(deep))
	}
	if !kept && !m.astray() {
		m.scope = m.scope[:before]
	}
	return strings.Join(l, " ")
}

// stmt is a statement.
func (m *maker) stmt(deep int) string {
	kind := m.r.Intn(6)
	if deep <= 0 {
		kind = m.r.Intn(4)
	}
	switch kind {
	case 0:
		name, secret := m.fresh(), m.r.Intn(2) == 0
		s := "(let " + name + " " + m.expr(2, secret) + ")"
		m.add(bound{name: name, what: 'w', sec: secret})
		return s
	case 1:
		b := bound{name: m.fresh(), what: 'a', sec: m.r.Intn(2) == 0, n: 1 + m.r.Intn(6)}
		m.add(b)
		return "(new " + b.name + " " + map[bool]string{false: "pub", true: "sec"}[b.sec] + " " + fmt.Sprint(b.n) + ")"
	case 2:
		if name, is := m.name(func(b bound) bool { return b.what == 'w' }); is {
			return "(set " + name + " " + m.expr(2, m.get(name).sec) + ")"
		}
	case 3:
		if s, is := m.place(true); is {
			return "(put " + s + " " + m.expr(2, m.get(strings.Fields(s)[0]).sec) + ")"
		}
	case 4:
		return m.loop(deep)
	}
	return "(if " + m.expr(2, false) + " (" + m.list(deep-1, false) + ") (" + m.list(deep-1, false) + "))"
}

// loop is an SFor, some of many rounds.
func (m *maker) loop(deep int) string {
	before := len(m.scope)
	b := bound{name: m.fresh(), what: 'l', n: m.r.Intn(6)}
	if m.r.Intn(3) == 0 {
		b.n = m.r.Intn(65)
	}
	m.add(b)
	s := fmt.Sprintf("(for %s %d %d %s)", b.name, m.r.Intn(3), b.n, m.list(deep-1, false))
	m.scope = m.scope[:before]
	return s
}

// function is a function.
func (m *maker) function(name string) string {
	m.scope = nil
	var params []string
	for range m.r.Intn(4) {
		b := bound{name: m.fresh(), what: 'w', sec: m.r.Intn(2) == 0}
		p := "(" + b.name + " " + map[bool]string{false: "pub", true: "sec"}[b.sec]
		if m.r.Intn(3) == 0 {
			b.what, b.n = 'a', 1+m.r.Intn(6)
			p += " " + fmt.Sprint(b.n)
		}
		m.add(b)
		params = append(params, p+")")
	}
	label := m.label()
	return "(fn " + name + " (" + strings.Join(params, " ") + ") " + label + " " + m.list(3, true) + " (ret " + m.expr(3, label == "sec") + "))"
}

// unit is a unit of a name that imports some, whose signatures are among those known.
func (m *maker) unit(t testing.TB, name string, imports []string, known []api.Sig) api.Unit {
	text := "(unit " + name + ") "
	if len(imports) > 0 {
		text += "(import " + strings.Join(imports, " ") + ") "
	}
	m.sigs = nil
	for _, sig := range known {
		if u, _, _ := strings.Cut(sig.Name, "."); slices.Contains(imports, u) || m.astray() {
			m.sigs = append(m.sigs, sig)
		}
	}
	names := []string{"f", "g", "h", "p"}
	for i := range m.r.Intn(4) {
		if m.astray() {
			i = m.r.Intn(4)
		}
		text += m.function(names[i])
		u := read(t, text)
		sig := face.Sigs(u)[len(u.Funcs)-1]
		sig.Name = names[i]
		m.sigs = append(m.sigs, sig)
	}
	return read(t, text)
}

// imports are some names, of which few are astray.
func (m *maker) imports(names []string) []string {
	var l []string
	for _, name := range names {
		if m.r.Intn(2) == 0 {
			l = append(l, name)
		}
	}
	if m.astray() {
		l = append(l, one(m, []string{"a", "b", "c", "d", "e"}))
	}
	m.r.Shuffle(len(l), func(i, j int) { l[i], l[j] = l[j], l[i] })
	return l
}

// group is several units, each of which imports of those that were made ahead of it; in any order.
func (m *maker) group(t testing.TB) []api.Unit {
	names := []string{"a", "b", "c", "d"}
	var l []api.Unit
	var known []api.Sig
	for i := range m.r.Intn(5) {
		name := names[i]
		if m.astray() {
			name = one(m, names)
		}
		u := m.unit(t, name, m.imports(names[:i]), known)
		known = append(known, face.Sigs(u)...)
		l = append(l, u)
	}
	if len(l) > 1 && m.r.Intn(8) == 0 { // perhaps a cycle
		u := &l[m.r.Intn(len(l))]
		u.Imports = append(u.Imports, one(m, l).Name)
	}
	m.r.Shuffle(len(l), func(i, j int) { l[i], l[j] = l[j], l[i] })
	return l
}

// met asks that each error was told often enough for a comparison to say something.
func met(t *testing.T, times map[api.Errno]int, l ...api.Errno) {
	t.Helper()
	for _, e := range l {
		if times[e] < 20 {
			t.Errorf("error %d was met %d times", e, times[e])
		}
	}
}

// P5.2 to P5.5: units that are made by chance, held against the second checker.
func TestAgainstModel(t *testing.T) {
	r := rand.New(rand.NewSource(5))
	single, group := map[api.Errno]int{}, map[api.Errno]int{}
	for i := range 6000 {
		m := &maker{r: r, blind: []int{0, 400, 150, 60, 20}[i%5]}
		l := m.group(t)
		e, n, k := All(l)
		group[e]++
		if wantE, wantN, wantK := modelAll(l); e != wantE || n != wantN || k != wantK {
			t.Fatalf("All(%+v): %d, %d, %d; not %d, %d, %d", l, e, n, k, wantE, wantN, wantK)
		}
		var known []api.Sig
		for _, u := range l {
			known = append(known, face.Sigs(u)...)
		}
		for _, u := range l {
			r.Shuffle(len(known), func(i, j int) { known[i], known[j] = known[j], known[i] })
			e, n := Check(u, known)
			single[e]++
			if wantE, wantN := modelCheck(u, known); e != wantE || n != wantN {
				t.Fatalf("Check(%+v, %+v): %d, %d; not %d, %d", u, known, e, n, wantE, wantN)
			}
		}
	}
	met(t, single, api.OK, api.ErrName, api.ErrTwice, api.ErrType, api.ErrLabel, api.ErrIndex, api.ErrLong)
	met(t, group, api.OK, api.ErrName, api.ErrTwice, api.ErrType, api.ErrLabel, api.ErrIndex, api.ErrLong, api.ErrCycle)
}

// more are signatures of names that are not among some.
func (m *maker) more(known []api.Sig) []api.Sig {
	var l []api.Sig
	for range m.r.Intn(6) {
		sig := api.Sig{Name: one(m, []string{"a", "b", "c", "d", "e"}) + "." + one(m, []string{"f", "g", "h", "p", "q"}), Params: make([]api.Type, m.r.Intn(3)), Sec: m.r.Intn(2) == 0}
		if _, is := face.Find(known, sig.Name); !is {
			l = append(l, sig)
		}
	}
	return l
}

// P5.6: a unit with which nothing is wrong, where more signatures are known, and with fewer functions at its end; what a function is told, with and without those behind it.
func TestTheorem(t *testing.T) {
	r := rand.New(rand.NewSource(6))
	times := map[api.Errno]int{}
	for i := range 3000 {
		m := &maker{r: r, blind: []int{0, 100, 40}[i%3]}
		b := m.unit(t, "b", nil, nil)
		c := m.unit(t, "c", nil, nil)
		known := append(face.Sigs(b), face.Sigs(c)...)
		u := m.unit(t, "a", []string{"b", "c"}, known)
		e, n := Check(u, known)
		times[e]++
		if n == -1 && e != api.OK {
			t.Fatalf("Check(%+v): %d", u, e)
		}
		told := func(u api.Unit, known []api.Sig, want api.Errno, k int) {
			if e, n := Check(u, known); e != want || n != k {
				t.Fatalf("Check(%+v, %+v): %d, %d; not %d, %d", u, known, e, n, want, k)
			}
		}
		right := len(u.Funcs)
		if e != api.OK {
			right = n
		}
		for k := range len(u.Funcs) + 1 {
			fewer := u
			fewer.Funcs = u.Funcs[:k]
			if k <= right {
				told(fewer, known, api.OK, -1)
				more := m.more(known)
				told(fewer, slices.Concat(known, more), api.OK, -1)
				told(fewer, slices.Concat(more, known), api.OK, -1)
				continue
			}
			told(fewer, known, e, n)
			fewer.Funcs = slices.Concat(u.Funcs[:n+1], m.unit(t, "z", nil, nil).Funcs)
			told(fewer, known, e, n)
		}
	}
	met(t, times, api.OK, api.ErrName, api.ErrTwice, api.ErrType, api.ErrLabel, api.ErrIndex, api.ErrLong)
}

package face

import (
	"fmt"
	"math/rand"
	"strings"
	"testing"

	"carling/api"
)

// same tells whether two things are the same, nil and empty lists being alike (R2).
func same(x, y any) bool {
	return fmt.Sprintf("%+v", x) == fmt.Sprintf("%+v", y)
}

// A name that is as long as one may be, and one that is longer.
const (
	name12 = "abcdefghij_1"
	name13 = "abcdefghij_12"
)

// pub, sec are types of each label: words, if the length is 0.
func pub(n int) api.Type { return api.Type{Len: n} }
func sec(n int) api.Type { return api.Type{Sec: true, Len: n} }

// open, shut are signatures with a public result, and with a secret one.
func open(name string, l ...api.Type) api.Sig { return api.Sig{Name: name, Params: l} }
func shut(name string, l ...api.Type) api.Sig { return api.Sig{Name: name, Params: l, Sec: true} }

// P4.1: of units with no function, one and several, in order.
func TestSigsOfUnits(t *testing.T) {
	params := []api.Param{{Name: "x"}, {Name: "t", Type: sec(8)}, {Name: "u", Type: pub(16)}, {Name: "k", Type: sec(0)}}
	f := api.Func{Name: "f", Params: params, Sec: true, Body: []api.Stmt{{Kind: api.SLet, Name: "y"}}, Result: api.Expr{Kind: api.ENum, N: 1}}
	g := api.Func{Name: "g", Result: api.Expr{Kind: api.EVar, Name: "x"}}
	wantF, wantG := shut("a.f", pub(0), sec(8), pub(16), sec(0)), open("a.g")
	cases := []struct {
		u    api.Unit
		want []api.Sig
	}{
		{api.Unit{}, nil},
		{api.Unit{Name: "a", Imports: []string{"b"}}, nil},
		{api.Unit{Name: "a", Funcs: []api.Func{}}, nil},
		{api.Unit{Name: "a", Imports: []string{"b"}, Funcs: []api.Func{f}}, []api.Sig{wantF}},
		{api.Unit{Name: "a", Funcs: []api.Func{g}}, []api.Sig{wantG}},
		{api.Unit{Name: "a", Funcs: []api.Func{f, g}}, []api.Sig{wantF, wantG}},
		{api.Unit{Name: "a", Funcs: []api.Func{g, f}}, []api.Sig{wantG, wantF}},
		{api.Unit{Name: "a", Funcs: []api.Func{g, f, g, g}}, []api.Sig{wantG, wantF, wantG, wantG}},
	}
	for _, c := range cases {
		if l := Sigs(c.u); !same(l, c.want) {
			t.Errorf("Sigs(%+v): %+v; not %+v", c.u, l, c.want)
		}
	}
}

// P4.1: whatever a unit is, its functions' signatures are told.
func TestSigsOfAnyUnit(t *testing.T) {
	odd := []api.Param{{Type: pub(-1)}, {Type: sec(17)}, {Name: "x"}, {Name: "x"}, {}, {}, {Type: sec(-1 << 63)}, {Type: pub(1<<63 - 1)}}
	u := api.Unit{Name: "No name", Funcs: []api.Func{{Name: "1.2", Params: odd}, {}, {Name: "f", Sec: true}, {Name: "f"}, {Name: "\n\xff"}}}
	want := []api.Sig{open("No name.1.2", pub(-1), sec(17), pub(0), pub(0), pub(0), pub(0), sec(-1<<63), pub(1<<63-1)), open("No name."), shut("No name.f"), open("No name.f"), open("No name.\n\xff")}
	if l := Sigs(u); !same(l, want) {
		t.Errorf("Sigs(%+v): %+v", u, l)
	}
	if l := Sigs(api.Unit{Funcs: make([]api.Func, 300)}); len(l) != 300 || !same(l[299], open(".")) {
		t.Errorf("Sigs of 300 functions without a name: %d", len(l))
	}
}

// lines are signatures of each form, and their lines.
func lines() map[string]api.Sig {
	l := map[string]api.Sig{
		"a.f : pub\n":                               open("a.f"),
		"a.f : sec\n":                               shut("a.f"),
		"a.f pub : pub\n":                           open("a.f", pub(0)),
		"a.f sec : pub\n":                           open("a.f", sec(0)),
		"a.f pub sec8 : sec\n":                      shut("a.f", pub(0), sec(8)),
		"a.f sec8 pub : sec\n":                      shut("a.f", sec(8), pub(0)),
		"a.f pub pub pub pub pub pub : pub\n":       open("a.f", pub(0), pub(0), pub(0), pub(0), pub(0), pub(0)),
		"a.f sec16 pub1 sec9 pub10 sec pub : sec\n": shut("a.f", sec(16), pub(1), sec(9), pub(10), sec(0), pub(0)),
		"pub.sec pub : sec\n":                       shut("pub.sec", pub(0)),
		"a.a : pub\n":                               open("a.a"),
		"z9_.y_0 : pub\n":                           open("z9_.y_0"),
		name12 + "." + name12 + " : pub\n":          open(name12 + "." + name12),
		name12 + "." + name12 + " sec16 sec16 sec16 sec16 sec16 sec16 : sec\n": shut(name12+"."+name12, sec(16), sec(16), sec(16), sec(16), sec(16), sec(16)),
	}
	for n := 1; n <= 16; n++ {
		l[fmt.Sprintf("a.f pub%d : pub\n", n)] = open("a.f", pub(n))
		l[fmt.Sprintf("b.g sec%d pub%d : sec\n", n, 17-n)] = shut("b.g", sec(n), pub(17-n))
	}
	return l
}

// told asks that a list has that text, and the text that list.
func told(t *testing.T, l []api.Sig, text string) {
	t.Helper()
	if s, e := Text(l); e != api.OK || s != text {
		t.Errorf("Text(%+v): %q, %d; not %q", l, s, e, text)
	}
	if m, e := Read(text); e != api.OK || !same(m, l) {
		t.Errorf("Read(%q): %+v, %d; not %+v", text, m, e, l)
	}
}

// P4.2: lists of no signature, of one of each form, and of several, in order.
func TestTextAndRead(t *testing.T) {
	told(t, nil, "")
	told(t, []api.Sig{}, "")
	for text, sig := range lines() {
		told(t, []api.Sig{sig}, text)
		other := shut("a.z", sec(3))
		told(t, []api.Sig{sig, other}, text+"a.z sec3 : sec\n")
		told(t, []api.Sig{other, sig}, "a.z sec3 : sec\n"+text)
	}
	told(t, []api.Sig{open("b.f"), open("a.f"), shut("a.g"), shut("ab.f"), open("a.fg"), open("f.a")}, "b.f : pub\na.f : pub\na.g : sec\nab.f : sec\na.fg : pub\nf.a : pub\n")
	var many []api.Sig
	var text strings.Builder
	for i := range 2000 {
		many = append(many, open(fmt.Sprintf("u%d.f%d", i%100, i/100), pub(i%17)))
		text.WriteString(strings.Replace(fmt.Sprintf("u%d.f%d pub%d : pub\n", i%100, i/100, i%17), "pub0", "pub", 1))
	}
	told(t, many, text.String())
}

// refused are signatures that may not be.
func refused() []api.Sig {
	seven := make([]api.Type, 7)
	l := []api.Sig{{}, {Name: "a.f", Params: seven}, {Name: "a.f", Params: make([]api.Type, 70), Sec: true}}
	for _, s := range []string{"a", "f", ".", "a.", ".f", "a.b.c", "a..f", ".a.f", "a.f.", "a.1", "1.f", "_.f", "a._", "a.F", "A.f", "a. f", "a .f", " a.f", "a.f ", "a.f\n", "\na.f", "a\n.f", "a:f", "a.:", "a,f", "a.f-", "a.f\x00", "ä.f", "a.\xff", name13 + ".f", "a." + name13, name12 + name12, "a.f : pub\nb.g"} {
		l = append(l, open(s), shut(s, pub(0)))
	}
	for _, n := range []int{-1, -2, -16, 17, 18, 100, 256, 1 << 32, 1<<32 + 1, 1<<63 - 1, -1 << 63} {
		for at := range 6 {
			params := make([]api.Type, 6)
			params[at] = api.Type{Len: n, Sec: at%2 == 1}
			l = append(l, open("a.f", params...), shut("a.f", params[:at+1]...))
		}
	}
	return l
}

// P4.2: ErrForm of what may not be, wherever it stands, and ahead of ErrTwice.
func TestTextErrForm(t *testing.T) {
	fine, other := open("a.g", pub(1)), shut("b.h")
	for _, bad := range refused() {
		for _, l := range [][]api.Sig{{bad}, {bad, fine}, {fine, bad}, {fine, bad, other}, {fine, fine, bad}, {bad, fine, fine}, {fine, bad, fine}, {bad, bad}} {
			if s, e := Text(l); e != api.ErrForm || s != "" {
				t.Errorf("Text(%+v): %q, %d", l, s, e)
			}
		}
	}
}

// P4.2: ErrTwice where two have one name, next to one another or not, whatever else they have.
func TestTextErrTwice(t *testing.T) {
	f, g, h := open("a.f"), open("a.g", sec(2)), shut("b.f")
	twins := []api.Sig{f, shut("a.f"), open("a.f", pub(0)), shut("a.f", sec(16), pub(2))}
	for _, twin := range twins {
		for _, l := range [][]api.Sig{{f, twin}, {twin, f}, {g, f, twin}, {f, g, twin}, {f, twin, g}, {f, g, h, twin}, {g, twin, h, f, f}} {
			if s, e := Text(l); e != api.ErrTwice || s != "" {
				t.Errorf("Text(%+v): %q, %d", l, s, e)
			}
		}
	}
}

// notRead asks that a text is no list's.
func notRead(t *testing.T, text string) {
	t.Helper()
	if l, e := Read(text); e != api.ErrForm || len(l) != 0 {
		t.Errorf("Read(%q): %+v, %d", text, l, e)
	}
}

// P4.2: ErrForm of texts that are no list's, alone and beside lines that are fine.
func TestReadErrForm(t *testing.T) {
	bad := []string{
		" \n", ":\n", ": pub\n", " : pub\n", "a.f\n", "a.f \n", "a.f :\n", "a.f : \n", "a.f pub\n", "a.f pub :\n", "a.f : pub pub\n", "a.f : pub : pub\n", "a.f : : pub\n", // parts too few, too many
		"a.f  : pub\n", "a.f :  pub\n", "a.f : pub \n", " a.f : pub\n", "a.f pub  : pub\n", "a.f  pub : pub\n", "a.f: pub\n", "a.f :pub\n", "a.f:pub\n", "a.fpub : pub pub\n", "a.f pubsec : pub\n", "a.f pub8sec : pub\n", "a.f\tpub : pub\n", "a.f pub :\tpub\n", // blanks
		"a.f : puB\n", "a.f : pu\n", "a.f : Sec\n", "a.f : se\n", "a.f : secret\n", "a.f : public\n", "a.f : 1\n", "a.f x : pub\n", "a.f PUB : pub\n", "a.f pu8 : pub\n", "a.f 8 : pub\n", "a.f pubx : pub\n", "a.f secpub : pub\n", "a.f pubsec8 : pub\n", "a.f secsec : sec\n", "a.f pubpub8 : pub\n", "a.f secpub8 : pub\n", // labels
		"a.f : pub1\n", "a.f : sec1\n", "a.f : pub0\n", "a.f : sec16\n", // results that are arrays
		"a.f pub0 : pub\n", "a.f sec0 : pub\n", "a.f pub00 : pub\n", "a.f pub08 : pub\n", "a.f sec01 : pub\n", "a.f pub17 : pub\n", "a.f sec17 : pub\n", "a.f pub20 : pub\n", "a.f pub100 : pub\n", "a.f pub-1 : pub\n", "a.f pub+1 : pub\n", "a.f pub-0 : pub\n", "a.f pub1_0 : pub\n", "a.f pub0x8 : pub\n", "a.f pub8. : pub\n", "a.f pub 8 : pub\n", "a.f pub1.0 : pub\n", "a.f pub1e1 : pub\n", "a.f sec\xd9\xa3 : pub\n",
		"a.f pub18446744073709551617 : pub\n", "a.f sec4294967297 : pub\n", "a.f pub9223372036854775807 : pub\n", "a.f pub" + strings.Repeat("9", 400) + " : pub\n", // lengths
		"a.f" + strings.Repeat(" pub", 7) + " : pub\n", "a.f" + strings.Repeat(" sec16", 70) + " : sec\n",
		"f : pub\n", "a. : pub\n", ".f : pub\n", ". : pub\n", "a.b.c : pub\n", "a..f : pub\n", "a.1 : pub\n", "A.f : pub\n", name13 + ".f : pub\n", "a." + name13 + " : pub\n", "a.f\x00 : pub\n", "a.\xff : pub\n", // names
		"a.f : pub\r\n", "\na.f : pub\n\n", "a.f : pub\x00\n", "; a note\n",
	}
	for _, line := range bad {
		notRead(t, line)
		notRead(t, strings.TrimSuffix(line, "\n"))
		notRead(t, "a.z pub : sec\n"+line)
		notRead(t, line+"a.z pub : sec\n")
		notRead(t, "a.y sec : sec\n"+line+"a.z pub : sec\n")
	}
	for _, behind := range []string{" ", "a", "a.g", "a.g ", "a.g : ", "a.g : pub", ":", "\x00", "\r", ";"} {
		notRead(t, "a.f : pub\n"+behind)
		notRead(t, behind)
	}
	for line := range lines() {
		notRead(t, strings.TrimSuffix(line, "\n"))
		notRead(t, line+line)
		notRead(t, line+"a.z : pub\n"+line)
		notRead(t, strings.ReplaceAll(line, "\n", "\r"))
	}
	for _, empty := range []string{"\n", "\n\n", "a.f : pub\n\n", "\na.f : pub\n", "a.f : pub\n\na.g : pub\n"} {
		notRead(t, empty)
	}
	for _, twice := range []string{"a.f : pub\na.f : sec\n", "a.f pub : pub\na.f : pub\n", "a.f pub : pub\na.g : pub\na.f : pub\n"} {
		notRead(t, twice)
	}
}

// P4.3: the first one of that name; none and false, if none has it.
func TestFind(t *testing.T) {
	f, g, second := open("a.f", pub(1), sec(0)), shut("a.g"), shut("a.f", sec(9))
	odd := shut("no name", pub(-1), sec(99))
	nameless := open("", sec(3))
	l := []api.Sig{g, f, second, odd, nameless, g}
	for _, want := range []api.Sig{f, g, odd, nameless} {
		if sig, is := Find(l, want.Name); !is || !same(sig, want) {
			t.Errorf("Find(%q): %+v, %v", want.Name, sig, is)
		}
	}
	if sig, is := Find([]api.Sig{second, f}, "a.f"); !is || !same(sig, second) {
		t.Errorf("Find of the first of two: %+v, %v", sig, is)
	}
	for _, name := range []string{"a.h", "a", "f", "g", "a.", ".f", "A.f", "a.ff", "aa.f", "a.f ", "\n"} {
		if sig, is := Find(l, name); is || !same(sig, api.Sig{}) {
			t.Errorf("Find(%q): %+v, %v", name, sig, is)
		}
	}
	for _, empty := range [][]api.Sig{nil, {}} {
		for _, name := range []string{"", "a.f"} {
			if sig, is := Find(empty, name); is || !same(sig, api.Sig{}) {
				t.Errorf("Find in no list of %q: %+v, %v", name, sig, is)
			}
		}
	}
}

// anySig is a signature, of which most may be.
func anySig(r *rand.Rand) api.Sig {
	names := []string{"a", "b", "c1", "d_", name12, "a", "b", "f", "g", "h"}
	if r.Intn(20) == 0 {
		names = []string{"a", "", "a.b", "1", name13, "F"}
	}
	sig := api.Sig{Name: names[r.Intn(len(names))] + "." + names[r.Intn(len(names))], Sec: r.Intn(2) == 0}
	for range r.Intn(7) {
		sig.Params = append(sig.Params, api.Type{Sec: r.Intn(2) == 0, Len: r.Intn(17) * r.Intn(2)})
	}
	if r.Intn(30) == 0 {
		sig.Params = append(sig.Params, api.Type{Len: r.Intn(40) - 10})
	}
	return sig
}

// P4.4: what is told as a text is read as it was, and nothing else is told as that text.
func TestToldIsRead(t *testing.T) {
	r := rand.New(rand.NewSource(4))
	met := map[string]string{}
	counts := map[api.Errno]int{}
	for range 30000 {
		var l []api.Sig
		for range r.Intn(5) {
			l = append(l, anySig(r))
		}
		text, e := Text(l)
		counts[e]++
		if want := errorOf(l); e != want {
			t.Fatalf("Text(%+v): %d; not %d", l, e, want)
		}
		if e != api.OK {
			continue
		}
		if m, e := Read(text); e != api.OK || !same(m, l) {
			t.Fatalf("Read(%q): %+v, %d; not %+v", text, m, e, l)
		}
		list := fmt.Sprintf("%+v", l)
		if other, is := met[text]; is && other != list {
			t.Fatalf("%q is the text of %s and of %s", text, list, other)
		}
		met[text] = list
	}
	if counts[api.OK] < 3000 || counts[api.ErrForm] < 3000 || counts[api.ErrTwice] < 500 {
		t.Errorf("too few of one sort: %v", counts)
	}
}

// P4.4: what is read is told as the same text; which texts are read is held against a pattern. All texts that differ in a byte from some are asked.
func TestReadIsTold(t *testing.T) {
	texts := []string{"a.f pub8 sec : sec\nb.g : pub\n", "a.f pub : pub\na.g sec1 : pub\n", "a.f pub1 pub1 pub1 pub1 pub1 pub1 : pub\n", name12 + ".f sec10 : sec\n", "a.f : pub\nb.f : pub\nab.f : pub\n"}
	read := 0
	ask := func(text string) {
		t.Helper()
		l, e := Read(text)
		if want := isText(text); (e == api.OK) != want || !want && (e != api.ErrForm || len(l) != 0) {
			t.Fatalf("Read(%q): %+v, %d; should be read: %v", text, l, e, want)
		}
		if e != api.OK {
			return
		}
		read++
		if s, e := Text(l); e != api.OK || s != text {
			t.Fatalf("%q is told as %q, %d", text, s, e)
		}
	}
	for _, text := range texts {
		ask(text)
		for at := range len(text) {
			ask(text[:at])
			ask(text[at:])
			ask(text[:at] + text[at+1:])
			for b := range 256 {
				ask(text[:at] + string([]byte{byte(b)}) + text[at:])
				ask(text[:at] + string([]byte{byte(b)}) + text[at+1:])
			}
			for _, piece := range []string{" pub", " sec", " : ", "16", "a.f", "a.f : pub\n", "\n\n", "  ", "00", " :", ": "} {
				ask(text[:at] + piece + text[at:])
			}
		}
		for b := range 256 {
			ask(text + string([]byte{byte(b)}))
		}
	}
	if read < 500 {
		t.Errorf("too few are read: %d", read)
	}
}

// P4.2, P4.4: all texts of up to five pieces of lines, held against the pattern.
func TestReadOfPieces(t *testing.T) {
	pieces := []string{"a.f", "b.g", " ", " : ", ":", "pub", " sec", "8", "17", "0", "\n", " : pub\n", "a.f : sec\n", " pub1"}
	read := 0
	var ask func(text string, more int)
	ask = func(text string, more int) {
		l, e := Read(text)
		if want := isText(text); (e == api.OK) != want {
			t.Fatalf("Read(%q): %+v, %d; should be read: %v", text, l, e, want)
		}
		if e == api.OK {
			read++
			if s, e := Text(l); e != api.OK || s != text {
				t.Fatalf("%q is told as %q, %d", text, s, e)
			}
		}
		if more == 0 {
			return
		}
		for _, p := range pieces {
			ask(text+p, more-1)
		}
	}
	ask("", 5)
	if read < 100 {
		t.Errorf("too few are read: %d", read)
	}
}

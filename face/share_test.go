package face

import (
	"fmt"
	"testing"

	"carling/api"
)

// scribble writes over all types of a list of signatures, and over what there is room for behind them, and over the list.
func scribble(l []api.Sig) {
	l = l[:cap(l)]
	for i := range l {
		p := l[i].Params[:cap(l[i].Params)]
		for j := range p {
			p[j] = api.Type{Sec: !p[j].Sec, Len: 99}
		}
		l[i] = api.Sig{Name: "scribbled"}
	}
}

// R3: signatures that are told have nothing of the unit, and none has anything of another.
func TestSigsShareNothing(t *testing.T) {
	params := []api.Param{{Name: "x", Type: pub(1)}, {Name: "y", Type: sec(2)}}
	u := api.Unit{Name: "a", Funcs: []api.Func{{Name: "f", Params: params}, {Name: "g", Params: params[:1]}, {Name: "h"}}}
	before := fmt.Sprintf("%+v", u)
	want := fmt.Sprintf("%+v", Sigs(u))
	first, second := Sigs(u), Sigs(u)
	scribble(first[:1])
	if fmt.Sprintf("%+v", u) != before || fmt.Sprintf("%+v", second) != want {
		t.Errorf("shared: %+v, %+v", u, second)
	}
	third := Sigs(u)
	for j := range third[0].Params[:cap(third[0].Params)] {
		third[0].Params[:cap(third[0].Params)][j].Len = 77
	}
	if !same(third[1:], second[1:]) {
		t.Errorf("one has something of another: %+v", third)
	}
	params[0].Type.Len = 55
	if fmt.Sprintf("%+v", second) != want {
		t.Errorf("the unit's: %+v", second)
	}
}

// R3: what is found is the caller's own, with all the room behind it.
func TestFindSharesNothing(t *testing.T) {
	room := []api.Type{pub(1), sec(2), pub(3), pub(4)}
	l := []api.Sig{open("a.f", room[:2]...), open("a.g")}
	before := fmt.Sprintf("%+v %+v", l, room)
	for range 2 {
		sig, is := Find(l, "a.f")
		if !is || !same(sig, open("a.f", pub(1), sec(2))) {
			t.Errorf("Find: %+v, %v", sig, is)
		}
		sig.Params = append(sig.Params, sec(9))
		scribble([]api.Sig{sig})
		if fmt.Sprintf("%+v %+v", l, room) != before {
			t.Errorf("changed: %+v %+v", l, room)
		}
	}
}

// R3: a list that is told as a text stays as it is; what is read is the caller's own, each time.
func TestTextAndReadShareNothing(t *testing.T) {
	room := []api.Type{pub(1), sec(2), pub(3), pub(4)}
	l := []api.Sig{shut("b.f", room[:2]...), open("a.g", room[1:3]...), open("a.f")}
	before := fmt.Sprintf("%+v %+v", l, room)
	text, e := Text(l)
	if e != api.OK || fmt.Sprintf("%+v %+v", l, room) != before {
		t.Errorf("changed by Text: %+v %+v, %d", l, room, e)
	}
	first, _ := Read(text)
	for j := range first[0].Params[:cap(first[0].Params)] {
		first[0].Params[:cap(first[0].Params)][j].Len = 77
	}
	if !same(first[1:], l[1:]) {
		t.Errorf("one has something of another: %+v", first)
	}
	scribble(first)
	if second, e := Read(text); e != api.OK || !same(second, l) {
		t.Errorf("Read again: %+v, %d", second, e)
	}
}

// R4: what is answered does not hang on the order of a map, nor on the calls ahead.
func TestSameAgain(t *testing.T) {
	var l []api.Sig
	for i := range 50 {
		l = append(l, open(fmt.Sprintf("u%d.f", i), pub(i%17)))
	}
	first, _ := Text(l)
	for range 20 {
		if e := func() api.Errno { _, e := Text(append(l, l[7])); return e }(); e != api.ErrTwice {
			t.Errorf("two of one name: %d", e)
		}
		if s, e := Text(l); e != api.OK || s != first {
			t.Errorf("another text: %q, %d", s, e)
		}
	}
}

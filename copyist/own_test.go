package copyist_test

import (
	"slices"
	"testing"

	"copyist/api"
	"copyist/copyist"
)

// scribble writes over a list and its spare room.
func scribble[T any](list []T, with T) {
	list = list[:cap(list)]
	for i := range list {
		list[i] = with
	}
}

// scribbleAll writes over all lists of an answer.
func scribbleAll(a api.Answer) {
	for _, list := range [][]int{a.Sight.Text, a.Sight.Tags, a.Sight.Pending, a.Sight.Line, a.Reg.Text} {
		scribble(list, 4242)
	}
	scribble(a.Data, '#')
	scribble(a.Names, "spoiled")
}

// TestNewMemory: nothing that is done with an answer is seen later, in the session or on the disk.
func TestNewMemory(t *testing.T) {
	for _, keys := range []string{"", "2\"ad", "v", "ix", "i␖", ":ab", "/ab⌫", "qaxl", "x:w⏎", "x:w n⏎", "x:f n⏎", ":e b⏎", ":r b⏎", "yy:e n⏎"} {
		x := begin(t, usual("a", "a", "abc\ndef\n", "b", "other")).does("\"ayy\"byl" + keys)
		tell := []api.Step{seen, {Kind: api.StepReg, N: 'a'}, {Kind: api.StepReg, N: 'b'}, {Kind: api.StepReg, N: '"'}, looked("a"), looked("b"), {Kind: api.StepNames}}
		ahead := []api.Answer{}
		for _, s := range tell {
			ahead = append(ahead, x.do(s))
		}
		for range 2 {
			for _, s := range tell {
				scribbleAll(x.e.Do(s))
				x.p.Do(s) // the same steps of the disk
			}
		}
		for i, s := range tell {
			if a := x.do(s); !same(a, ahead[i]) {
				t.Errorf("%q, step %d: %+v, want %+v", keys, s.Kind, a, ahead[i])
			}
		}
		x.keys("ab⏎␛␛q")
		x.keys("@a␛␛u")
		x.see()
		x.ends()
	}
	// no two lists of one answer share memory
	x := begin(t, usual("a", "a", "abc")).does(":abc␖")
	s := x.e.Do(seen).Sight
	scribble(s.Text, 4242)
	if show(s.Line) != "abc" || !slices.Equal(s.Tags, []int{0, 1, 2}) || !slices.Equal(s.Pending, []int{22}) {
		t.Errorf("%+v", s)
	}
	// nor do those of two answers of one run
	all := run(t, usual("a", "a", "abc"), seen, looked("a"), seen, looked("a"), api.Step{Kind: api.StepNames}, api.Step{Kind: api.StepNames})
	for i := range 3 {
		scribbleAll(all[[]int{0, 1, 4}[i]])
	}
	if show(all[2].Sight.Text) != "abc" || string(all[3].Data) != "abc" || all[5].Names[0] != "a" {
		t.Errorf("%+v", all)
	}
}

// roomy is a list with spare room, which is full of a value.
func roomy[T any](list []T, with T) []T {
	out := append(make([]T, 0, len(list)+20), list...)
	spare := out[len(out):cap(out)]
	for i := range spare {
		spare[i] = with
	}
	return out
}

// untouched tells whether a roomy list is as it was made.
func untouched[T comparable](list, was []T, with T) bool {
	return slices.Equal(list, was) && !slices.ContainsFunc(list[len(list):cap(list)], func(v T) bool { return v != with })
}

// TestSetupIsNotKept: files that are handed in are neither changed nor kept.
func TestSetupIsNotKept(t *testing.T) {
	data := roomy([]byte("abc\n"), '#')
	s := usual("a")
	s.Files = append(make([]api.File, 0, 9), api.File{Name: "a", Data: data}, api.File{Name: "b", Data: data})
	e, err := copyist.New(s)
	if err != api.OK {
		t.Fatal(err)
	}
	e.Do(typed("xA!␛oy␛:w⏎:e b⏎x:w⏎"))
	if !untouched(data, []byte("abc\n"), '#') || len(s.Files) != 2 || s.Files[0].Name != "a" || s.Files[:3][2].Name != "" {
		t.Errorf("%q, %+v", data[:cap(data)], s)
	}
	scribble(data, 'z')
	s.Files[0] = api.File{Name: "q"}
	held(t, e.Do(looked("a")), "bc!\ny\n")
	held(t, e.Do(looked("b")), "bc\n")
	e.Do(typed(":e! b⏎u"))
	if a := e.Do(seen); show(a.Sight.Text) != "bc\n" {
		t.Errorf("%+v", a)
	}
	e.Do(api.Step{Kind: api.StepRestart, Name: "a"})
	if a := e.Do(seen); show(a.Sight.Text) != "bc!\ny\n" {
		t.Errorf("%+v", a)
	}
}

// TestStepsAreNotKept: the lists of a step are neither changed nor kept.
func TestStepsAreNotKept(t *testing.T) {
	e, err := copyist.New(usual("a", "a", "abc"))
	if err != api.OK {
		t.Fatal(err)
	}
	keys := roomy(strokes("xqaiqqq␛q"), 7777)
	e.Do(api.Step{Kind: api.StepKeys, Keys: keys})
	if !untouched(keys, strokes("xqaiqqq␛q"), 7777) {
		t.Errorf("%v", keys[:cap(keys)])
	}
	scribble(keys, 'z')
	if a := e.Do(api.Step{Kind: api.StepReg, N: 'a'}); show(a.Reg.Text) != "iqqq\x1b" {
		t.Errorf("%+v", a)
	}
	data := roomy([]byte("poked"), '#')
	e.Do(api.Step{Kind: api.StepPoke, Name: "b", Data: data})
	e.Do(typed(":w! b⏎"))
	e.Do(api.Step{Kind: api.StepPoke, Name: "b", Data: data})
	if !untouched(data, []byte("poked"), '#') {
		t.Errorf("%q", data[:cap(data)])
	}
	scribble(data, 'z')
	held(t, e.Do(looked("b")), "poked")

	// faults, and their cuts: the disk goes down behind the Append, and keeps Make and one byte
	cut := roomy([]int{9, 1, 9}, 7777)
	faults := []api.Fault{{Step: 3, Kind: api.FaultBehind, Cut: api.Cut{Names: 1, Bytes: cut}}, {Step: 9, Kind: api.FaultRefuse}}
	e.Do(api.Step{Kind: api.StepFaults, Faults: faults})
	if !untouched(cut, []int{9, 1, 9}, 7777) || faults[0].Step != 3 || faults[1].Step != 9 {
		t.Errorf("%+v", faults)
	}
	scribble(cut, 0)
	faults[0] = api.Fault{}
	if a := e.Do(typed(":w⏎")); a.Err != api.ErrDown {
		t.Errorf("%+v", a)
	}
	rest := roomy([]int{9}, 7777)
	e.Do(api.Step{Kind: api.StepRestart, Name: "a", Cut: api.Cut{Bytes: rest}})
	if !untouched(rest, []int{9}, 7777) {
		t.Errorf("%v", rest[:cap(rest)])
	}
	if a := e.Do(seen); show(a.Sight.Text) != "abc" {
		t.Errorf("%+v", a)
	}
}

// TestTwoEditors: they have nothing in common.
func TestTwoEditors(t *testing.T) {
	s := usual("a", "a", "abc abc\n", "b", "other")
	one, err := copyist.New(s)
	if err != api.OK {
		t.Fatal(err)
	}
	x := begin(t, s)
	ahead := x.state()
	one.Do(typed("qaxma/c⏎fbiX␛yyvl␛q@a:s/a/b/⏎:set ic br=cr⏎:w⏎:f n⏎:w⏎:e b⏎x2\"bd"))
	one.Do(api.Step{Kind: api.StepPoke, Name: "c", Data: []byte("c")})
	one.Do(api.Step{Kind: api.StepFaults, Faults: []api.Fault{fault(1, api.FaultAhead)}})
	one.Do(looked("a"))
	if !x.state().equal(ahead) {
		t.Errorf("%+v", x.state())
	}
	x.files("a", "abc abc\n", "b", "other").answers("n", api.ErrEmpty).answers(".", api.ErrNothing).does("x:w⏎").file("a", "bc abc\n").ends()
	if a := one.Do(looked("a")); a.Err != api.ErrDown {
		t.Errorf("%+v", a)
	}
}

package ex_test

import (
	"slices"
	"testing"

	"copyist/api"
	"copyist/ex"
)

// roomy is a list with spare room, which is full of a number that is never met elsewhere.
func roomy(s string) []int {
	list := make([]int, 0, 64)
	list = append(list, spell(s)...)
	for i := len(list); i < cap(list); i++ {
		list[:cap(list)][i] = 7777
	}
	return list
}

// untouched tells whether a roomy list is as it was made.
func untouched(list []int, s string) bool {
	if !slices.Equal(list, spell(s)) {
		return false
	}
	return !slices.ContainsFunc(list[len(list):cap(list)], func(a int) bool { return a != 7777 })
}

// scribble writes over a list and its spare room.
func scribble(lists ...[]int) {
	for _, list := range lists {
		list = list[:cap(list)]
		for i := range list {
			list[i] = 4242
		}
	}
}

// lists are all lists of a command line.
func lists(x *api.Ex) []*[]int {
	all := []*[]int{&x.Pat, &x.Rep, &x.Arg, &x.Dest.Pat}
	for i := range x.Addrs {
		all = append(all, &x.Addrs[i].Pat)
	}
	return all
}

// TestParseOwn, P1501: src is neither changed nor kept, and no two lists of an answer share memory, spare room included.
func TestParseOwn(t *testing.T) {
	for _, line := range []string{"/abc/,?def?s/ghi/jkl/g", "/ab/,/ab/g/cd/d x y", "/a/m/bc/", "1,2d a", "w! name", "set ic ws ", "v#x#/y/d", "s/a", "g/", "'a,'bk c"} {
		src := roomy(line)
		x, _, err := ex.Parse(src)
		if err != api.OK || !untouched(src, line) {
			t.Fatalf("%q: %d, %v", line, err, src)
		}
		want, _, _ := ex.Parse(spell(line))
		scribble(src)
		if !same(x, want) {
			t.Fatalf("%q: src was kept", line)
		}
		for i := range lists(&x) {
			y, _, _ := ex.Parse(spell(line))
			scribble(*lists(&y)[i])
			*lists(&y)[i] = *lists(&want)[i]
			if !same(y, want) {
				t.Fatalf("%q: the list %d shares memory with another one", line, i)
			}
		}
		addrs := x.Addrs[:cap(x.Addrs)]
		clear(addrs)
		if y, _, _ := ex.Parse(spell(line)); !same(y, want) {
			t.Fatalf("%q: an answer was kept", line)
		}
	}
}

// TestPrintOwn, P1505: the lists of a command line are neither changed nor kept.
func TestPrintOwn(t *testing.T) {
	make := func() api.Ex {
		return api.Ex{Verb: api.XSub, Addrs: append(make([]api.Addr, 0, 5), api.Addr{Kind: api.ASearch, Pat: roomy("a/b")}, api.Addr{Kind: api.ASearchBack, Pat: roomy("?")}), Pat: roomy("p/q"), Rep: roomy("r")}
	}
	x := make()
	line, err := ex.Print(x)
	want := slices.Clone(line)
	if err != api.OK || !untouched(x.Pat, "p/q") || !untouched(x.Rep, "r") || !untouched(x.Addrs[0].Pat, "a/b") || !untouched(x.Addrs[1].Pat, "?") || x.Addrs[:3][2].Kind != 0 {
		t.Fatalf("%+v, %d", x, err)
	}
	for _, list := range lists(&x) {
		scribble(*list)
	}
	if !slices.Equal(line, want) {
		t.Errorf("an argument was kept")
	}
	scribble(line)
	if again, _ := ex.Print(make()); !slices.Equal(again, want) {
		t.Errorf("%q", show(again))
	}
	g := api.Ex{Verb: api.XGlobal, Pat: roomy("a"), Arg: roomy("d")}
	line, _ = ex.Print(g)
	scribble(line)
	if !untouched(g.Arg, "d") || !untouched(g.Pat, "a") {
		t.Errorf("%+v", g)
	}
}

// TestLinesOwn, P1506: addresses are neither changed nor kept; each answer is new memory.
func TestLinesOwn(t *testing.T) {
	d := desk(t, "a\nb\nc\n", 0)
	d.Find = roomy("b")
	addrs := append(make([]api.Addr, 0, 5), api.Addr{Kind: api.ASearch, Pat: roomy("c")}, api.Addr{Kind: api.ASearch}, number(1))
	got, err := ex.Lines(d, addrs)
	if err != api.OK || !slices.Equal(got, []int{2, 2, 0}) || !untouched(addrs[0].Pat, "c") || addrs[:4][3].Kind != 0 || !untouched(d.Find, "b") {
		t.Fatalf("%v, %d, %+v", got, err, addrs)
	}
	scribble(got)
	if again, _ := ex.Lines(d, addrs); !slices.Equal(again, []int{2, 2, 0}) {
		t.Errorf("%v", again)
	}
}

// TestRunOwn, P1507, P1514: src is neither changed nor kept; Find, Sub and the register have memory of their own.
func TestRunOwn(t *testing.T) {
	for _, line := range []string{"%s/a/bb/", "/a/s//bb/", "g/a/s//bb/", "g/q\\|a/s/a/bb/", "%s/a/bb/n"} {
		d := desk(t, "a\nb\na\n", 4)
		src := roomy(line)
		if _, err := ex.Run(d, src); err != api.OK || !untouched(src, line) {
			t.Fatalf("%q: %d", line, err)
		}
		scribble(src)
		if show(d.Find) != "a" || show(d.Sub.Pat) != "a" || show(d.Sub.Rep) != "bb" {
			t.Fatalf("%q: src was kept: %q, %+v", line, show(d.Find), d.Sub)
		}
		scribble(d.Find)
		if show(d.Sub.Pat) != "a" {
			t.Fatalf("%q: Find and Sub share memory", line)
		}
		holds(t, d, '/', api.ByChars, "a")
		scribble(d.Sub.Pat)
		if show(d.Sub.Rep) != "bb" {
			t.Fatalf("%q: a pattern and its replacement share memory", line)
		}
	}
	// what was put on the desk from outside is not written to
	d := desk(t, "a\nb\na\n", 0)
	find, pat, rep := roomy("a"), roomy("b"), roomy("c")
	d.Find, d.Sub = find, api.Sub{Pat: pat, Rep: rep}
	run(t, d, "s//x/", api.OK)
	scribble(d.Find, d.Sub.Pat, d.Sub.Rep)
	if !untouched(find, "a") || !untouched(pat, "b") || !untouched(rep, "c") {
		t.Errorf("%v %v %v", find, pat, rep)
	}
	d.Find, d.Sub = find, api.Sub{Pat: pat, Rep: rep}
	run(t, d, "2&", api.OK)
	scribble(d.Find, d.Sub.Pat, d.Sub.Rep)
	if !untouched(find, "a") || !untouched(pat, "b") || !untouched(rep, "c") {
		t.Errorf("%v %v %v", find, pat, rep)
	}
	d.Find, d.Sub = find, api.Sub{Pat: pat, Rep: rep}
	run(t, d, "g//s/q/z/", api.OK)
	run(t, d, "g/[/d", api.ErrPattern)
	if !untouched(find, "a") || !untouched(pat, "b") || !untouched(rep, "c") {
		t.Errorf("%v %v %v", find, pat, rep)
	}
}

// TestTwoDesks: two desks have nothing in common.
func TestTwoDesks(t *testing.T) {
	d, e := desk(t, "a\nb\n", 0), desk(t, "a\nb\n", 0)
	was := look(e)
	for _, line := range []string{"y a", "s/a/x/", "g/^/t.", "k a", "set ic", "/b/"} {
		run(t, d, line, api.OK)
	}
	if !look(e).equal(was) {
		t.Errorf("%+v", look(e))
	}
}

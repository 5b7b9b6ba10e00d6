package modal_test

import (
	"slices"
	"testing"

	"copyist/api"
	"copyist/modal"
	"copyist/operate"
)

// scribble writes over lists and their spare room.
func scribble(lists ...[]int) {
	for _, list := range lists {
		list = list[:cap(list)]
		for i := range list {
			list[i] = 4242
		}
	}
}

// roomy is a list with spare room, which is full of a number that is never met elsewhere.
func roomy(atoms []int) []int {
	list := append(make([]int, 0, len(atoms)+40), atoms...)
	for i := len(list); i < cap(list); i++ {
		list[:cap(list)][i] = 7777
	}
	return list
}

// untouched tells whether a roomy list is as it was made.
func untouched(list, atoms []int) bool {
	return slices.Equal(list, atoms) && !slices.ContainsFunc(list[len(list):cap(list)], func(a int) bool { return a != 7777 })
}

// TestAnswersAreNewMemory: nothing that is done with what See and Reg tell is seen later.
func TestAnswersAreNewMemory(t *testing.T) {
	for _, keys := range []string{"", "2\"ad", "v", "ix", "i␖", ":ab", "/ab⌫", "?␖", "qaxl", "A⏎", "R", ":ab cd␗", ":abc␕", "d/a"} {
		x := load(t, "abc\ndef\n").bank('a', api.ByChars, "xyz").does(keys)
		ahead := x.state()
		for range 2 {
			s := x.m.See()
			scribble(s.Text, s.Tags, s.Pending, s.Line)
			r, _ := x.m.Reg('a')
			scribble(r.Text)
		}
		if !x.state().equal(ahead) {
			t.Errorf("%q: %+v", keys, x.state())
		}
		x.keys("ab⏎␛␛q").keys("@a␛␛")
	}
	// no two lists of one answer share memory
	x := load(t, "abc").does(":abc␖")
	s := x.m.See()
	scribble(s.Text)
	if show(s.Line) != "abc" || !slices.Equal(s.Tags, []int{0, 1, 2}) || !slices.Equal(s.Pending, []int{22}) {
		t.Errorf("%+v", s)
	}
}

// TestNothingIsKept: bytes and texts that are handed in are neither changed nor kept.
func TestNothingIsKept(t *testing.T) {
	b := append(make([]byte, 0, 20), "abc\n"...)
	spare := b[:cap(b)]
	m, err := modal.New(api.UTF8, b, 100, api.LF, 5, 5)
	if err != api.OK {
		t.Fatal(err)
	}
	for _, k := range strokes("xA!␛oy␛dd") {
		m.Key(k)
	}
	if string(spare[:4]) != "abc\n" || slices.ContainsFunc(spare[4:], func(c byte) bool { return c != 0 }) {
		t.Errorf("%q", spare)
	}
	for i := range spare {
		spare[i] = 'z'
	}
	for range 9 {
		m.Key('u')
	}
	if s := m.See(); show(s.Text) != "abc\n" {
		t.Errorf("%q", show(s.Text))
	}
	for _, text := range []string{"x", "x\n", "x\r\n", "\n"} {
		for line := range 3 {
			for _, whole := range []string{"a\nb", "a\nb\n"} {
				x := load(t, whole)
				list := roomy(spell(text))
				x.brings(line, list, api.OK)
				if !untouched(list, spell(text)) {
					t.Errorf("%q: %v", text, list[:cap(list)])
				}
				ahead := x.state()
				scribble(list)
				if !x.state().equal(ahead) {
					t.Errorf("%q was kept", text)
				}
			}
		}
	}
}

// TestDeskListsAreNotWritten: what was put on the desk from outside is not written to, and what the machine keeps is its own.
func TestDeskListsAreNotWritten(t *testing.T) {
	x := load(t, "a b a b\na b\n")
	find, pat, rep := roomy(spell("b")), roomy(spell("a")), roomy(spell("<&>"))
	x.m.Desk().Find, x.m.Desk().Sub = find, api.Sub{Pat: pat, Rep: rep}
	x.p.d.Find, x.p.d.Sub = spell("b"), api.Sub{Pat: spell("a"), Rep: spell("<&>")}
	x.does("nN/⏎d/⏎.&*#n:s//q/⏎u")
	if !untouched(find, spell("b")) || !untouched(pat, spell("a")) || !untouched(rep, spell("<&>")) {
		t.Errorf("%v %v %v", find, pat, rep)
	}
	// what the dot seeks is not what stands in Find
	x = load(t, "a b c b d b").does("d/b⏎")
	scribble(x.m.Desk().Find)
	x.both(func(d *operate.Desk) { d.Find = spell("zz") })
	x.does(".").sees("b d b", 0)
	scribble(x.m.Desk().Find)
	x.both(func(d *operate.Desk) { d.Find = spell("zz") })
	x.does(".").sees("b", 0)
	// what was typed into a line is not what stands in Find
	x = load(t, "a b c b d b").does("/b⏎/c⌫zz␛n").at(6)
	x.does("/d⏎").at(8).does(":xyzxyz␛n").at(8)
}

// TestTwoMachines: they have nothing in common.
func TestTwoMachines(t *testing.T) {
	b := []byte("abc abc\nabc\n")
	m, _ := modal.New(api.UTF8, b, 100, api.LF, 5, 5)
	n, _ := modal.New(api.UTF8, b, 100, api.LF, 5, 5)
	ahead := stateOf(n.See(), n.Desk())
	for _, k := range strokes("qaxma/c⏎fbiX␛yy.v␛q@a:s/a/b/⏎:set ic br=cr⏎2\"bd") {
		m.Key(k)
	}
	if !stateOf(n.See(), n.Desk()).equal(ahead) {
		t.Errorf("%+v", n.See())
	}
	for _, k := range strokes(".;n@@gv&u") {
		if _, err := n.Key(k); err == api.OK && !slices.Contains(strokes("@gv"), k) {
			t.Errorf("%q is known", rune(k))
		}
	}
	if m.Desk() == n.Desk() {
		t.Error("one desk")
	}
}

// TestOddPlaces: wherever the cursor is set to from outside, and however often, no key panics.
func TestOddPlaces(t *testing.T) {
	for _, at := range []int{-1, -1 << 60, 1, 3, 4, 5, 8, 9, 1 << 60} {
		for _, keys := range []string{"x", "dw", "cwx␛", "ix␛", "ax␛", "Ix␛", "Ax␛", "ox␛", "Ox␛", "Rxyz⌫␛", "*", "#", "/a⏎", "dd", "p", "yy", "J", "~", "rx", "v␛gv", "vld", "VU", ":d⏎", ":⏎", "ma`a", "H", "zt", "␅", "␄", "u", ".", "i⌫␛", "i␗␛", "i␕␛", "w", "b", "$", "j", "k", "fa", "viw", "diw", "%", "}"} {
			m, _ := modal.New(api.UTF8, []byte("ae\u0301\r\nb\n"), 100, api.LF, 5, 2)
			m.Desk().At = at
			m.See()
			for _, k := range strokes(keys) {
				m.Key(k)
				m.See()
			}
			m.Desk().At = at
			m.Bring(1, []int{'x'})
			m.See()
		}
	}
}

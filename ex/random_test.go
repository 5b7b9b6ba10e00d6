package ex_test

import (
	"math/rand"
	"slices"
	"testing"

	"copyist/api"
	"copyist/ex"
	"copyist/operate"
)

// pair is a desk beside another one, on which lines are done plainly.
type pair struct {
	t    *testing.T
	d, p *operate.Desk
}

// both does something to the two desks.
func (x *pair) both(do func(d *operate.Desk)) {
	do(x.d)
	do(x.p)
}

// does runs a line on both desks, and holds all that they tell against one another.
func (x *pair) does(line []int) api.Errno {
	x.t.Helper()
	was := look(x.d)
	wish, err := ex.Run(x.d, line)
	wantWish, want := plainRun(x.p, line)
	got, model := look(x.d), look(x.p)
	if err != want || wish != wantWish || !got.equal(model) {
		x.t.Fatalf("%q on %q At %d:\n got %+v %d %+v\nwant %+v %d %+v", show(line), show(was.Atoms), was.At, got, err, wish, model, want, wantWish)
	}
	if err != api.OK && !got.equal(was) {
		x.t.Fatalf("%q on %q At %d: refused by %d, and yet something has changed:\n got %+v\nwant %+v", show(line), show(was.Atoms), was.At, err, got, was)
	}
	return err
}

// samePast holds against one another what undo and redo lead to.
func (x *pair) samePast() {
	x.t.Helper()
	if !slices.EqualFunc(past(x.d), past(x.p), sight.equal) {
		x.t.Fatalf("the pasts are not the same")
	}
}

type picker struct{ *rand.Rand }

func (r picker) pick(list ...string) string { return list[r.Intn(len(list))] }

func (r picker) address() string {
	return r.pick("", "1", "2", "3", "0", ".", "$", "$", "'a", "'b", "'z", "/a/", "?b?", "//", "/^$/", "?c", "9") + r.pick("", "", "", "", "+", "-", "+2", "-1")
}

func (r picker) pattern() string {
	return r.pick("a", "b", "c", "^", "$", "x*", ".", "", "", "\\(a\\)\\|b", "[ab]", " ", "^\\s*$", "A", "\\w\\+", "q", "[", "\\<")
}

func (r picker) sub() string {
	return "s/" + r.pattern() + "/" + r.pick("", "x", "<&>", "\\1\\1", "\\r", "a\\nb", "\\u&", "\\q", "\\t", "\\r\\r", "&&", "\u00e9", "\\xff") + "/" + r.pick("", "", "g", "g", "n", "i", "gin")
}

// command is one that may stand behind a global one, as a rule.
func (r picker) command() string {
	head := r.pick("", "", "", "", "%", ",", r.address(), r.address(), r.address()+","+r.address(), "'a,", ".,+1", "-1")
	switch r.Intn(10) {
	case 0:
		return head + r.pick("d", "y", "d a", "y B", "d _", "y a 2", "d 2", "d 99", "yank \" 1")
	case 1:
		return head + r.pick("pu", "pu!", "pu a", "pu! b", "pu /", "pu 1", "pu 0", "put! -", "pu z")
	case 2, 3:
		return head + r.pick("m", "t", "m", "co ") + r.pick("0", "$", ".", "+", "-", r.address(), r.address())
	case 4:
		return head + r.pick("j", "j!", "j 3", "j! 1", "j99", "join")
	case 5:
		return head + r.pick(">", "<", ">>", "<<<")
	case 6, 7:
		return head + r.sub()
	case 8:
		return head + r.pick("&", "&g", "& i", "&n", "k a", "kb", "k c", "k '", "k Z")
	}
	return head
}

func (r picker) line() string {
	switch r.Intn(10) {
	case 0, 1, 2:
		return r.pick("", "", "", "1,2", "2,$", r.address()) + r.pick("g", "g", "v", "g!") + "/" + r.pattern() + "/" + r.command()
	case 3:
		return r.pick("u", "u", "u", "red", "red", "set ic", "set noic nows", "set ws br=crlf", "set br=cr", "set br=lf", "set x", "w a", "q!", "2r x", "/a/r", "0r", "g/a/u", "g/a/set", "g/b/g/a/d", "zz", "1,2,3d", "g/a/zz")
	}
	return r.command()
}

// setUp makes both desks of a text, with marks, registers, a place and settings.
func (r picker) setUp(t *testing.T, enc int, atoms []int, limit int) *pair {
	x := &pair{t, deskIn(t, enc, atoms, 0, limit), deskIn(t, enc, atoms, 0, limit)}
	n := len(atoms)
	at, a, b := r.Intn(n+4)-2, r.Intn(n+1), r.Intn(n+1)
	set := api.Settings{IgnoreCase: r.Intn(4) == 0, NoWrap: r.Intn(4) == 0, Native: r.Intn(4)}
	texts := [][]int{spell("q\n"), spell("w"), spell("x\ny\r\n"), spell("\n"), spell("p\r"), spell("\nz"), {0xE9, 'b'}}
	one, two := texts[r.Intn(len(texts))], texts[r.Intn(len(texts))]
	kind := r.Intn(2)
	hasFind := r.Intn(3) == 0
	x.both(func(d *operate.Desk) {
		d.Book.SetMark('a', a)
		d.Book.SetMark('b', b)
		d.Book.Watch([]int{a, b, n})
		d.Bank.Yank('a', api.Reg{Kind: kind, Text: one})
		d.Bank.Yank(0, api.Reg{Kind: 1 - kind, Text: two})
		d.At = at
		d.Set = set
		if hasFind {
			d.Find, d.Sub = spell("b"), api.Sub{Pat: spell("a"), Rep: spell("<&>"), Flags: 1}
		}
	})
	return x
}

// TestRandom, P1506 to P1516: lines of all kinds on texts of all kinds, one behind the other, held against the plain reading.
func TestRandom(t *testing.T) {
	random := picker{rand.New(rand.NewSource(1507))}
	parts := [][]int{{'a'}, {'b'}, {'c'}, {' '}, {9}, {10}, {10}, {10}, {13}, {13, 10}, {'e', 0x301}, {'A'}, {'a', 10}, {'b', 10}, {' ', 10}, {0xE9}}
	good := 0
	for range 6000 {
		var atoms []int
		for range random.Intn(14) {
			atoms = append(atoms, parts[random.Intn(len(parts))]...)
		}
		enc := encodings[random.Intn(len(encodings))]
		if enc == api.Latin1 {
			atoms = slices.DeleteFunc(atoms, func(a int) bool { return a > 255 })
		}
		limit := 400
		if random.Intn(4) == 0 {
			limit = 4*len(atoms) + random.Intn(8)
		}
		x := random.setUp(t, enc, atoms, limit)
		for range 1 + random.Intn(6) {
			if x.does(spell(random.line())) == api.OK {
				good++
			}
		}
		x.samePast()
	}
	if good < 8000 {
		t.Errorf("only %d lines were done", good)
	}
}

// TestRandomGlobal, P1515: a global command with each command in it, on texts with many short lines.
func TestRandomGlobal(t *testing.T) {
	random := picker{rand.New(rand.NewSource(1515))}
	parts := [][]int{{'a', 10}, {'b', 10}, {10}, {' ', 10}, {' ', 'a', 10}, {13}, {13, 10}, {'c', 'a', 'b', 13, 10}, {'b', 13}, {9, 'c', 10}, {'a'}}
	done := 0
	for range 8000 {
		var atoms []int
		for range random.Intn(12) {
			atoms = append(atoms, parts[random.Intn(len(parts))]...)
		}
		x := random.setUp(t, api.UTF8, atoms, 2000)
		line := random.pick("g", "g", "v") + "/" + random.pick("^", "^", "a", "b", "^$", "[ab]", "x*") + "/" + random.command()
		if x.does(spell(line)) == api.OK {
			done++
		}
		x.does(spell(random.pick("u", "g/^/"+random.command(), "%s/a/b/g", "m0")))
		x.samePast()
	}
	if done < 2500 {
		t.Errorf("only %d lines were done", done)
	}
}

package ex_test

import (
	"math"
	"math/rand"
	"slices"
	"strconv"
	"strings"
	"testing"

	"copyist/api"
	"copyist/ex"
)

// plainNames are the first names of the table.
var plainNames = map[int]string{
	api.XGoto: "", api.XDelete: "d", api.XYank: "y", api.XPut: "pu", api.XMove: "m", api.XCopy: "t", api.XJoin: "j", api.XSub: "s", api.XSubAgain: "&",
	api.XGlobal: "g", api.XGlobalNot: "v", api.XMark: "k", api.XUndo: "u", api.XRedo: "red", api.XSet: "set", api.XWrite: "w", api.XEdit: "e",
	api.XWriteQuit: "wq", api.XExit: "x", api.XQuit: "q", api.XRead: "r", api.XFile: "f",
}

// quoted is a text with a backslash ahead of each sign.
func quoted(text []int, sign int) []int {
	var out []int
	for _, atom := range text {
		if atom == sign {
			out = append(out, '\\')
		}
		out = append(out, atom)
	}
	return append(out, sign)
}

func plainPrintAddr(a api.Addr) []int {
	var out []int
	switch a.Kind {
	case api.ANumber:
		out = spell(strconv.Itoa(a.N))
	case api.ADot:
		out = spell(".")
	case api.ALast:
		out = spell("$")
	case api.AMark:
		out = []int{39, a.N}
	case api.ASearch:
		out = append(spell("/"), quoted(a.Pat, '/')...)
	case api.ASearchBack:
		out = append(spell("?"), quoted(a.Pat, '?')...)
	}
	if a.Off != 0 {
		off := strconv.Itoa(a.Off)
		if a.Off > 0 {
			off = "+" + off
		}
		out = append(out, spell(off)...)
	}
	return out
}

// plainForm is the form of a line, all that the chapter says of it put down one behind the other.
func plainForm(x api.Ex, sign int) []int {
	var out []int
	for i, a := range x.Addrs {
		if i > 0 {
			out = append(out, ',')
		}
		out = append(out, plainPrintAddr(a)...)
	}
	switch x.Verb {
	case api.XRight:
		out = append(out, slices.Repeat([]int{'>'}, max(min(x.Count, 3000), 0))...)
	case api.XLeft:
		out = append(out, slices.Repeat([]int{'<'}, max(min(x.Count, 3000), 0))...)
	default:
		out = append(out, spell(plainNames[x.Verb])...)
	}
	if x.Force {
		out = append(out, '!')
	}
	flags := func() {
		for i, letter := range spell("gin") {
			if x.Flags>>i&1 == 1 {
				out = append(out, letter)
			}
		}
	}
	switch x.Verb {
	case api.XSub:
		out = append(append(append(out, sign), quoted(x.Pat, sign)...), quoted(x.Rep, sign)...)
		flags()
	case api.XSubAgain:
		flags()
	case api.XGlobal, api.XGlobalNot:
		out = append(append(append(out, sign), quoted(x.Pat, sign)...), x.Arg...)
	case api.XMove, api.XCopy:
		out = append(append(out, ' '), plainPrintAddr(x.Dest)...)
	case api.XRight, api.XLeft:
	default:
		if x.Reg != 0 {
			out = append(out, ' ', x.Reg)
		}
		if x.Count != 0 {
			out = append(append(out, ' '), spell(strconv.Itoa(x.Count))...)
		}
		if len(x.Arg) > 0 {
			out = append(append(out, ' '), x.Arg...)
		}
	}
	return out
}

func plainPrint(x api.Ex) ([]int, api.Errno) {
	if _, ok := plainNames[x.Verb]; !ok && x.Verb != api.XRight && x.Verb != api.XLeft {
		return nil, api.ErrArg
	}
	for _, sign := range spell("/#,;:!@=") {
		line := plainForm(x, sign)
		if y, _, err := plainParse(line); err == api.OK && same(x, y) {
			return line, api.OK
		}
	}
	return nil, api.ErrArg
}

// prints holds Print against the plain one.
func prints(t *testing.T, x api.Ex) api.Errno {
	t.Helper()
	line, err := ex.Print(x)
	want, wantErr := plainPrint(x)
	if err != wantErr || !slices.Equal(line, want) {
		t.Fatalf("Print(%+v) = %q, %d; want %q, %d", x, show(line), err, show(want), wantErr)
	}
	if err == api.OK {
		if y, _, err := ex.Parse(line); err != api.OK || !same(x, y) {
			t.Fatalf("Print(%+v) = %q, which reads as %+v, %d", x, show(line), y, err)
		}
	}
	return err
}

// TestPrintRows, P1505: what is told, letter by letter.
func TestPrintRows(t *testing.T) {
	for _, c := range []struct {
		x    api.Ex
		want string
	}{
		{api.Ex{Verb: api.XGoto}, ""},
		{api.Ex{Verb: api.XGoto, Addrs: []api.Addr{dot(0)}}, "."},
		{api.Ex{Verb: api.XGoto, Addrs: []api.Addr{number(1), last(0)}}, "1,$"},
		{api.Ex{Verb: api.XDelete, Reg: 'a', Count: 5, Addrs: []api.Addr{dot(-2), number(7)}}, ".-2,7d a 5"},
		{api.Ex{Verb: api.XDelete, Count: 999999999}, "d 999999999"},
		{api.Ex{Verb: api.XYank, Reg: '-'}, "y -"},
		{api.Ex{Verb: api.XYank, Reg: '-', Count: 5}, "y - 5"},
		{api.Ex{Verb: api.XPut, Force: true, Reg: '/'}, "pu! /"},
		{api.Ex{Verb: api.XMove, Dest: last(0)}, "m $"},
		{api.Ex{Verb: api.XCopy, Dest: api.Addr{Kind: api.AMark, N: 0, Off: 999999999}}, "t '\x00+999999999"},
		{api.Ex{Verb: api.XJoin, Force: true, Count: 2}, "j! 2"},
		{api.Ex{Verb: api.XRight, Count: 3}, ">>>"},
		{api.Ex{Verb: api.XLeft, Count: 1}, "<"},
		{api.Ex{Verb: api.XSub, Pat: spell("a/b"), Rep: spell("c"), Flags: 5}, "s/a\\/b/c/gn"},
		{api.Ex{Verb: api.XSub, Pat: spell("a\\/b")}, "s#a\\/b##"},
		{api.Ex{Verb: api.XSub, Pat: spell("\\/"), Rep: spell("\\#\\,\\;\\:\\!")}, "s@\\/@\\#\\,\\;\\:\\!@"},
		{api.Ex{Verb: api.XSubAgain, Flags: 3}, "&gi"},
		{api.Ex{Verb: api.XGlobal, Pat: spell("a"), Arg: spell(" d ")}, "g/a/ d "},
		{api.Ex{Verb: api.XGlobal, Pat: spell("\\/\\#\\,\\;\\:")}, "g@\\/\\#\\,\\;\\:@"},
		{api.Ex{Verb: api.XGlobalNot, Pat: spell("\\/\\#\\,\\;\\:")}, "v!\\/\\#\\,\\;\\:!"},
		{api.Ex{Verb: api.XGlobalNot, Pat: spell("a"), Arg: spell("d")}, "v/a/d"},
		{api.Ex{Verb: api.XMark, Reg: 'a'}, "k a"},
		{api.Ex{Verb: api.XUndo}, "u"}, {api.Ex{Verb: api.XRedo}, "red"},
		{api.Ex{Verb: api.XSet}, "set"}, {api.Ex{Verb: api.XSet, Arg: spell("ic  ws")}, "set ic  ws"},
		{api.Ex{Verb: api.XWrite, Arg: spell("!")}, "w !"}, {api.Ex{Verb: api.XEdit, Force: true}, "e!"}, {api.Ex{Verb: api.XWriteQuit}, "wq"},
		{api.Ex{Verb: api.XExit, Force: true, Arg: spell("b")}, "x! b"}, {api.Ex{Verb: api.XQuit}, "q"}, {api.Ex{Verb: api.XFile, Arg: spell("n")}, "f n"},
		{api.Ex{Verb: api.XRead, Addrs: []api.Addr{ahead("a/b"), back("?")}, Arg: spell("x")}, "/a\\/b/,?\\??r x"},
	} {
		if line, err := ex.Print(c.x); err != api.OK || show(line) != c.want {
			t.Errorf("Print(%+v) = %q, %d; want %q", c.x, show(line), err, c.want)
		}
		prints(t, c.x)
	}
}

// TestPrintRefused, P1505: what no line of the form reads as.
func TestPrintRefused(t *testing.T) {
	goTo := func(a ...api.Addr) api.Ex { return api.Ex{Verb: api.XGoto, Addrs: a} }
	for _, x := range []api.Ex{
		{}, {Verb: -1}, {Verb: 18}, {Verb: 27}, {Verb: math.MinInt}, {Verb: api.XDelete + 1<<32},
		goTo(number(-1)), goTo(number(1000000000)), goTo(number(math.MinInt)), goTo(dot(1000000000)), goTo(dot(math.MinInt)), goTo(last(math.MaxInt)), goTo(api.Addr{}), goTo(api.Addr{Kind: 7}), goTo(api.Addr{Kind: -1, Off: 2}),
		goTo(api.Addr{Kind: api.ADot, N: 1}), goTo(api.Addr{Kind: api.ADot, Pat: spell("a")}), goTo(api.Addr{Kind: api.ALast, N: 1}), goTo(api.Addr{Kind: api.ANumber, Pat: spell("a")}), goTo(api.Addr{Kind: api.ASearch, N: 3}), goTo(api.Addr{Kind: api.AMark, N: 'a', Pat: spell("b")}),
		goTo(ahead("a\\")), goTo(ahead("\\/")), goTo(back("\\?")), goTo(back("a\\\\\\")), goTo(dot(0), dot(0), dot(0)), goTo(api.Addr{}, dot(0)), goTo(dot(0), api.Addr{}),
		{Verb: api.XGoto, Force: true}, {Verb: api.XGoto, Reg: 'a'}, {Verb: api.XGoto, Count: 1}, {Verb: api.XGoto, Arg: spell("d")}, {Verb: api.XGoto, Flags: 1}, {Verb: api.XGoto, Dest: dot(0)},
		{Verb: api.XDelete, Force: true}, {Verb: api.XDelete, Reg: '5'}, {Verb: api.XDelete, Reg: '.'}, {Verb: api.XDelete, Reg: ' '}, {Verb: api.XDelete, Reg: -1}, {Verb: api.XDelete, Reg: 'a' + 1<<32}, {Verb: api.XDelete, Count: -5}, {Verb: api.XDelete, Count: 1000000000}, {Verb: api.XDelete, Pat: spell("a")}, {Verb: api.XDelete, Rep: spell("a")}, {Verb: api.XDelete, Arg: spell("a")}, {Verb: api.XDelete, Dest: dot(0)}, {Verb: api.XDelete, Flags: 1},
		{Verb: api.XPut, Reg: '%'}, {Verb: api.XPut, Count: 3}, {Verb: api.XMove}, {Verb: api.XCopy, Dest: api.Addr{Kind: 9}}, {Verb: api.XCopy, Dest: number(-1)}, {Verb: api.XMove, Dest: ahead("\\")}, {Verb: api.XMove, Dest: dot(0), Count: 1}, {Verb: api.XMove, Dest: dot(0), Force: true},
		{Verb: api.XJoin, Reg: 'a'}, {Verb: api.XRight}, {Verb: api.XRight, Count: -1}, {Verb: api.XLeft, Count: 1025}, {Verb: api.XLeft, Count: math.MaxInt}, {Verb: api.XLeft, Count: math.MinInt}, {Verb: api.XRight, Count: 1, Force: true},
		{Verb: api.XSub, Pat: spell("a\\")}, {Verb: api.XSub, Rep: spell("\\")}, {Verb: api.XSub, Flags: 8}, {Verb: api.XSub, Flags: -1}, {Verb: api.XSub, Force: true}, {Verb: api.XSub, Pat: spell("\\/\\#\\,\\;\\:\\!\\@\\=")}, {Verb: api.XSub, Arg: spell("a")}, {Verb: api.XSubAgain, Flags: 9}, {Verb: api.XSubAgain, Pat: spell("a")},
		{Verb: api.XGlobal, Force: true}, {Verb: api.XGlobalNot, Force: true}, {Verb: api.XGlobal, Rep: spell("a")}, {Verb: api.XGlobal, Pat: spell("\\/\\#\\,\\;\\:\\@\\=")}, {Verb: api.XGlobal, Pat: spell("\\")},
		{Verb: api.XMark}, {Verb: api.XMark, Reg: ' '}, {Verb: api.XMark, Reg: 9}, {Verb: api.XMark, Reg: 'a', Count: 1}, {Verb: api.XMark, Reg: 'a', Force: true}, {Verb: api.XUndo, Addrs: []api.Addr{number(1)}}, {Verb: api.XUndo, Force: true}, {Verb: api.XRedo, Count: 1},
		{Verb: api.XSet, Arg: spell(" ic")}, {Verb: api.XSet, Arg: spell("ic\t")}, {Verb: api.XSet, Force: true}, {Verb: api.XSet, Addrs: []api.Addr{dot(0)}},
		{Verb: api.XWrite, Arg: spell("a b")}, {Verb: api.XWrite, Arg: []int{127}}, {Verb: api.XWrite, Arg: []int{'a' + 1<<32}}, {Verb: api.XWrite, Addrs: []api.Addr{dot(0)}}, {Verb: api.XQuit, Arg: spell("a")}, {Verb: api.XRead, Force: true}, {Verb: api.XRead, Arg: spell(" ")}, {Verb: api.XFile, Force: true}, {Verb: api.XFile, Reg: 'a'},
	} {
		if err := prints(t, x); err != api.ErrArg {
			t.Errorf("Print(%+v): %d", x, err)
		}
	}
}

// TestPrintLong, P1505: a line of MaxLine atoms is told; where each sign needs too many, none is. The first sign that leaves room is taken.
func TestPrintLong(t *testing.T) {
	of := func(n int, s string) []int { return spell(strings.Repeat(s, n)) }
	for _, c := range []struct {
		x    api.Ex
		sign int
	}{
		{api.Ex{Verb: api.XSub, Pat: of(1020, "a")}, '/'}, {api.Ex{Verb: api.XSub, Pat: of(1021, "a")}, 0}, {api.Ex{Verb: api.XSub, Pat: of(510, "/")}, '/'}, {api.Ex{Verb: api.XSub, Pat: of(511, "/")}, '#'}, {api.Ex{Verb: api.XSub, Rep: of(400, "/#")}, ','},
		{api.Ex{Verb: api.XSub, Rep: of(130, "/#,;:!@=")}, 0}, {api.Ex{Verb: api.XGlobal, Arg: of(1021, "d")}, '/'}, {api.Ex{Verb: api.XGlobal, Arg: of(1022, "d")}, 0}, {api.Ex{Verb: api.XGlobal, Pat: of(200, "/#,;:")}, '@'},
	} {
		line, err := ex.Print(c.x)
		switch {
		case c.sign == 0 && err != api.ErrArg, c.sign != 0 && err != api.OK:
			t.Errorf("%d", err)
		case c.sign != 0 && line[1] != c.sign:
			t.Errorf("the sign %c; want %c", rune(line[1]), rune(c.sign))
		}
		prints(t, c.x)
	}
	for n := 1019; n < 1027; n++ {
		prints(t, api.Ex{Verb: api.XRight, Count: n})
		prints(t, api.Ex{Verb: api.XSet, Arg: of(n, "a")})
		prints(t, api.Ex{Verb: api.XWrite, Arg: of(n, "a")})
		prints(t, api.Ex{Verb: api.XGoto, Addrs: []api.Addr{ahead(strings.Repeat("a", n))}})
		prints(t, api.Ex{Verb: api.XGoto, Addrs: []api.Addr{{Kind: api.ASearchBack, Pat: of(n/2, "?"), Off: 3}}})
		prints(t, api.Ex{Verb: api.XMove, Dest: ahead(strings.Repeat("a", n-3))})
	}
	huge := make([]int, 1<<20)
	for _, x := range []api.Ex{{Verb: api.XSub, Pat: huge}, {Verb: api.XSub, Rep: huge}, {Verb: api.XGlobal, Arg: huge}, {Verb: api.XSet, Arg: huge}, {Verb: api.XGoto, Addrs: make([]api.Addr, 1<<20)}, {Verb: api.XGoto, Addrs: []api.Addr{{Kind: api.ASearch, Pat: huge}}}, {Verb: api.XMove, Dest: api.Addr{Kind: api.ASearch, Pat: huge}}} {
		if line, err := ex.Print(x); err != api.ErrArg || len(line) != 0 {
			t.Errorf("a list of %d ints: %d", len(huge), err)
		}
	}
}

// TestPrintWhatParses, P1505: what Parse told can be told again, if there is room.
func TestPrintWhatParses(t *testing.T) {
	random := rand.New(rand.NewSource(1505))
	seen := map[int]int{}
	for range 30000 {
		line := randomLine(random)
		if x, _, err := ex.Parse(line); err == api.OK {
			seen[x.Verb]++
			if err := prints(t, x); err != api.OK {
				t.Fatalf("%q: %d", show(line), err)
			}
		}
	}
	for verb := range plainNames {
		if seen[verb] == 0 {
			t.Errorf("the verb %d was never read", verb)
		}
	}
}

// TestPrintRandom, P1505: command lines with fields of any kind.
func TestPrintRandom(t *testing.T) {
	random := rand.New(rand.NewSource(51))
	num := func(good ...int) int {
		if random.Intn(8) == 0 {
			return odd[random.Intn(len(odd))]
		}
		return good[random.Intn(len(good))]
	}
	texts := []string{"", "", "a", "a/b", "\\/", "\\", "/#", "ic", " d", "x y", "\\#/", "!", "d"}
	text := func() []int { return spell(texts[random.Intn(len(texts))]) }
	addr := func() api.Addr {
		a := api.Addr{Kind: num(1, 2, 3, 4, 5, 6, 7), Off: num(0, 0, 1, -1, 20)}
		switch a.Kind {
		case api.ANumber, api.AMark:
			a.N = num(0, 1, 'a', 999999999)
		case api.ASearch, api.ASearchBack:
			a.Pat = text()
		}
		return a
	}
	good := 0
	for range 60000 {
		x := api.Ex{Verb: num(1, 2, 3, 4, 5, 6, 7, 8, 9, 10, 11, 12, 13, 14, 15, 16, 17, 20, 21, 22, 23, 24, 25, 26)}
		for range random.Intn(3) {
			x.Addrs = append(x.Addrs, addr())
		}
		if tail := plainTails[x.Verb]; tail != "" || random.Intn(9) == 0 {
			x.Force = strings.Contains(tail, "!") && random.Intn(2) == 0 || random.Intn(30) == 0
			if strings.ContainsAny(tail, "rpm") || random.Intn(30) == 0 {
				x.Reg = num(0, 'a', 'Z', '"', '_', '-', '5', ':')
			}
			if strings.Contains(tail, "c") || random.Intn(30) == 0 {
				x.Count = num(0, 1, 5, 999999999)
			}
			if strings.Contains(tail, "a") {
				x.Dest = addr()
			}
			if strings.Contains(tail, "S") {
				x.Pat = text()
			}
			if strings.Contains(tail, "R") {
				x.Rep = text()
			}
			if strings.Contains(tail, "f") {
				x.Flags = num(0, 1, 2, 3, 4, 5, 6, 7)
			}
			if strings.ContainsAny(tail, "Lwn") {
				x.Arg = text()
			}
		}
		if x.Verb == api.XRight || x.Verb == api.XLeft {
			x.Count = num(1, 2, 3, 0)
		}
		if prints(t, x) == api.OK {
			good++
		}
	}
	if good < 5000 {
		t.Errorf("only %d were good", good)
	}
}

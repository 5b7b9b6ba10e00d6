package ex_test

import (
	"math"
	"math/rand"
	"slices"
	"strings"
	"testing"

	"copyist/api"
	"copyist/ex"
)

// parses holds Parse against a line that is read plainly, and tells whether it is good.
func parses(t *testing.T, src []int) (api.Ex, bool) {
	t.Helper()
	x, place, err := ex.Parse(src)
	y, wantPlace, want := plainParse(src)
	if err != want || place != wantPlace || !same(x, y) {
		t.Fatalf("Parse(%q) = %+v, %d, %d; want %+v, %d, %d", show(src), x, place, err, y, wantPlace, want)
	}
	return x, err == api.OK
}

// TestParseRows, P1501 to P1504: the chapter's examples, and what its sentences name.
func TestParseRows(t *testing.T) {
	for _, c := range []struct {
		line string
		want api.Ex
	}{
		{"", api.Ex{Verb: api.XGoto}},
		{" \t ", api.Ex{Verb: api.XGoto}},
		{"3", api.Ex{Verb: api.XGoto, Addrs: []api.Addr{number(3)}}},
		{"%d", api.Ex{Verb: api.XDelete, Addrs: []api.Addr{number(1), last(0)}}},
		{".,+3>>", api.Ex{Verb: api.XRight, Count: 2, Addrs: []api.Addr{dot(0), dot(3)}}},
		{"'a,$-1y x 5", api.Ex{Verb: api.XYank, Addrs: []api.Addr{{Kind: api.AMark, N: 97}, last(-1)}, Reg: 120, Count: 5}},
		{"/a\\/b/+t0", api.Ex{Verb: api.XCopy, Addrs: []api.Addr{{Kind: api.ASearch, Pat: spell("a/b"), Off: 1}}, Dest: number(0)}},
		{"s#a\\/b#\\##g", api.Ex{Verb: api.XSub, Pat: spell("a\\/b"), Rep: spell("#"), Flags: 1}},
		{"s/x", api.Ex{Verb: api.XSub, Pat: spell("x")}},
		{"g!/^$/ d", api.Ex{Verb: api.XGlobalNot, Pat: spell("^$"), Arg: spell(" d")}},
		{"kb", api.Ex{Verb: api.XMark, Reg: 98}},
		{"w! a.txt", api.Ex{Verb: api.XWrite, Force: true, Arg: spell("a.txt")}},
		// addresses
		{",5", api.Ex{Verb: api.XGoto, Addrs: []api.Addr{dot(0), number(5)}}},
		{"5,", api.Ex{Verb: api.XGoto, Addrs: []api.Addr{number(5), dot(0)}}},
		{" , ", api.Ex{Verb: api.XGoto, Addrs: []api.Addr{dot(0), dot(0)}}},
		{"\t5 \t, \t-\td", api.Ex{Verb: api.XDelete, Addrs: []api.Addr{number(5), dot(-1)}}},
		{"00012", api.Ex{Verb: api.XGoto, Addrs: []api.Addr{number(12)}}},
		{"999999999", api.Ex{Verb: api.XGoto, Addrs: []api.Addr{number(999999999)}}},
		{"1000000000", api.Ex{Verb: api.XGoto, Addrs: []api.Addr{number(999999999)}}},
		{"$+999999999+999999999", api.Ex{Verb: api.XGoto, Addrs: []api.Addr{last(999999999)}}},
		{"$+999999999+999999999-999999998", api.Ex{Verb: api.XGoto, Addrs: []api.Addr{last(999999999)}}},
		{"$+999999999+5-999999999", api.Ex{Verb: api.XGoto, Addrs: []api.Addr{last(5)}}},
		{"-999999999-1", api.Ex{Verb: api.XGoto, Addrs: []api.Addr{dot(-999999999)}}},
		{"+-+-", api.Ex{Verb: api.XGoto, Addrs: []api.Addr{dot(0)}}},
		{"+0", api.Ex{Verb: api.XGoto, Addrs: []api.Addr{dot(0)}}},
		{"' ", api.Ex{Verb: api.XGoto, Addrs: []api.Addr{{Kind: api.AMark, N: 32}}}},
		{"'',',", api.Ex{Verb: api.XGoto, Addrs: []api.Addr{{Kind: api.AMark, N: 39}, {Kind: api.AMark, N: ','}}}},
		{"/", api.Ex{Verb: api.XGoto, Addrs: []api.Addr{{Kind: api.ASearch}}}},
		{"//,??-", api.Ex{Verb: api.XGoto, Addrs: []api.Addr{{Kind: api.ASearch}, {Kind: api.ASearchBack, Off: -1}}}},
		{"/a?/,?b/?d", api.Ex{Verb: api.XDelete, Addrs: []api.Addr{ahead("a?"), back("b/")}}},
		{"/\\\\/d", api.Ex{Verb: api.XDelete, Addrs: []api.Addr{ahead("\\\\")}}},
		{"/\\\\\\//d", api.Ex{Verb: api.XDelete, Addrs: []api.Addr{ahead("\\\\/")}}},
		{"?\\??d", api.Ex{Verb: api.XDelete, Addrs: []api.Addr{back("?")}}},
		// commands
		{"d\"", api.Ex{Verb: api.XDelete, Reg: '"'}},
		{"d_3", api.Ex{Verb: api.XDelete, Reg: '_', Count: 3}},
		{"d-  9\t", api.Ex{Verb: api.XDelete, Reg: '-', Count: 9}},
		{"yank\tZ", api.Ex{Verb: api.XYank, Reg: 'Z'}},
		{"d 99999999999", api.Ex{Verb: api.XDelete, Count: 999999999}},
		{"d 0007", api.Ex{Verb: api.XDelete, Count: 7}},
		{"pu!:", api.Ex{Verb: api.XPut, Force: true, Reg: ':'}},
		{"put! ", api.Ex{Verb: api.XPut, Force: true}},
		{"co.", api.Ex{Verb: api.XCopy, Dest: dot(0)}},
		{"m/a\\/", api.Ex{Verb: api.XMove, Dest: ahead("a/")}},
		{"m + ", api.Ex{Verb: api.XMove, Dest: dot(1)}},
		{"s,a\\,b,c", api.Ex{Verb: api.XSub, Pat: spell("a,b"), Rep: spell("c")}},
		{"s!!!", api.Ex{Verb: api.XSub}},
		{"s/a/b/ ", api.Ex{Verb: api.XSub, Pat: spell("a"), Rep: spell("b")}},
		{"s/a/ b ", api.Ex{Verb: api.XSub, Pat: spell("a"), Rep: spell(" b ")}},
		{"s/\\a/\\//ni", api.Ex{Verb: api.XSub, Pat: spell("\\a"), Rep: spell("/"), Flags: 6}},
		{"&", api.Ex{Verb: api.XSubAgain}},
		{"& \tign ", api.Ex{Verb: api.XSubAgain, Flags: 7}},
		{"g!!a!d", api.Ex{Verb: api.XGlobalNot, Pat: spell("a"), Arg: spell("d")}},
		{"v!a! d ", api.Ex{Verb: api.XGlobalNot, Pat: spell("a"), Arg: spell(" d ")}},
		{"g:a\\::s/a/b/ ", api.Ex{Verb: api.XGlobal, Pat: spell("a:"), Arg: spell("s/a/b/ ")}},
		{"g/a/\\", api.Ex{Verb: api.XGlobal, Pat: spell("a"), Arg: spell("\\")}},
		{"kk", api.Ex{Verb: api.XMark, Reg: 'k'}},
		{"k 1", api.Ex{Verb: api.XMark, Reg: '1'}},
		{"kA ", api.Ex{Verb: api.XMark, Reg: 'A'}},
		{"mark!", api.Ex{Verb: api.XMark, Reg: '!'}},
		{"set", api.Ex{Verb: api.XSet}},
		{"se ic  br=lf\t", api.Ex{Verb: api.XSet, Arg: spell("ic  br=lf")}},
		{"set1", api.Ex{Verb: api.XSet, Arg: spell("1")}},
		{"w", api.Ex{Verb: api.XWrite}},
		{"w!!", api.Ex{Verb: api.XWrite, Force: true, Arg: spell("!")}},
		{"w !", api.Ex{Verb: api.XWrite, Arg: spell("!")}},
		{"r!", api.Ex{Verb: api.XRead, Arg: spell("!")}},
		{"f ~", api.Ex{Verb: api.XFile, Arg: spell("~")}},
		{"q! ", api.Ex{Verb: api.XQuit, Force: true}},
	} {
		x, place, err := ex.Parse(spell(c.line))
		if err != api.OK || place != 0 || !same(x, c.want) {
			t.Errorf("Parse(%q) = %+v, %d, %d; want %+v", c.line, x, place, err, c.want)
		}
		parses(t, spell(c.line))
	}
}

// TestParseRefused, P1501 to P1504: the places of faults.
func TestParseRefused(t *testing.T) {
	for _, c := range []struct {
		line  string
		place int
		err   api.Errno
	}{
		{"1,2,3d", 3, api.ErrAddress}, {"5u", 1, api.ErrAddress}, {"'", 1, api.ErrAddress}, {"/a\\", 3, api.ErrAddress},
		{"% ,", 2, api.ErrAddress}, {"%,%", 1, api.ErrAddress}, {",,", 1, api.ErrAddress}, {"1,2 \t,", 5, api.ErrAddress}, {", , d", 2, api.ErrAddress},
		{"1,'", 3, api.ErrAddress}, {"1,?\\", 4, api.ErrAddress}, {"  ,u", 3, api.ErrAddress}, {"%set", 1, api.ErrAddress}, {". wq zz y", 2, api.ErrAddress}, {"1q x", 1, api.ErrAddress}, {"5file", 1, api.ErrAddress},
		{"5dd", 1, api.ErrCommand}, {"1z", 1, api.ErrCommand}, {"*", 0, api.ErrCommand}, {"%+", 1, api.ErrCommand}, {"%%", 1, api.ErrCommand}, {"3 +d", 2, api.ErrCommand}, {"3 4", 2, api.ErrCommand}, {". .", 2, api.ErrCommand},
		{"kab", 0, api.ErrCommand}, {"markb", 0, api.ErrCommand}, {"  D", 2, api.ErrCommand}, {"1,%d", 2, api.ErrCommand}, {"delet", 0, api.ErrCommand}, {"wfoo", 0, api.ErrCommand}, {"sx", 0, api.ErrCommand}, {"!", 0, api.ErrCommand}, {"1,2zz,", 3, api.ErrCommand},
		{"d 0", 2, api.ErrTail}, {"d x y", 4, api.ErrTail}, {"s/a/b/gg", 7, api.ErrTail}, {"s/a\\", 4, api.ErrTail}, {"m", 1, api.ErrTail}, {"q x", 2, api.ErrTail},
		{"d a 000", 4, api.ErrTail}, {"d!", 1, api.ErrTail}, {"d 3 3", 4, api.ErrTail}, {"y .", 2, api.ErrTail}, {"pu 12", 4, api.ErrTail}, {"pu !", 3, api.ErrTail}, {"j 0", 2, api.ErrTail}, {"j a", 2, api.ErrTail}, {"j!!", 2, api.ErrTail},
		{"m  ", 3, api.ErrTail}, {"m %", 2, api.ErrTail}, {"m ,", 2, api.ErrTail}, {"m1,2", 2, api.ErrTail}, {"t'", 2, api.ErrTail}, {"t/a\\", 4, api.ErrTail}, {"m1 +", 3, api.ErrTail},
		{">x", 1, api.ErrTail}, {">> 3", 3, api.ErrTail}, {"<>", 1, api.ErrTail}, {"s", 1, api.ErrTail}, {"s /a/b/", 1, api.ErrTail}, {"s(a(", 1, api.ErrTail}, {"s/a/b\\", 6, api.ErrTail}, {"s/a/b/ g", 7, api.ErrTail}, {"s/a/b/gx", 7, api.ErrTail}, {"s/a/b/g/", 7, api.ErrTail},
		{"&&", 1, api.ErrTail}, {"& g i", 4, api.ErrTail}, {"&!", 1, api.ErrTail}, {"g", 1, api.ErrTail}, {"g!", 2, api.ErrTail}, {"g a", 1, api.ErrTail}, {"g!x", 2, api.ErrTail}, {"v", 1, api.ErrTail}, {"g/a\\", 4, api.ErrTail}, {"v?a?", 1, api.ErrTail},
		{"k", 1, api.ErrTail}, {"mark ", 5, api.ErrTail}, {"k\x00", 1, api.ErrTail}, {"kb c", 3, api.ErrTail}, {"k ab", 3, api.ErrTail}, {"u!", 1, api.ErrTail}, {"redo 1", 5, api.ErrTail}, {"w a b", 4, api.ErrTail}, {"w a\x7f", 3, api.ErrTail}, {"w \x00", 2, api.ErrTail}, {"f a\u00e9", 3, api.ErrTail}, {"q!!", 2, api.ErrTail},
	} {
		x, place, err := ex.Parse(spell(c.line))
		if err != c.err || place != c.place || !same(x, api.Ex{}) {
			t.Errorf("Parse(%q) = %+v, %d, %d; want %d, %d", c.line, x, place, err, c.place, c.err)
		}
		parses(t, spell(c.line))
	}
}

// TestEveryName, P1504: every name, with none, one and two addresses, with what may follow it and with what may not.
func TestEveryName(t *testing.T) {
	tails := []string{"", " ", "!", "! ", " a", " A 5", "a", "5", " 0", " 5 a", "! 3", "!x", "/a/b/g", "/a/d", "!/a/d", "/a", "/a/", "#", " $", "'a+", " .", "\"", " :", "\x00", " a b", " \\", "/\\", "gi", " nn", "=x=y=", "-", "--", ",", "%", "1,2"}
	for name, verb := range plainVerbs {
		seen := false
		for _, addrs := range []string{"", "3", " 1 , $ ", "%", ",", "+", "'a", "/x/", "?x?-2,"} {
			for _, tail := range tails {
				x, ok := parses(t, spell(addrs+name+tail))
				seen = seen || ok && (x.Verb == verb || verb == api.XGlobal)
			}
		}
		if !seen {
			t.Errorf("%s was never read", name)
		}
		for i := range len(name) {
			parses(t, spell(name[:i]))
			parses(t, spell(name+name[i:]))
			parses(t, spell("1"+strings.ToUpper(name[:i])+name[i:]))
		}
	}
}

// TestParseShort, P1501 to P1504: all short lines of some alphabets.
func TestParseShort(t *testing.T) {
	for _, c := range []struct {
		alphabet string
		most     int
	}{
		{" 0,%/\\d!x'+", 4}, {"s/\\g i!#n", 5}, {"1+-,.$?'", 5}, {"k ab\x00!;", 5}, {"g!/v:\\ ", 6}, {"&><gi ", 5}, {"m1 '/,+%", 5}, {"wq!e xa", 5}, {"pu\"0-_.:", 5}, {"j!10 a", 6},
	} {
		alphabet := spell(c.alphabet)
		var grow func(line []int)
		grow = func(line []int) {
			parses(t, line)
			if len(line) < c.most {
				for _, atom := range alphabet {
					grow(append(slices.Clip(line), atom))
				}
			}
		}
		grow(nil)
	}
}

// odd are ints that stand for nothing, or look like a sign in their low digits.
var odd = []int{-1, -11, -256, -257, 0xD800, 0x110000, math.MinInt, math.MaxInt, 'd' + 1<<32, '/' + 1<<32, 32 + 1<<32, '0' + 1<<32, 'd' - 1<<32, ',' + 256, 'a' + 256, 0x2028, 0xA0, 10, 13, 0}

// TestParseAnyInts, P1501: any ints may stand in a line; none is taken for another one.
func TestParseAnyInts(t *testing.T) {
	lines := []string{"1,$d a 5", "'xk b", "/a\\/b/+3m?c?", "s/a/b/gi", "g!#x#d", "set ic", "w! name", "pu :", "%>>", "&n", "", "v/a/", "t0", "e x", "j!2"}
	for _, line := range lines {
		src := spell(line)
		for _, atom := range odd {
			for i := range len(src) + 1 {
				parses(t, slices.Insert(slices.Clone(src), i, atom))
				if i < len(src) {
					other := slices.Clone(src)
					other[i] = atom
					parses(t, other)
				}
			}
		}
	}
	for _, atom := range odd {
		if x, _, err := ex.Parse([]int{39, atom}); err != api.OK || x.Addrs[0].N != atom {
			t.Errorf("the mark %d: %+v, %d", atom, x, err)
		}
		want := api.OK
		if atom == 0 {
			want = api.ErrTail
		}
		if x, _, err := ex.Parse([]int{'k', ' ', atom}); err != want || x.Reg != atom {
			t.Errorf("k with %d: %+v, %d", atom, x, err)
		}
	}
}

// TestParseLong, P1501: MaxLine atoms are good, one more is not, whatever they are.
func TestParseLong(t *testing.T) {
	for _, fill := range []string{" ", "1", "+", ">", "/", "+9", "\\a", "d", ",", "a"} {
		for _, head := range []string{"", "1", "/", "s/", "w ", "set ", "g/a/", "k a", "?x?", "d "} {
			for _, n := range []int{1022, 1023, 1024, 1025, 1026, 5000} {
				src := spell(head + strings.Repeat(fill, n))[:n]
				_, ok := parses(t, src)
				if n > 1024 && ok {
					t.Fatalf("%d atoms", n)
				}
			}
		}
	}
	if x, _, err := ex.Parse(spell(strings.Repeat("+999999999", 102))); err != api.OK || x.Addrs[0].Off != 999999999 {
		t.Errorf("%+v, %d", x, err)
	}
	if x, _, err := ex.Parse(spell(strings.Repeat(">", 1024))); err != api.OK || x.Count != 1024 {
		t.Errorf("%+v, %d", x, err)
	}
	if x, _, err := ex.Parse(spell(strings.Repeat("9", 1024))); err != api.OK || x.Addrs[0].N != 999999999 {
		t.Errorf("%+v, %d", x, err)
	}
}

// TestParseRandom, P1501 to P1504: lines of parts that fit together now and then.
func TestParseRandom(t *testing.T) {
	random := rand.New(rand.NewSource(15))
	good := 0
	for range 100000 {
		if _, ok := parses(t, randomLine(random)); ok {
			good++
		}
	}
	if good < 10000 {
		t.Errorf("only %d lines were good", good)
	}
}

// randomLine is a line that may be good.
func randomLine(random *rand.Rand) []int {
	pick := func(list ...string) string { return list[random.Intn(len(list))] }
	address := func() string {
		return pick("", "", "1", "2", "3", ".", "$", "'a", "'b", "'", "/a/", "?b?", "//", "/\\//", "/a\\", "0", "007", "'<") + pick("", "", "", "+", "-", "+2", "-1+3", "++", "+99999999999")
	}
	line := pick("", "", "", " ")
	switch random.Intn(4) {
	case 0:
		line += address()
	case 1:
		line += address() + pick(",", ",", " , ") + address()
	case 2:
		line += pick("", "%", ",", "1,2,3")
	}
	line += pick("", "", " ")
	sign := pick("/", "/", "#", ",", ";", ":", "!", "@", "=")
	switch random.Intn(6) {
	case 0:
		line += pick("d", "y", "delete", "yank", "pu", "put!", "j", "join!", "j!") + pick("", "", " ") + pick("", "a", "Z", "\"", "_", "-", "5", "/") + pick("", " ", " 3", "2", " 0")
	case 1:
		line += pick("m", "t", "co", "copy", "move") + pick("", " ") + address()
	case 2:
		line += pick("s", "substitute", "s!") + sign + pick("a", "", "\\"+sign, "\\x", "^") + sign + pick("", "b", "\\"+sign, "&") + pick("", sign) + pick("", "g", "gi", "n", "gg")
	case 3:
		line += pick("g", "g!", "v", "global", "vglobal") + sign + pick("a", "", "\\"+sign) + pick("", sign+pick("d", " s/a/b/", "", "g/x/d", "m0"))
	case 4:
		line += pick("k", "mark", "ka", "u", "red", "set", "se", "w", "w!", "e", "wq", "x!", "q", "q!", "r", "f", "&", "&g", ">", "<<", ">>>") + pick("", "", " a", " b c", " ic ws", "!", " 1")
	}
	return append(spell(line), spell(pick("", "", "", " ", "x", "\t"))...)
}

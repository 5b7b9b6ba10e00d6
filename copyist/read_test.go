package copyist_test

import (
	"slices"
	"strconv"
	"strings"
	"testing"

	"copyist/api"
)

// TestRead, P1905: a file is brought as whole lines behind each line.
func TestRead(t *testing.T) {
	for _, c := range []struct {
		text, line, data, want string
		at                     int
	}{
		{"1\n2\n", "r f", "x\ny\n", "1\nx\ny\n2\n", 2},
		{"1\n2\n", "0r f", "x\ny\n", "x\ny\n1\n2\n", 0},
		{"1\n2\n", "1r f", "x", "1\nx\n2\n", 2},
		{"1\n2\n", "2r f", "x", "1\n2\nx\n", 4},
		{"1\n2\n", "$r f", " x", "1\n2\n x\n", 5},
		{"1\n2", "$r f", "x\n", "1\n2\nx", 4},
		{"1\n2", "$r f", "\n", "1\n2\n", 2},
		{"1\n2", "1,2r f", "x", "1\n2\nx", 4},
		{"1\r\n2", "$r f", "x\ny", "1\r\n2\r\nx\ny", 6},
		{"1\r2", "1r f", "\nx", "1\r\nx\r2", 0}, // 13 and 10 are one break from then on, and the text begins within it
		{"", "r f", "x\n", "\nx", 1},
		{"", "0r f", "x\n", "x\n", 0},
		{"", "r f", "x", "\nx", 1},
		{"1\n2\n", "/2/r f", "x\n", "1\n2\nx\n", 4},
		{"1\n2\n", "r f", "\u0301\n", "1\n\u0301\n2\n", 2},
	} {
		x := begin(t, usual("a", "a", c.text, "f", c.data)).faults().does(":"+c.line+"⏎").steps(2).sees(c.want, c.at).dirty(true).named("a", api.UTF8, 0)
		x.files("a", c.text, "f", c.data).does("u").sees(c.text, 0).dirty(false).ends()
	}
	// an empty file: nothing
	x := begin(t, usual("a", "a", "abc", "f", "", "g", mark8)).does(":r f⏎:0r g⏎").sees("abc", 0).dirty(false).answers("u", api.ErrOldest)
	x.does(":read f⏎").ends()
	// the text's own
	x = begin(t, usual("a", "a", "abc\n")).does("x:r⏎").sees("bc\nabc\n", 3).poke("a", "theirs").does(":r a⏎").sees("bc\nabc\ntheirs\n", 7)
	x.refuses("w", api.ErrChanged).ends()
	// of a new file that has been written since
	begin(t, usual("n")).refuses("r", api.ErrMissing).does("ix␛:w⏎:r⏎").sees("x\nx", 2).ends()
}

// TestReadEncodings, P1905: the bytes are read in the text's encoding, behind its mark.
func TestReadEncodings(t *testing.T) {
	for _, c := range []struct {
		enc  int
		data string
		want []int // behind the first line
	}{
		{api.UTF8, "é", []int{0xE9}},
		{api.UTF8, mark8 + "é", []int{0xE9}},
		{api.UTF8, mark8 + mark8, []int{0xFEFF}},
		{api.UTF8, "\xE9", []int{-234}},
		{api.UTF8, mark16 + "a\x00", []int{-256, -255, 97, 0}},
		{api.UTF16LE, mark16 + "a\x00", []int{97}},
		{api.UTF16LE, "a\x00b", []int{97, -99}},
		{api.UTF16LE, mark61 + "\x00a", []int{0xFFFE, 0x6100}},
		{api.UTF16LE, mark8, []int{0xBBEF, -192}},
		{api.UTF16LE, "\x00\xD8", []int{0xD800}},
		{api.UTF16BE, mark61 + "\x00a\n", []int{97, -11}},
		{api.UTF16BE, "\xD8\x00\xDC\x00", []int{0x10000}},
		{api.Latin1, mark8, []int{0xEF, 0xBB, 0xBF}},
		{api.Latin1, "\xE9\x80", []int{0xE9, 0x80}},
	} {
		x := begin(t, in(c.enc, usual("", "f", c.data))).does(":0r f⏎").dirty(true)
		if got := x.see().Sight.Text; show(got) != show(append(c.want, 10)) || len(got) != len(c.want)+1 {
			t.Errorf("encoding %d, %q: %v, want %v", c.enc, c.data, got, c.want)
		}
		for _, tag := range x.see().Sight.Tags {
			if tag != -1 {
				t.Errorf("encoding %d, %q: the tag %d", c.enc, c.data, tag)
			}
		}
		x.does(":w n⏎").ends()
	}
	// the text's encoding, not the setup's
	x := begin(t, usual("a", "a", mark16+"a\x00", "f", "b")).does(":r f⏎")
	if got := x.see().Sight.Text; len(got) != 3 || got[2] != -99 {
		t.Errorf("%v", got)
	}
	x.does(":w⏎").file("a", mark16+"a\x00\n\x00b").ends()
	x = begin(t, usual("a", "a", mark16+"a\x00", "f", mark8+"b", "g", mark61+"\x00b")).does(":0r f⏎:0r g⏎")
	if got := x.see().Sight.Text; !slices.Equal(got, []int{0xFFFE, 0x6200, 10, 0xBBEF, 0x62BF, 10, 97}) {
		t.Errorf("%v", got)
	}
	x.ends()
}

// TestReadErrors, P1905: each error, in its order.
func TestReadErrors(t *testing.T) {
	x := begin(t, usual("", "a", "abc")).refuses("r", api.ErrNoName).refuses("0r", api.ErrNoName)
	for _, name := range badNames {
		x.refuses("r "+name, api.ErrName)
	}
	x.steps(0).refuses("r n", api.ErrMissing).steps(1).sees("", 0).ends()
	// a file may be longer than the text's limit, up to MaxBytes; what it brings must have room
	s := usual("a", "a", "abc\n", "f", "1234567", "g", "1234567\n", "h", "123456", "long", letters(65537), "full", letters(65536))
	s.Limit, s.Space = 12, 200000
	x = begin(t, s).refuses("r g1", api.ErrMissing).refuses("r long", api.ErrFull).refuses("r full", api.ErrFull).does(":r f⏎").sees("abc\n1234567\n", 4)
	x.does("u").sees("abc\n", 0).does(":r g⏎u:r h⏎").refuses("r h", api.ErrFull).refuses("0r h", api.ErrFull).sees("abc\n123456\n", 4).ends()
	s.Limit = 65536
	s.Name = ""
	begin(t, s).does(":0r h⏎u").refuses("0r full", api.ErrFull).refuses("r long", api.ErrFull).sees("", 0).ends() // a break comes behind it
	// of a file that is longer than the limit the last break is left out, and a shorter one comes ahead of it
	s = usual("", "f", "abc\r\n")
	s.Limit = 4
	begin(t, s).refuses("0r f", api.ErrFull).refuses("e f", api.ErrFull).does(":r f⏎").sees("\nabc", 1).ends()
	// what the disk refuses
	for step := 1; step <= 2; step++ {
		for _, kind := range kindsOfFaults {
			want := api.ErrIO
			if kind >= api.FaultAhead {
				want = api.ErrDown
			}
			begin(t, usual("a", "a", "abc", "f", "x")).does("yy").faults(fault(step, kind)).refuses("r f", want).refuses("0r x/y", api.ErrName).ends()
		}
	}
	begin(t, usual("a", "a", "abc")).faults(fault(1, api.FaultLie)).refuses("r f", api.ErrMissing).ends()
	// lines that are not there are refused ahead of all that
	begin(t, usual("a", "a", "abc")).faults().answers(":2r x/y⏎", api.ErrLine).answers(":zr⏎", api.ErrCommand).steps(0).ends()
}

// TestSearchesStay, P1905: what the line had done ahead of an error stays.
func TestSearchesStay(t *testing.T) {
	x := begin(t, usual("a", "a", "abc\nfoo\nbar\nfoo\n")).does("/c⏎").answers(":/foo/r none⏎", api.ErrMissing)
	x.holds('/', api.ByChars, "foo").holds(':', api.ByChars, "/foo/r none").does("n").sees("abc\nfoo\nbar\nfoo\n", 4).does("n").sees("abc\nfoo\nbar\nfoo\n", 12).ends()
	// a line that is refused ahead of its wish leaves them as they were
	x = begin(t, usual("a", "a", "abc\nfoo\n")).does("/c⏎").answers(":/zz/r none⏎", api.ErrMatch).holds('/', api.ByChars, "c").holds(':', api.ByChars, "/zz/r none")
	x.ends()
}

// TestWindowFollows, P1905: behind a read the cursor's line is seen, and the goal column is its own.
func TestWindowFollows(t *testing.T) {
	lots := ""
	for i := range 40 {
		lots += "line " + strconv.Itoa(i) + "\n"
	}
	s := usual("a", "a", lots, "f", "  x\nyyyyy\n")
	s.Height = 5
	x := begin(t, s).does("$:30r f⏎")
	if got := x.see().Sight; got.At != strings.Index(lots, "line 30")+2 || got.Top != 26 || got.Cell != 2 {
		t.Errorf("%+v", got)
	}
	x.does("j")
	if got := x.see().Sight; got.At != strings.Index(lots, "line 30")+4+2 {
		t.Errorf("%+v", got)
	}
	x.ends()
}

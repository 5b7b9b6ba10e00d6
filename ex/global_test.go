package ex_test

import (
	"strings"
	"testing"

	"copyist/api"
	"copyist/operate"
)

// TestGlobals, P1515: each command that may stand in a global one.
func TestGlobals(t *testing.T) {
	for _, c := range []struct {
		text, line, want string
		at               int
	}{
		{"a\nb\na\n", "g/a/", "a\nb\na\n", 4}, {"a\nb\na\n", "g/a", "a\nb\na\n", 4}, {"a\nb\n  a\n", "g/a/.", "a\nb\n  a\n", 6}, {"a\nb\na\n", "v/a/", "a\nb\na\n", 2}, {"a\nb\na\n", "g/a/1", "a\nb\na\n", 0}, {"a\nb\na\n", "2,$g/a/d", "a\nb\n", 2}, {"a\nb\na\n", "1,2g/a/d", "b\na\n", 0}, {"a\nb\na\n", "g!/a/d", "a\na\n", 2},
		{"a\nb\na\n", "g/a/d", "b\n", 0}, {"a\nb\na", "g/a/d", "b", 0}, {"a\nb\nc\n", "g/^/y A", "a\nb\nc\n", 4}, {"a\nb\nc\n", "g/^/d A", "", 0}, {"a\nb\n", "g/^/pu c", "a\nx\nb\nx\n", 6}, {"a\nb\n", "g/^/pu! c", "x\na\nx\nb\n", 4}, {"a\nb", "g/^/pu c", "a\nx\nb\nx", 6}, {"a\nb\nc\n", "g/^/m0", "c\nb\na\n", 0}, {"a\nb\nc", "g/^/m0", "c\nb\na", 0}, {"a\nb\nc\n", "g/^/m$", "a\nb\nc\n", 4}, {"a\nb\nc\n", "g/b/m.", "a\nb\nc\n", 2},
		{"a\nb\nc\n", "g/^/t.", "a\na\nb\nb\nc\nc\n", 10}, {"a\nb\nc\n", "g/^/t0", "c\nb\na\na\nb\nc\n", 0}, {"a\nb\nc\nd\n", "g/^/j", "a b\nc d\n", 5}, {"a\nb\nc\n", "g/^/j!", "ab\nc\n", 3}, {"a\nb\nc\n", "g/c/j", "a\nb\nc\n", 4}, {"a\nb\n", "g/^/>", "\ta\n\tb\n", 4}, {"\ta\n    b\n", "g/^/<", "a\nb\n", 2}, {"a\nb\n", "g/^/s/$/!/", "a!\nb!\n", 3}, {"a\nb\n", "g/^/s/b/!/", "a\n!\n", 2}, {"b\na\n", "g/^/s/b/!/", "!\na\n", 2}, {"ab\nb\n", "g/b/&", "xb\nb\n", 3}, {"a\nb\nc\n", "g/[ac]/k a", "a\nb\nc\n", 4},
		// lines that are gone, moved or joined meanwhile
		{"a\nb\nc\nd\n", "1,3g/^/+1m0", "d\nb\na\nc\n", 0}, {"a\nb\nc\n", "1g/^/.,$j", "a b c\n", 3}, {"a\nb\nc\n", "g/^/%j", "a b c\n", 3}, {" \n \n \n", "g/^/%j!", "   \n", 2}, {"a\nb\nc\n", "2,$g/^/-1,.j!", "abc\n", 2}, {"a\n  b\nc\n", "2,$g/^/-1,.j", "a b c\n", 3}, {"x\n\n\n", "g/^$/-1,.j!", "x\n", 0},
		{"a\nb\nc\nd\n", "g/^/$d", "a\nb\n", 2}, {"a\nb\nc\n", "g/^/1d", "", 0}, {"a\nb\nc\n", "g/^/s/.*/\\r&/", "\na\n\nb\n\nc\n", 6}, {"a\nb\n", "g/^/s/a/\\r/", "\n\nb\n", 2}, {"a\rb\nc\n", "g/b/s///", "a\r\nc\n", 0}, {"a\rb\n\nc\n", "g/b/d", "a\r\nc\n", 0},
	} {
		x := twin(t, c.text, 0)
		x.both(func(d *operate.Desk) {
			d.Bank.Yank('c', api.Reg{Text: spell("x")})
			d.Sub = api.Sub{Pat: spell("a"), Rep: spell("x")}
		})
		if err := x.does(spell(c.line)); err != api.OK {
			t.Fatalf("%q on %q: %d", c.line, c.text, err)
		}
		sees(t, x.d, c.want, c.at)
		if n := len(x.d.Book.Watched()); n != 0 {
			t.Errorf("%q: %d are watched", c.line, n)
		}
		if undo, _ := x.d.Book.Depth(); undo > 1 {
			t.Errorf("%q: %d groups", c.line, undo)
		}
		x.samePast()
	}
}

// TestGlobalsRefused, P1507, P1515: an error behind what was done already gives all of it back.
func TestGlobalsRefused(t *testing.T) {
	for _, c := range []struct {
		line string
		err  api.Errno
	}{
		{"g/^/.+1d", api.ErrLine}, {"1,3g/^/.,+1d", api.ErrLine}, {"g/^/-1d", api.ErrLine}, {"2,$g/^/.,+1>", api.ErrLine}, {"g/^/d A|", api.ErrTail}, {"g/^/pu z", api.ErrEmpty}, {"g/^/m'z", api.ErrMark}, {"2,$g/^/k Z", api.ErrMark}, {"g/^/s/[bc]/\\x41/", api.ErrFit}, {"g/^/s/c/\\q/", api.ErrFill}, {"g/^/s/[/x/", api.ErrPattern}, {"g/^/1,$-1m1", api.ErrInto}, {"g/^/&", api.ErrFill}, {"g/^/?a?,+9y A", api.ErrLine}, {"g/^/+2t0", api.ErrLine}, {"g/b/3,1>", api.ErrLine}, {"g/^/?q?d", api.ErrMatch}, {"g/^/t/q/", api.ErrMatch}, {"g/^/?q?j", api.ErrMatch}, {"g/^/k a", api.OK}, {"g/^/?q?s/a/b/", api.OK}, {"g/^/?q?&", api.OK}, {"g/^/0,.s/a/b/", api.ErrLine},
	} {
		d := busy(t)
		d.Sub = api.Sub{Pat: spell("c"), Rep: spell("\\q"), Flags: 3}
		run(t, d, c.line, c.err)
	}
	// registers, marks, the cursor and the settings come back too
	d := busy(t)
	was := look(d)
	run(t, d, "g/^/y A", api.OK)
	if r, _ := d.Bank.Get('a'); len(r.Text) != 6 {
		t.Errorf("%v", r)
	}
	d = busy(t)
	for _, line := range []string{"g/^/.,+1d A", "g/^/.,+1d", "g/^/.,+1y A", "g/^/.,+1y", "g/^/.,+1>", "g/^/.,+1s/$/x/"} {
		run(t, d, line, api.ErrLine)
	}
	if !look(d).equal(was) {
		t.Errorf("%+v; it was %+v", look(d), was)
	}
}

// TestNested, P1515: commands that may not stand in a global one, whatever it finds.
func TestNested(t *testing.T) {
	for _, name := range []string{"g/a/d", "g!/a/d", "v/a/d", "global/a/d", "vglobal/a/d", "u", "undo", "red", "redo", "set", "se ic", "w", "w! x", "e", "edit", "q", "q!", "wq", "x", "exit", "r", "r x", "0r", "f", "file y"} {
		run(t, busy(t), "g/a/"+name, api.ErrNested)
		run(t, busy(t), "v/a/"+name, api.ErrNested)
		run(t, busy(t), "g/q/ "+name, api.ErrNested)
	}
	for _, name := range []string{"", "1", "d", "delete", "y", "pu q", "put! q", "m0", "move $", "t0", "co.", "copy.", "j!", "join", ">", "<<", "s/a/b/", "&", "k a", "mark b"} {
		d := busy(t)
		run(t, d, "1g/a/"+name, api.OK)
		if len(d.Book.Watched()) != 0 || d.Book.IsOpen() {
			t.Errorf("%q: something is left over", name)
		}
	}
}

// TestPassedOver, P1515: a line that has become a part of another one is done only where nothing but blanks stands ahead of it.
func TestPassedOver(t *testing.T) {
	for _, c := range []struct{ text, line, want string }{
		{"\n\nb\n", "g/^/j!", "b\n"},                         // the second is where the first was: it is done
		{" \n\t\n b\nc\n", "g/^/j!", " \t bc\n"},             // blanks alone are ahead
		{"x\n\n b\nc\n", "g/^/j!", "x\n bc\n"},               // the second is passed over
		{"\u00a0\nb\nc\n", "g/^/j!", "\u00a0bc\n"},           // other blanks are blanks too
		{"\u3000\nb\nc\n", "g/^/j!", "\u3000bc\n"},           // wide ones
		{"-\nb\nc\nd\n", "g/^/j!", "-b\ncd\n"},               // a sign is none
		{"a\n\nb\n\nc\n", "g/./j!", "a\nb\nc\n"},             // each takes the empty line below it
		{"e\n\u0301\nc\n", "g/^/j!", "e\u0301\nc\n"},         // an accent is none
		{"a\nb\nc\n", "g/^/s/$/\\r/", "a\n\nb\n\nc\n\n"},     // lines that came meanwhile are not asked for
		{"ab\nab\n", "g/a/s/a/a\\ra/", "a\nab\na\nab\n"},     // neither is one that would be found now
		{"a\nb\nc\n", "g/a\\|c/1,2m$", "b\nc\na\n"},          // gone, and put elsewhere: new
		{"a\nb\nc\nd\n", "g/b\\|c/1,2m$", "a\nb\nc\nd\n"},    // the third has moved up, and is asked there
		{"a\nb\nc\n", "2,3g/^/1t.", "a\nb\na\nc\na\n"},       // text that is put ahead of one moves it on
		{"a\nb\nc\n", "g/^/$t0", "c\nc\nc\na\nb\nc\n"},       // far above
		{"a\r\nb\r\n", "g/^/s/$/\\r/", "a\r\n\r\nb\r\n\r\n"}, // breaks as the text has them
	} {
		x := twin(t, c.text, 0)
		x.does(spell(c.line))
		if got := show(look(x.d).Atoms); got != c.want {
			t.Errorf("%q on %q: %q; want %q", c.line, c.text, got, c.want)
		}
	}
}

// TestManyWait, P1515: as many lines as would be asked one by one, with changes ahead of them, behind them and over them.
func TestManyWait(t *testing.T) {
	var b strings.Builder
	for i := range 120 {
		b.WriteString([]string{"a", "b", "", " ", "c a"}[i*i%5] + []string{"\n", "\n", "\r\n", "\r"}[i%4])
	}
	for _, line := range []string{"g/^/m0", "g/^/m$", "v/a/m/b/", "g/a/m?b?-", "g/^/t$", "g/a/$t0", "g/^/j", "g/^/j!", "g/ /1,3j!", "g/^$/.,+2d", "1,60g/^/.,+9>", "1,60g/^/.,+30<", "1,60g/a/$-5,$d", "g/^/s/a/\\r&\\r/g", "g/a/1,.s/$/ /", "1,50g/./+20,+40j", "g/b/?a?d", "g/^/1m/b/", "3,$g/^/-1,.j!", "2,90g/^/-1,+3m0", "1,40g/^/.+1,.+2m.-1", "g/^/$-3,$m0"} {
		x := twin(t, b.String(), 0)
		x.does(spell(line))
		x.samePast()
	}
}

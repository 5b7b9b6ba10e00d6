package ex_test

import (
	"slices"
	"testing"

	"copyist/api"
	"copyist/operate"
)

// TestSubstitutes, P1514: flags, patterns, replacements, where the cursor goes.
func TestSubstitutes(t *testing.T) {
	for _, c := range []struct {
		text, line, want string
		at               int
	}{
		{"abab\nab\n", "s/b/x/", "axab\nab\n", 0}, {"abab\nab\n", "s/b/x/g", "axax\nab\n", 0}, {"abab\nab\n", "%s/b/x/g", "axax\nax\n", 5}, {"abab\nab\n", "2s/b", "abab\na\n", 5}, {"abab\nab\n", "%s/a//g", "bb\nb\n", 3}, {"aBab\n", "s/b/x/i", "axab\n", 0}, {"aBab\n", "s/b/x/ig", "axax\n", 0}, {"aBab\n", "s/b/x/n", "aBab\n", 0}, {"aBab\n", "s/b/x/gin", "aBab\n", 0},
		{"abc\n", "s/\\(a\\)\\(b\\)/\\2\\1\\0&/", "baababc\n", 0}, {"abc\n", "s/b/\\r/", "a\nc\n", 0}, {"abc\n", "s/b/\\n\\n/", "a\n\nc\n", 0}, {"abc\n", "s/b/x\\ry\\rz/", "ax\ny\nzc\n", 0}, {"abc\n", "s/c/\\u&\\t/", "abC\t\n", 0}, {"abc", "s/$/!/", "abc!", 0}, {"", "s/^/x/", "x", 0}, {"", "%s/x*/ab/g", "ab", 0}, {"a\n\nb", "%s/^/-/", "-a\n-\n-b", 5},
		{"axxb", "s/x*/-/g", "-a-b-", 0}, {"  a\n  b\n", "%s/ *//", "a\nb\n", 2}, {"a\n b\n", "%s/[ab]/x/", "x\n x\n", 3}, {"a\nb\nc\n", "1,2s/./\\r&/", "\na\n\nb\nc\n", 3}, {"a\r\nb\n", "%s/$/;/", "a;\r\nb;\n", 4}, {"ab\n", "s/a/\r/", "\rb\n", 0}, {"ab\n", "s/b/\n/", "a\n\n", 0}, {"a\rb\nc", "2s/b//", "a\r\nc", 0}, {"e\u0301a\n", "s/\u0301/x/", "exa\n", 0},
	} {
		d := desk(t, c.text, 0)
		run(t, d, c.line, api.OK)
		sees(t, d, c.want, c.at)
		twin(t, c.text, 0).does(spell(c.line))
	}
	for _, native := range natives { // line ends are the native break's atoms, just so
		for text, ends := range map[string][]string{"abc": {"a\nc", "a\r\nc", "a\rc"}, "a\rb\n": {"a\r\n\n", "a\r\r\n\n", "a\r\r\n"}} {
			d := desk(t, text, 0)
			d.Set.Native = native
			run(t, d, "%s/b/\\n/", api.OK)
			if got := show(look(d).Atoms); got != ends[native-1] {
				t.Errorf("%q, native %d: %q", text, native, got)
			}
		}
	}
	d := desk(t, "abc\nabd\n", 2)
	run(t, d, "%s/b/xx/", api.OK)
	if got := look(d).Tags; !slices.Equal(got, []int{0, -1, -1, 2, 3, 4, -1, -1, 6, 7}) {
		t.Errorf("tags: %v", got)
	}
}

// TestLastSubstitution, P1514: Sub is the pattern that was used, Rep and Flags; also where nothing but a count was asked for, not where it was refused.
func TestLastSubstitution(t *testing.T) {
	d := desk(t, "ab\nab\n", 1)
	is := func(pat, rep string, flags int) {
		t.Helper()
		if !sameSub(d.Sub, api.Sub{Pat: spell(pat), Rep: spell(rep), Flags: flags}) {
			t.Fatalf("Sub: %q %q %d", show(d.Sub.Pat), show(d.Sub.Rep), d.Sub.Flags)
		}
	}
	run(t, d, "s/b/c/gn", api.OK)
	is("b", "c", 5)
	sees(t, d, "ab\nab\n", 1)
	d.At = 2 // within the break: it stays, but on a cluster
	run(t, d, "s/b/c/n", api.OK)
	sees(t, d, "ab\nab\n", 1)
	run(t, d, "&i", api.OK)
	is("b", "c", 2)
	sees(t, d, "ac\nab\n", 0)
	run(t, d, "/a/s//x/", api.OK)
	is("a", "x", 0)
	sees(t, d, "ac\nxb\n", 3)
	run(t, d, "s/q/y/", api.ErrMatch)
	run(t, d, "s/x/\\q/", api.ErrFill)
	is("a", "x", 0)
	d.Find = spell("c")
	run(t, d, "%&", api.OK)
	is("a", "x", 0)
	sees(t, d, "xc\nxb\n", 0)
	if show(d.Find) != "a" {
		t.Errorf("Find: %q", show(d.Find))
	}
	run(t, d, "%&", api.ErrMatch)
	run(t, d, "%s//c/", api.ErrMatch)
	d.Find = spell("x")
	run(t, d, "1s//c/", api.OK)
	is("x", "c", 0)
	d.Sub = api.Sub{Rep: spell("z"), Flags: 1}
	run(t, d, "&", api.ErrEmpty)
	d.Sub = api.Sub{Pat: spell("B"), Rep: spell("\\q"), Flags: 99}
	run(t, d, "%&i", api.ErrFill)
	d.Sub.Rep = nil
	run(t, d, "%&", api.ErrMatch)
	run(t, d, "%&i", api.OK)
	is("B", "", 2)
	sees(t, d, "cc\nx\n", 3)
	run(t, desk(t, "aB\n", 0), "&", api.ErrEmpty)
}

// TestIgnoreCase, P1514, P1515: the setting and the flag.
func TestIgnoreCase(t *testing.T) {
	for _, c := range []struct {
		line string
		set  bool
		err  api.Errno
	}{
		{"s/B/x/", false, api.ErrMatch}, {"s/B/x/i", false, api.OK}, {"s/B/x/", true, api.OK}, {"s/B/x/i", true, api.OK}, {"g/B/d", false, api.ErrMatch}, {"g/B/d", true, api.OK}, {"v/B/d", true, api.ErrMatch}, {"v/B/d", false, api.OK}, {"/B/d", false, api.ErrMatch}, {"/B/d", true, api.OK},
	} {
		x := twin(t, "ab\n", 0)
		x.both(func(d *operate.Desk) { d.Set.IgnoreCase = c.set })
		if err := x.does(spell(c.line)); err != c.err {
			t.Errorf("%q, %v: %d; want %d", c.line, c.set, err, c.err)
		}
	}
	for line, want := range map[string]string{"g/b/s/b/x/ig": "axx\naB\n", "g/b/s//x/ig": "axx\naB\n", "g/b/s/b/x/g": "axB\naB\n", "/b/s/b/x/ig": "axx\naB\n", "g/a/s/b/x/ig": "axx\nax\n"} { // one pattern, read in both ways
		d := desk(t, "abB\naB\n", 3)
		run(t, d, line, api.OK)
		if got := show(look(d).Atoms); got != want {
			t.Errorf("%q: %q; want %q", line, got, want)
		}
	}
}

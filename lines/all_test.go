package lines_test

import (
	"iter"
	"slices"
	"testing"

	"copyist/api"
	"copyist/lines"
	"copyist/piece"
)

func gather(all iter.Seq2[int, api.Line]) []api.Line {
	var out []api.Line
	for _, l := range all {
		out = append(out, l)
	}
	return out
}

func TestAllAgainAndLeftEarly(t *testing.T) {
	x := load(t, api.UTF8, letters("arnbrncnd"))
	want, _ := plain(letters("arnbrncnd"))
	all := lines.All(x)
	for leave := range len(want) + 2 {
		n := 0
		for i, l := range all {
			if i != n || l != want[n] {
				t.Errorf("left at %d: %d, %v, want %d, %v", leave, i, l, n, want[n])
			}
			if n == leave {
				break
			}
			n++
		}
		if got := gather(all); !slices.Equal(got, want) {
			t.Errorf("behind one left at %d: %v", leave, got)
		}
	}
	for stop := range len(want) {
		calls := 0
		all(func(int, api.Line) bool { calls++; return calls <= stop })
		if calls != stop+1 {
			t.Errorf("told to stop at the call %d it made %d calls", stop+1, calls)
		}
	}
}

func TestAllWithinItself(t *testing.T) {
	atoms := slices.Repeat(letters("arnbrcnn"), 300)
	x := load(t, api.UTF16LE, atoms)
	want, _ := plain(atoms)
	all := lines.All(x)
	n := 0
	for i, l := range all {
		if i != n || l != want[n] {
			t.Fatalf("the outer one: %d, %v, want %d, %v", i, l, n, want[n])
		}
		if n%100 == 0 && !slices.Equal(gather(all), want) {
			t.Fatalf("the inner one, at the line %d", n)
		}
		for k, inner := range all {
			if inner != want[k] {
				t.Fatalf("the inner one: %v, want %v", inner, want[k])
			}
			if k == 3 {
				break
			}
		}
		n++
	}
	if n != len(want) {
		t.Errorf("the outer one told %d lines, want %d", n, len(want))
	}
	next, stop := iter.Pull2(all)
	defer stop()
	for k, w := range want {
		if i, l, ok := next(); !ok || i != k || l != w {
			t.Fatalf("pulled: %d, %v, %v", i, l, ok)
		}
	}
	if _, _, ok := next(); ok {
		t.Error("pulled beyond the last line")
	}
}

// What All answered long ago tells the lines of now.
func TestAllBehindChanges(t *testing.T) {
	for _, enc := range encodings {
		x := load(t, enc, letters("arnb"))
		all := lines.All(x)
		first := x.Snap()
		for i, edit := range []api.Edit{put(2, 2, 'z'), put(2, 3), put(0, 4), put(0, 0, 10, 10), put(1, 2), put(1, 1, 'a', 13), put(3, 3, 10)} {
			change(t, x, edit)
			want, _ := plain(x.Atoms(0, x.Len()))
			if got := gather(all); !slices.Equal(got, want) {
				t.Errorf("encoding %d, change %d: %v, want %v", enc, i, got, want)
			}
		}
		x.Back(first)
		if got := gather(all); !slices.Equal(got, []api.Line{line(0, 1, 3, 2), line(3, 4, 4, 0)}) {
			t.Errorf("encoding %d, taken back: %v", enc, got)
		}
	}
}

// small opens a text that is soon full.
func small(t *testing.T, atoms []int) *piece.Text {
	t.Helper()
	x, e := piece.Open(api.Latin1, nil, 2*len(atoms))
	if e != api.OK {
		t.Fatalf("Open: %d", e)
	}
	change(t, x, put(0, 0, atoms...))
	return x
}

// Whatever is done to the text while its lines are told: what is told ahead of it is right, it ends, and the next one tells the lines of then.
func TestAllWhileTheTextIsChanged(t *testing.T) {
	atoms := slices.Repeat(letters("arnbrcnn"), 200)
	want, _ := plain(atoms)
	for i, edit := range []func(n int) api.Edit{
		func(n int) api.Edit { return put(0, n) },                             // all is gone
		func(n int) api.Edit { return put(min(n, 1), n, 13) },                 // nearly all
		func(n int) api.Edit { return put(0, 0, 10, 10, 10) },                 // more lines at the beginning
		func(n int) api.Edit { return put(n, n, 10, 13, 10, 'a') },            // more at the end
		func(n int) api.Edit { return put(n/2, n/2, 13, 13, 10, 10, 10, 10) }, // and in the midst
		func(n int) api.Edit { return put(n/3, n, 'a') },
		func(n int) api.Edit { return put(0, min(n, 7)) },
	} {
		for _, begin := range []int{0, 1, 2, 90, 500} {
			x := small(t, atoms)
			n := 0
			for number, l := range lines.All(x) {
				if n <= begin && (number != n || l != want[n]) {
					t.Fatalf("case %d: %d, %v ahead of the change, want %d, %v", i, number, l, n, want[n])
				}
				if n >= begin {
					x.Change([]api.Edit{edit(x.Len())}) // refused, where the text is full
				}
				if n++; n > 1000000 {
					t.Fatalf("case %d: more than a million lines", i)
				}
			}
			now, _ := plain(x.Atoms(0, x.Len()))
			if got := told(t, x); n <= begin || !slices.Equal(got, now) {
				t.Fatalf("case %d: %d lines told; behind it %d lines, want %d", i, n, len(got), len(now))
			}
		}
	}
}

// A text that is emptied and filled again and again is no way to go on for ever.
func TestAllOfATextThatComesAndGoes(t *testing.T) {
	x := load(t, api.UTF8, slices.Repeat([]int{10}, 65536))
	full := x.Snap()
	n := 0
	for range lines.All(x) {
		if n++; n > 1000000 {
			t.Fatal("more than a million lines")
		}
		if n%2 == 0 {
			change(t, x, put(0, x.Len()))
		} else {
			x.Back(full)
		}
	}
}

package save_test

import (
	"fmt"
	"math/rand"
	"slices"
	"strings"
	"testing"

	"copyist/api"
	"copyist/save"
)

// scene is a disk on which nothing waits for a sync, and what is written to the file a of it.
type scene struct {
	files []string
	mark  string
	data  string
	steps int
}

func scenes() []scene {
	long := letters(1500)
	return []scene{
		{[]string{"a", "old"}, "", "new", 7},
		{[]string{"A", "ahead", "a", mark8 + "old", "b", "beside"}, mark8, "new", 7},
		{[]string{"A", "ahead", "a.b", "beside"}, "", "new", 7},
		{[]string{"a", "old", "a~", "left over"}, "", long, 10},
		{[]string{"A", "", "a", long, "b", long, "b~", "x"}, "", "", 6},
		{[]string{"a", mark16 + long, "c", ""}, mark16, long + "!", 8},
		{nil, "", "new", 7},
	}
}

// without are the files whose names do not end with ~, with other bytes of a; none, if there is to be no a.
func (s scene) without(a string, there bool) []string {
	out := []string{}
	if there {
		out = append(out, "a", a)
	}
	for i := 0; i < len(s.files); i += 2 {
		if name := s.files[i]; name != "a" && !strings.HasSuffix(name, "~") {
			out = append(out, name, s.files[i+1])
		}
	}
	return sorted(out)
}

func sorted(files []string) []string {
	var rows [][2]string
	for i := 0; i < len(files); i += 2 {
		rows = append(rows, [2]string{files[i], files[i+1]})
	}
	slices.SortFunc(rows, func(x, y [2]string) int { return strings.Compare(x[0], y[0]) })
	out := []string{}
	for _, r := range rows {
		out = append(out, r[0], r[1])
	}
	return out
}

// tries saves with a plan, loses the power, and looks whether the old bytes are there or the new ones.
func (s scene) tries(t *testing.T, faults []api.Fault, loss api.Cut) {
	t.Helper()
	what := fmt.Sprintf("%v, %+v, %v", short(s.files), faults, loss)
	d := newDisk(t, 20000, s.files...)
	f := open(t, d, "a")
	d.Plan(faults)
	e := f.Save(text(t, s.data), false)
	d.Crash(loss)
	d.Restart()
	is(t, what, save.Tidy(d), api.OK)
	got := seen(t, d)
	if slices.Equal(got, s.without(s.mark+s.data, true)) {
		return
	}
	old := []string{}
	for i := 0; i < len(s.files); i += 2 {
		if !strings.HasSuffix(s.files[i], "~") {
			old = append(old, s.files[i], s.files[i+1])
		}
	}
	if e == api.OK || !slices.Equal(got, sorted(old)) {
		t.Fatalf("%s: %d; %v", what, e, short(got))
	}
}

// cuts: of the acts every number, of the bytes none, some, all.
func cuts() []api.Cut {
	var all []api.Cut
	for names := range 5 {
		for _, bytes := range [][]int{nil, {1, 1, 1, 1, 1}, {0, 1030, 2, 7}, {9999, 9999, 9999, 9999, 9999}} {
			all = append(all, api.Cut{Names: names, Bytes: bytes})
		}
	}
	return all
}

// TestOldOrNew, P1708: every step with every kind of fault, and every power loss in its midst or behind it.
func TestOldOrNew(t *testing.T) {
	for _, s := range scenes() {
		for step := 0; step <= s.steps+1; step++ {
			for _, kind := range kinds {
				for _, cut := range cuts() {
					part := 0
					if kind == api.FaultPart {
						part = []int{-1, 1, 1000, 9999}[cut.Names%4]
					}
					s.tries(t, []api.Fault{{Step: step, Kind: kind, Part: part, Cut: cut}}, cut)
				}
			}
		}
	}
}

// TestOldOrNewTwice, P1708: two things that go wrong in one Save, the second of them at the Remove among others.
func TestOldOrNewTwice(t *testing.T) {
	for _, s := range scenes() {
		for step := 1; step <= s.steps; step++ {
			for _, kind := range kinds[:3] {
				for then := step + 1; then <= s.steps+2; then++ {
					for _, second := range kinds {
						for _, cut := range []api.Cut{{}, {Names: 1, Bytes: []int{3, 3}}, {Names: 2}, {Names: 9, Bytes: []int{9999, 9999, 9999}}} {
							s.tries(t, []api.Fault{{Step: step, Kind: kind, Part: 700}, {Step: then, Kind: second, Cut: cut}}, cut)
						}
					}
				}
			}
		}
	}
}

// TestOKLasts, P1708: behind a Save that answered OK every power loss leaves the new bytes.
func TestOKLasts(t *testing.T) {
	for _, s := range scenes() {
		for _, cut := range cuts() {
			d := newDisk(t, 20000, s.files...)
			f := open(t, d, "a")
			plan(d)
			is(t, "Save", f.Save(text(t, s.data), false), api.OK)
			steps(t, "Save", d, s.steps)
			d.Crash(cut)
			d.Restart()
			is(t, "Tidy", save.Tidy(d), api.OK)
			holds(t, "OK", d, s.without(s.mark+s.data, true)...)
		}
	}
}

// TestAgain, P1709: rows of Saves that fail, on a disk with just the room that is needed, and then one that does not.
func TestAgain(t *testing.T) {
	for seed := range int64(2000) {
		r := rand.New(rand.NewSource(seed))
		size := []int{0, 1, 5, 1021, 1022, 2100}[r.Intn(6)]
		files := []string{"a", mark8 + letters(size), "b", "beside"}
		for i := range 13 { // with a and b 15 names: room for one more
			files = append(files, fmt.Sprintf("f%d", i), "")
		}
		name, mark := "a", mark8
		if r.Intn(3) == 0 { // a new file: 14 names, and one that may come
			files, name, mark = files[2:], "n", ""
		}
		space := 6 + 2*(len(mark)+size)
		if name == "n" {
			files = files[:len(files)-2]
		}
		d := newDisk(t, max(space, 6+size+3), files...)
		f := open(t, d, name)
		failed := 0
		for range 1 + r.Intn(6) {
			var faults []api.Fault
			for range 1 + r.Intn(3) {
				faults = append(faults, api.Fault{Step: 1 + r.Intn(12), Kind: kinds[r.Intn(3)], Part: r.Intn(1100)})
			}
			d.Plan(faults)
			if f.Save(text(t, strings.Repeat(string(rune('a'+r.Intn(26))), size)), r.Intn(4) == 0) != api.OK {
				failed++
			}
		}
		plan(d)
		body := strings.Repeat("Z", size)
		is(t, fmt.Sprintf("behind %d that failed, seed %d", failed, seed), f.Save(text(t, body), false), api.OK)
		b, err := d.Read(name)
		if err != nil || string(b) != mark+body {
			t.Fatalf("seed %d: %v, %v", seed, short([]string{string(b)}), err)
		}
		knows(t, "at last", f, stampOf(t, d, name))
		for _, left := range d.Names() {
			if strings.HasSuffix(left, "~") {
				t.Fatalf("seed %d: %s is left", seed, left)
			}
		}
	}
}

// TestAgainEveryPair, P1709: all pairs of faults in two Saves, one behind the other.
func TestAgainEveryPair(t *testing.T) {
	for _, files := range [][]string{{"a", "old"}, nil} {
		for one := range 9 {
			for two := range 9 {
				for _, first := range kinds[:3] {
					for _, second := range kinds[:3] {
						for _, more := range []api.Fault{{}, fault(one+1, api.FaultRefuse), fault(one+1, api.FaultLie)} {
							d := newDisk(t, 99, files...)
							f := open(t, d, "a")
							plan(d, fault(one, first), more)
							f.Save(text(t, "1"), false)
							plan(d, fault(two, second))
							f.Save(text(t, "2"), false)
							plan(d)
							is(t, "again", f.Save(text(t, "3"), false), api.OK)
							holds(t, "again", d, "a", "3")
						}
					}
				}
			}
		}
	}
}

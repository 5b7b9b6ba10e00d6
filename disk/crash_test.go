package disk_test

import (
	"fmt"
	"slices"
	"strings"
	"testing"

	"copyist/api"
)

// TestCrashNames, P1611: every number of acts that is left, of acts of all kinds.
func TestCrashNames(t *testing.T) {
	begun := []call{
		put("a", "1"), put("b", "2"),
		mk("c"), rename("a", "d"), remove("b"), rename("d", "c"), mk("a"), rename("c", "b"), remove("a"),
	}
	states := [][]string{
		{"a", "1", "b", "2"},
		{"a", "1", "b", "2", "c", ""},
		{"b", "2", "c", "", "d", "1"},
		{"c", "", "d", "1"},
		{"c", "1"},
		{"a", "", "c", "1"},
		{"a", "", "b", "1"},
		{"b", "1"},
	}
	for _, names := range []int{-1 << 63, -2, -1, 0, 1, 2, 3, 4, 5, 6, 7, 8, 99, 1<<63 - 1} {
		d := newDisk(t, 9)
		does(t, d, begun...)
		does(t, d, crash(names))
		if !d.Down() {
			t.Fatal("the disk is up")
		}
		does(t, d, restart())
		if d.Down() {
			t.Fatal("the disk is down")
		}
		want := states[min(max(names, 0), 7)]
		holds(t, d, want...)
		does(t, d, crash(0), restart()) // all that is left lasts
		holds(t, d, want...)
	}
}

// TestCrashBytes, P1611: every number of bytes that is left, of each of three files, by lists that are too short or too long.
func TestCrashBytes(t *testing.T) {
	numbers := []int{-1 << 63, -1, 0, 1, 2, 3, 4, 99, 1<<63 - 1}
	lists := [][]int{nil, {}}
	for _, x := range numbers {
		lists = append(lists, []int{x})
		for _, y := range numbers {
			lists = append(lists, []int{x, y})
			for _, z := range numbers {
				lists = append(lists, []int{x, y, z}, []int{x, y, z, 9, 9})
			}
		}
	}
	names, synced, others := []string{"a", "b", "c"}, []string{"", "S", "SY"}, []string{"uvw", "uv", "uvw"}
	for _, list := range lists {
		d := newDisk(t, 99)
		want := []string{}
		for i := len(names) - 1; i >= 0; i-- {
			does(t, d, mk(names[i]), add(names[i], synced[i]), sync(names[i]), add(names[i], others[i]))
		}
		for i, name := range names {
			left := 0
			if i < len(list) {
				left = min(max(list[i], 0), len(others[i]))
			}
			want = append(want, name, synced[i]+others[i][:left])
		}
		does(t, d, syncDir(), crash(0, list...), restart())
		holds(t, d, want...)
		for i, name := range names { // numbers and counts stay
			stamped(t, d, name, 3-i, len(want[2*i+1]), 1+min(len(synced[i]), 1))
		}
		does(t, d, crash(0), restart()) // and what is left is synced
		holds(t, d, want...)
	}
}

// TestCrashOrder, P1611: bytes go by the names that are left, not by those that were seen or that lasted.
func TestCrashOrder(t *testing.T) {
	begun := []call{mk("m"), mk("z"), syncDir(), add("m", "mmm"), add("z", "zzz"), mk("a"), add("a", "aaa"), rename("z", "b"), remove("m")}
	for names, want := range [][]string{
		{"m", "m", "z", "zz"},
		{"a", "a", "m", "mm", "z", "zzz"},
		{"a", "a", "b", "zz", "m", "mmm"},
		{"a", "a", "b", "zz"},
	} {
		d := newDisk(t, 99)
		does(t, d, begun...)
		does(t, d, crash(names, 1, 2, 3), restart())
		holds(t, d, want...)
	}
}

// TestCrashTwice, P1611: of a disk that is down nothing is lost any more.
func TestCrashTwice(t *testing.T) {
	d := newDisk(t, 99, "a", "old")
	does(t, d, mk("t"), add("t", "new"), crash(1, 9, 2), crash(0), crash(9, 0, 0))
	if !d.Down() || len(d.Names()) != 0 {
		t.Fatal("the disk is not down")
	}
	does(t, d, restart())
	holds(t, d, "a", "old", "t", "ne")
	does(t, d, add("t", "w"), crash(0), restart(), crash(9, 9, 9), restart())
	holds(t, d, "a", "old", "t", "ne") // once lost, bytes do not come back
	does(t, d, add("t", "!"))
	holds(t, d, "a", "old", "t", "ne!")
	stamped(t, d, "t", 2, 3, 3)
}

// TestGone, P1611: what a crash has lost never comes back, and no number is given again.
func TestGone(t *testing.T) {
	d := newDisk(t, 99)
	does(t, d, mk("t"), mk("u"), remove("t"), crash(0, 9), restart(), crash(9, 9), restart())
	holds(t, d)
	does(t, d, mk("t"), put("v", ""))
	stamped(t, d, "t", 3, 0, 0)
	stamped(t, d, "v", 4, 0, 1)
	does(t, d, plan(fault(1, api.FaultBehind)))
	fails(t, d, mk("w"), 1, api.ErrDown)
	does(t, d, restart(), mk("w"))
	stamped(t, d, "w", 6, 0, 0) // the lost one had 5
	does(t, d, plan(fault(1, api.FaultRefuse), fault(2, api.FaultAhead)))
	fails(t, d, mk("x"), 1, api.ErrIO)
	fails(t, d, mk("x"), 2, api.ErrDown)
	does(t, d, restart(), mk("x"))
	stamped(t, d, "x", 7, 0, 0)
}

// TestFullAgain, P1611: as many names as there may be come back, with their bytes in order.
func TestFullAgain(t *testing.T) {
	d := newDisk(t, 999)
	var want []string
	var list []int
	for i := range api.MaxFiles {
		name := fmt.Sprintf("n%02d", i)
		does(t, d, mk(name))
		want, list = append(want, name, strings.Repeat("x", i)), append(list, i)
	}
	does(t, d, syncDir())
	for i := range api.MaxFiles {
		does(t, d, add(want[2*i], strings.Repeat("x", 20)))
	}
	for i := range api.MaxFiles {
		does(t, d, remove(want[2*i]))
	}
	does(t, d, mk("other"), plan(cutting(1, api.FaultBehind, 0, list...)))
	fails(t, d, read("other"), 1, api.ErrDown)
	does(t, d, restart())
	holds(t, d, want...)
	fails(t, d, mk("other"), d.Steps()+1, api.ErrSpace)
}

// aSave is how a file is written anew, so that it is never half of it.
func aSave(name, data string) []call {
	beside := name + "~"
	return []call{mk(beside), add(beside, data[:1]), add(beside, data[1:]), sync(beside), rename(beside, name), syncDir()}
}

// TestSynced, P1613: such a writing, with the power lost ahead of each step, behind it, or later on; the old bytes or the new ones.
func TestSynced(t *testing.T) {
	for _, old := range []string{"old", ""} {
		for at := range 8 {
			for _, kind := range []int{api.FaultAhead, api.FaultBehind} {
				for _, loss := range everyLoss() {
					d := newDisk(t, 99, "b", "other")
					if old != "" {
						does(t, d, put("a", old))
					}
					does(t, d, plan(api.Fault{Step: at, Kind: kind, Cut: loss.cut}))
					for _, c := range aSave("a", "newer") {
						c.on(t, d)
					}
					saved := !d.Down()
					does(t, d, loss, restart())
					d.Remove("a~")
					oldOrNew(t, d.Names(), look(t, d), old, saved)
				}
			}
		}
	}
}

func oldOrNew(t *testing.T, names []string, left []state, old string, saved bool) {
	t.Helper()
	if !saved && old == "" && slices.Equal(names, []string{"b"}) {
		return
	}
	if !slices.Equal(names, []string{"a", "b"}) || left[1].bytes != "other" {
		t.Fatalf("%v is left", left)
	}
	if a := left[0].bytes; a != "newer" && (saved || old == "" || a != old) {
		t.Fatalf("%v is left, saved %v", left, saved)
	}
}

// TestSyncedFirst, P1613: a file whose bytes and whose name were synced has just these bytes first, whatever is done to others, and to it, but for its name.
func TestSyncedFirst(t *testing.T) {
	later := []call{mk("t"), add("t", "q"), add("a", "more"), rename("t", "u"), remove("u"), mk("u"), sync("u"), add("a", "still")}
	for n := range len(later) + 1 {
		for names := range 7 {
			for bytes := range 11 {
				d := newDisk(t, 99)
				does(t, d, mk("t"), add("t", "syn"), add("t", "ced"), sync("t"), rename("t", "a"), syncDir())
				does(t, d, later[:n]...)
				does(t, d, crash(names, bytes, bytes), restart())
				if b := read("a").on(t, d); b.err != api.OK || !strings.HasPrefix(b.bytes, "synced") {
					t.Fatalf("behind %d calls, %d names, %d bytes: %v", n, names, bytes, b)
				}
			}
		}
	}
}

// TestNotSyncedName, P1613: where the old file was removed ahead of the rename, the name may also be free.
func TestNotSyncedName(t *testing.T) {
	for names, want := range [][]string{{"a", "old"}, {"a", "old", "t", "new"}, {"t", "new"}, {"a", "new"}} {
		d := newDisk(t, 99, "a", "old")
		does(t, d, mk("t"), add("t", "new"), sync("t"), remove("a"), rename("t", "a"), crash(names), restart())
		holds(t, d, want...)
	}
}

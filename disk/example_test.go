package disk_test

import (
	"slices"
	"testing"

	"copyist/api"
)

// TestExamples: the chapter's first table, row by row.
func TestExamples(t *testing.T) {
	refusedSpace(t, -1)
	refusedSpace(t, 1048577)
	d := newDisk(t, 10)
	does(t, d, put("a", "old"))
	answers(t, d, stamp("a"), told{stamp: api.Stamp{1, 3, 1}})
	counted(t, d, 1)
	fails(t, d, put("", "b"), 0, api.ErrName)
	fails(t, d, put("a/b", "b"), 0, api.ErrName)
	does(t, d, mk("t"))
	fails(t, d, mk("a"), 3, api.ErrExists)
	fails(t, d, mk("x y"), 4, api.ErrName)
	writes(t, d, add("t", "newer!!!"), 7, 5, api.ErrSpace)
	answers(t, d, stamp("t"), told{stamp: api.Stamp{2, 7, 1}})
	if names := d.Names(); !slices.Equal(names, []string{"a", "t"}) {
		t.Fatal(names)
	}
	counted(t, d, 6)
	answers(t, d, read("t"), told{bytes: "newer!!"})
}

// TestPowerExamples: the second table.
func TestPowerExamples(t *testing.T) {
	begun := []call{put("a", "old"), mk("t"), add("t", "new")}
	for _, row := range []struct {
		ahead, behind []call
		loss          call
		want          []string
	}{
		{nil, nil, crash(0), []string{"a", "old"}},
		{nil, nil, crash(1), []string{"a", "old", "t", ""}},
		{nil, nil, crash(1, 9, 2), []string{"a", "old", "t", "ne"}},
		{nil, nil, crash(2), []string{"a", ""}},
		{nil, nil, crash(9, 2), []string{"a", "ne"}},
		{[]call{sync("t")}, nil, crash(0), []string{"a", "old"}},
		{[]call{sync("t")}, nil, crash(1), []string{"a", "old", "t", "new"}},
		{[]call{sync("t")}, nil, crash(2), []string{"a", "new"}},
		{[]call{sync("t")}, nil, crash(9, 2), []string{"a", "new"}},
		{[]call{sync("t")}, []call{syncDir()}, crash(0), []string{"a", "new"}},
		{[]call{sync("t")}, []call{syncDir()}, crash(1), []string{"a", "new"}},
		{[]call{sync("t")}, []call{syncDir()}, crash(1, 9, 2), []string{"a", "new"}},
		{[]call{sync("t")}, []call{syncDir()}, crash(2), []string{"a", "new"}},
		{[]call{sync("t")}, []call{syncDir()}, crash(9, 2), []string{"a", "new"}},
	} {
		d := newDisk(t, 100)
		does(t, d, slices.Concat(begun, row.ahead, []call{rename("t", "a")}, row.behind, []call{row.loss, restart()})...)
		holds(t, d, row.want...)
		if row.want[1] == "ne" {
			stamped(t, d, "a", 2, 2, 1)
		}
	}
}

// TestFaultExamples: the third table.
func TestFaultExamples(t *testing.T) {
	for _, row := range []struct {
		fault api.Fault
		call  call
		n     int
		err   api.Errno
		want  []string
	}{
		{fault(1, api.FaultRefuse), read("a"), 0, api.ErrIO, []string{"a", "old"}},
		{parting(1, 2), add("a", "xyz"), 2, api.ErrIO, []string{"a", "oldxy"}},
		{parting(1, 2), add("b", "xyz"), 0, api.ErrMissing, []string{"a", "old"}},
		{fault(1, api.FaultLie), add("a", "xyz"), 3, api.ErrIO, []string{"a", "oldxyz"}},
		{fault(1, api.FaultLie), remove("b"), 0, api.ErrMissing, []string{"a", "old"}},
	} {
		d := newDisk(t, 100, "a", "old")
		does(t, d, plan(row.fault))
		writes(t, d, row.call, row.n, 1, row.err)
		counted(t, d, 1)
		holds(t, d, row.want...)
	}
	for _, row := range []struct {
		fault api.Fault
		want  []string
	}{
		{fault(1, api.FaultAhead), []string{"a", "old"}},
		{cutting(1, api.FaultBehind, 1), nil},
		{cutting(1, api.FaultBehind, 0), []string{"a", "old"}},
	} {
		d := newDisk(t, 100, "a", "old")
		does(t, d, plan(row.fault))
		fails(t, d, remove("a"), 1, api.ErrDown)
		if names := d.Names(); len(names) != 0 || !d.Down() {
			t.Fatalf("Names() = %q, Down() = %v", names, d.Down())
		}
		fails(t, d, read("a"), 0, api.ErrDown)
		counted(t, d, 1)
		does(t, d, restart())
		counted(t, d, 0)
		holds(t, d, row.want...)
	}
}

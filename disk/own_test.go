package disk_test

import (
	"bytes"
	"errors"
	"slices"
	"testing"

	"copyist/api"
	"copyist/disk"
)

// roomy are bytes with spare room behind them, in which something stands.
func roomy(s string) []byte {
	return append([]byte(s), "spare"...)[:len(s)]
}

func asItWas(t *testing.T, b []byte, s string) {
	t.Helper()
	if all := b[:len(b)+5]; string(all) != s+"spare" {
		t.Fatalf("what was handed in is changed: %q", all)
	}
}

// spoil writes over a list and its spare room.
func spoil(b []byte) {
	b = b[:cap(b)]
	for i := range b {
		b[i] = '#'
	}
}

// TestHandedIn, P1614: bytes that are handed in are not changed and not kept.
func TestHandedIn(t *testing.T) {
	d := newDisk(t, 12)
	one, two, three, four := roomy("old"), roomy("er"), roomy("part"), roomy("overfull")
	d.Put("a", one)
	d.Append("a", two)
	does(t, d, plan(parting(1, 2)))
	d.Append("a", three)
	d.Append("a", four)
	asItWas(t, one, "old")
	asItWas(t, two, "er")
	asItWas(t, three, "part")
	asItWas(t, four, "overfull")
	for _, b := range [][]byte{one, two, three, four} {
		spoil(b)
	}
	holds(t, d, "a", "olderpaoverf")

	same := roomy("x") // one list for two files
	d = newDisk(t, 12)
	d.Put("a", same)
	d.Put("b", same)
	d.Append("a", same)
	d.Append("b", []byte("y"))
	holds(t, d, "a", "xx", "b", "xy")
	asItWas(t, same, "x")
}

// TestPlanHandedIn, P1605: a plan and its lists are not changed and not kept.
func TestPlanHandedIn(t *testing.T) {
	d := newDisk(t, 12, "a", "old")
	does(t, d, mk("t"), add("t", "new"))
	left := []int{9, 2, 7}
	faults := []api.Fault{{Step: 1, Kind: api.FaultLie}, {Step: 2, Kind: api.FaultAhead, Cut: api.Cut{Names: 1, Bytes: left}}, {Step: 3, Kind: api.FaultAhead}}
	d.Plan(faults[:2])
	if !slices.Equal(left, []int{9, 2, 7}) || faults[1].Step != 2 || faults[1].Cut.Names != 1 || faults[2].Kind != api.FaultAhead {
		t.Fatalf("the plan is changed: %v", faults)
	}
	left[0], left[1] = 0, 0
	faults[0], faults[1] = api.Fault{}, api.Fault{Step: 2, Kind: api.FaultRefuse}
	fails(t, d, read("a"), 1, api.ErrIO)
	fails(t, d, read("a"), 2, api.ErrDown)
	if !slices.Equal(left, []int{0, 0, 7}) {
		t.Fatalf("a list of the plan is changed: %v", left)
	}
	does(t, d, restart())
	holds(t, d, "a", "old", "t", "ne")

	cut := []int{1, 1}
	does(t, d, add("t", "w!"))
	d.Crash(api.Cut{Bytes: cut})
	if !slices.Equal(cut, []int{1, 1}) {
		t.Fatalf("a cut is changed: %v", cut)
	}
}

// TestAnswered, P1614: what Read and Names answer is the caller's own, and stays as it was whatever the disk does.
func TestAnswered(t *testing.T) {
	d := newDisk(t, 99, "a", "old", "b", "other")
	first, _ := d.Read("a")
	second, _ := d.Read("a")
	names := d.Names()
	was := look(t, d)
	spoil(first)
	n := d.Names()
	n = n[:cap(n)]
	for i := range n {
		n[i] = "#"
	}
	stays(t, "answers, written over", d, was)
	does(t, d, add("a", "er"), put("a", "NEW"), add("a", "!"), remove("b"), crash(0), restart(), put("a", "third"))
	if string(second) != "old" || !slices.Equal(names, []string{"a", "b"}) {
		t.Fatalf("%q, %q", second, names)
	}
	if len(first) != 3 || !bytes.Equal(first, []byte("###")) {
		t.Fatalf("%q", first)
	}

	d = newDisk(t, 99, "a", "old") // the spare room too: neither writes into the other's
	b, _ := d.Read("a")
	b = append(b, "mine"...)
	does(t, d, add("a", "yours"))
	if string(b) != "oldmine" {
		t.Fatalf("%q", b)
	}
	holds(t, d, "a", "oldyours")
	c, _ := d.Read("a")
	does(t, d, crash(0), restart(), add("a", "ours"))
	if string(c) != "oldyours" {
		t.Fatalf("%q", c)
	}
	holds(t, d, "a", "oldours")
}

// TestErrorsAreOwn, P1614: an error tells the same, whatever is called later, and is not answered twice.
func TestErrorsAreOwn(t *testing.T) {
	d := newDisk(t, 3, "a", "old")
	does(t, d, plan(fault(4, api.FaultAhead)))
	var all []error
	var want []disk.Fail
	for _, c := range []call{read("x"), read("x"), put("b", "y"), put("b", "y"), add("a", "z"), read("a"), read("a"), read("a"), put("a", "")} {
		err := raw(d, c)
		var f *disk.Fail
		if !errors.As(err, &f) {
			t.Fatalf("%v: %v", c, err)
		}
		all, want = append(all, err), append(want, *f)
	}
	for i := range all {
		for k := range i {
			if all[i] == all[k] {
				t.Fatalf("%v was answered twice", all[i])
			}
		}
	}
	changed := all[0].(*disk.Fail)
	*changed = disk.Fail{Op: "mine", Err: api.ErrArg}
	does(t, d, restart(), put("a", ""), mk("c"), remove("a"), crash(0), restart())
	for i, err := range all[1:] {
		if f := err.(*disk.Fail); *f != want[i+1] {
			t.Fatalf("%+v, want %+v", *f, want[i+1])
		}
	}
	if one, two := newErr(), newErr(); one == two {
		t.Fatal("New answers one error twice")
	}
}

func newErr() error {
	_, err := disk.New(-1)
	return err
}

// TestTwoDisks, P1614: they have nothing in common.
func TestTwoDisks(t *testing.T) {
	one, two := newDisk(t, 9, "a", "1"), newDisk(t, 9, "a", "2")
	does(t, one, mk("t"), add("t", "t"), plan(fault(1, api.FaultRefuse)))
	fails(t, one, read("a"), 1, api.ErrIO)
	counted(t, two, 0)
	holds(t, two, "a", "2")
	does(t, one, crash(9, 9, 9))
	if two.Down() {
		t.Fatal("both are down")
	}
	does(t, two, mk("u"))
	stamped(t, two, "u", 2, 0, 0)
	does(t, one, restart())
	holds(t, one, "a", "1", "t", "t")
	does(t, one, put("a", "123456"))
	does(t, two, put("a", "123456789"))
	holds(t, two, "a", "123456789", "u", "")
}

package disk_test

import (
	"slices"
	"testing"

	"copyist/api"
)

// someSteps has each kind of step, one that is well and those that fail by themselves, on a disk of the space 8 with the file a, "old".
func someSteps() []call {
	return []call{
		mk("t"), mk("a"), mk("/"),
		add("a", "xyz"), add("a", "longer than that"), add("a", ""), add("b", "xyz"), add("/", "xyz"),
		sync("a"), sync("b"), sync("/"),
		syncDir(),
		rename("a", "t"), rename("a", "u"), rename("a", "a"), rename("b", "a"), rename("a", "/"),
		remove("a"), remove("b"), remove("/"),
		read("a"), read("b"), read("/"),
		stamp("a"), stamp("b"), stamp("/"),
	}
}

// TestSteps, P1604: each step is counted, whatever comes of it; nothing else is.
func TestSteps(t *testing.T) {
	kinds := map[string]int{}
	for _, c := range someSteps() {
		d := newDisk(t, 8, "a", "old")
		counted(t, d, 0)
		for k := 1; k <= 3; k++ {
			a := c.on(t, d)
			if a.err != api.OK && a.step != k {
				t.Fatalf("%v: %v, want the step %d", c, a, k)
			}
			counted(t, d, k)
			d.Names()
			d.Down()
			does(t, d, restart()) // of a disk that is up: nothing
			d.Put("z", []byte("12345678901"))
			d.Put("z", nil)
			counted(t, d, k)
		}
		does(t, d, plan())
		counted(t, d, 0)
		if a := c.on(t, d); a.err != api.OK && a.step != 1 {
			t.Fatalf("%v: %v, want the step 1", c, a)
		}
		does(t, d, crash(0))
		counted(t, d, 1)
		for range 3 {
			fails(t, d, c, 0, api.ErrDown)
			counted(t, d, 1)
		}
		does(t, d, restart())
		counted(t, d, 0)
		if a := c.on(t, d); a.err != api.OK && a.step != 1 {
			t.Fatalf("%v: %v, want the step 1", c, a)
		}
		counted(t, d, 1)
		kinds[c.op]++
	}
	for _, op := range steps {
		if kinds[op] == 0 {
			t.Fatalf("no step %s was tried", op)
		}
	}
}

// met makes the step c on a disk whose plan has a fault for it, and tells what the disk is then.
func met(t *testing.T, c call, f api.Fault) (told, []state, bool) {
	t.Helper()
	d := newDisk(t, 8, "a", "old")
	does(t, d, mk("u"), plan(f))
	a := c.on(t, d)
	counted(t, d, 1)
	down := d.Down()
	if down != (len(d.Names()) == 0) {
		t.Fatalf("%v: down %v, names %q", c, down, d.Names())
	}
	d.Restart()
	return a, look(t, d), down
}

// alone is what a step answers and leaves, where no fault meets it.
func alone(t *testing.T, c call) (told, []state) {
	t.Helper()
	a, left, _ := met(t, c, api.Fault{})
	return a, left
}

// untouched is the disk of met, as it is where nothing was done.
func untouched(t *testing.T) []state {
	t.Helper()
	_, left := alone(t, stamp("a"))
	return left
}

func erring(c call, n int, err api.Errno) told {
	return told{n: n, op: c.op, name: c.name, step: 1, err: err}
}

// TestRefuse, P1605: nothing is done; ErrIO, ahead of the step's own errors.
func TestRefuse(t *testing.T) {
	for _, c := range someSteps() {
		a, left, down := met(t, c, api.Fault{Step: 1, Kind: api.FaultRefuse, Part: 9, Cut: api.Cut{Names: 9}})
		if a != erring(c, 0, api.ErrIO) || !slices.Equal(left, untouched(t)) || down {
			t.Fatalf("%v: %v, %v, %v", c, a, left, down)
		}
	}
}

// TestPartOfOthers, P1605: of every step but Append, as FaultRefuse.
func TestPartOfOthers(t *testing.T) {
	for _, c := range someSteps() {
		if c.op == "append" {
			continue
		}
		for _, part := range []int{-1, 0, 1, 99} {
			a, left, down := met(t, c, parting(1, part))
			if a != erring(c, 0, api.ErrIO) || !slices.Equal(left, untouched(t)) || down {
				t.Fatalf("%v: %v, %v, %v", c, a, left, down)
			}
		}
	}
}

// TestPart, P1605: an Append in part: Part below 0, in bounds and beyond, with room and without.
func TestPart(t *testing.T) {
	parts := []int{-1 << 63, -7, -1, 0, 1, 2, 3, 4, 5, 6, 7, 99, 1<<63 - 1}
	for room := range 6 {
		for n := range 7 {
			for _, part := range parts {
				d := newDisk(t, 3+room, "a", "old")
				b := "abcdefg"[:n]
				does(t, d, plan(parting(1, part)))
				put := min(max(part, 0), n, room)
				writes(t, d, add("a", b), put, 1, api.ErrIO)
				holds(t, d, "a", "old"+b[:put])
				stamped(t, d, "a", 1, 3+put, 1+min(put, 1))
				answers(t, d, add("a", ""), told{})
			}
		}
	}
	for _, part := range parts { // its own errors go ahead
		d := newDisk(t, 3, "a", "old")
		does(t, d, plan(parting(1, part), parting(2, part)))
		fails(t, d, add("b", "xyz"), 1, api.ErrMissing)
		fails(t, d, add("/", "xyz"), 2, api.ErrName)
		writes(t, d, add("a", "xyz"), 0, 3, api.ErrSpace)
	}
	d := newDisk(t, 99, "a", "old") // what was written in part is not synced
	does(t, d, plan(parting(1, 2)))
	writes(t, d, add("a", "xyz"), 2, 1, api.ErrIO)
	does(t, d, crash(0, 1), restart())
	holds(t, d, "a", "oldx")
}

// TestLie, P1605: the step is done; its own error, or else ErrIO.
func TestLie(t *testing.T) {
	for _, c := range someSteps() {
		bare, done := alone(t, c)
		want := bare
		if bare.err == api.OK {
			want = erring(c, bare.n, api.ErrIO)
		}
		a, left, down := met(t, c, cutting(1, api.FaultLie, 9, 9))
		if a != want || !slices.Equal(left, done) || down {
			t.Fatalf("%v: %v, %v, %v; want %v, %v", c, a, left, down, want, done)
		}
	}
	// syncs that are told as failed are done too
	d := newDisk(t, 9)
	does(t, d, mk("t"), add("t", "abc"), plan(fault(1, api.FaultLie), fault(2, api.FaultLie)))
	fails(t, d, sync("t"), 1, api.ErrIO)
	fails(t, d, syncDir(), 2, api.ErrIO)
	does(t, d, crash(0), restart())
	holds(t, d, "t", "abc")
}

// TestAhead, P1605: nothing is done, the disk crashes; ErrDown, whatever the step.
func TestAhead(t *testing.T) {
	for _, c := range someSteps() {
		for _, cut := range []api.Cut{{}, {Names: 1}, {Names: 1, Bytes: []int{9, 9}}, {Names: -1}} {
			a, left, down := met(t, c, api.Fault{Step: 1, Kind: api.FaultAhead, Part: 2, Cut: cut})
			d := newDisk(t, 8, "a", "old")
			does(t, d, mk("u"), call{op: "crash", cut: cut}, restart())
			if a != erring(c, 0, api.ErrDown) || !slices.Equal(left, look(t, d)) || !down {
				t.Fatalf("%v, %v: %v, %v, %v", c, cut, a, left, down)
			}
		}
	}
}

// TestBehind, P1605: the step is done, whether it fails or not, then the disk crashes; ErrDown, and of an Append the number 0.
func TestBehind(t *testing.T) {
	for _, c := range someSteps() {
		for _, cut := range []api.Cut{{}, {Names: 1}, {Names: 2}, {Names: 2, Bytes: []int{9, 9}}, {Names: 9, Bytes: []int{1, 1}}, {Names: -1}} {
			a, left, down := met(t, c, api.Fault{Step: 1, Kind: api.FaultBehind, Part: 2, Cut: cut})
			d := newDisk(t, 8, "a", "old")
			does(t, d, mk("u"))
			c.on(t, d)
			does(t, d, call{op: "crash", cut: cut}, restart())
			if a != erring(c, 0, api.ErrDown) || !slices.Equal(left, look(t, d)) || !down {
				t.Fatalf("%v, %v: %v, %v, %v", c, cut, a, left, down)
			}
		}
	}
	d := newDisk(t, 9, "a", "old") // the acts that it makes last are those that last
	does(t, d, mk("t"), add("t", "abc"), sync("t"), plan(fault(1, api.FaultBehind)))
	fails(t, d, syncDir(), 1, api.ErrDown)
	does(t, d, restart())
	holds(t, d, "a", "old", "t", "abc")
}

// TestPlan, P1605: which of several faults counts, and which never comes.
func TestPlan(t *testing.T) {
	d := newDisk(t, 9, "a", "old")
	does(t, d, plan(
		fault(2, 0), fault(2, 6), fault(2, -1), fault(2, 1<<62), // of no kind
		fault(0, api.FaultAhead), fault(-1, api.FaultAhead), fault(-1<<63, api.FaultAhead), // of no step
		fault(4, api.FaultLie), fault(2, api.FaultRefuse), fault(2, api.FaultAhead), fault(4, api.FaultBehind), fault(4, 9),
		fault(1<<63-1, api.FaultAhead), fault(2, api.FaultLie),
	))
	does(t, d, read("a"))
	fails(t, d, mk("b"), 2, api.ErrIO)
	does(t, d, mk("b"))
	fails(t, d, mk("c"), 4, api.ErrIO)
	does(t, d, remove("b"), remove("c"), read("a"))
	counted(t, d, 7)

	// steps are counted anew, and the plan that was there is gone
	does(t, d, plan(fault(1, api.FaultRefuse), fault(2, api.FaultRefuse)))
	fails(t, d, read("a"), 1, api.ErrIO)
	does(t, d, plan(fault(2, api.FaultLie)))
	counted(t, d, 0)
	does(t, d, read("a"))
	fails(t, d, read("a"), 2, api.ErrIO)
	does(t, d, plan(fault(1, api.FaultRefuse)), plan())
	does(t, d, read("a"))
	does(t, d, plan(fault(1, api.FaultRefuse)), plan(fault(1, 9), fault(0, api.FaultRefuse)))
	does(t, d, read("a"))

	// a fault comes once, at its step, the steps that fail counted too
	does(t, d, plan(fault(3, api.FaultRefuse)))
	fails(t, d, read("x"), 1, api.ErrMissing)
	fails(t, d, read("/"), 2, api.ErrName)
	fails(t, d, read("/"), 3, api.ErrIO)
	fails(t, d, read("/"), 4, api.ErrName)
}

// TestPlanLeavesFiles, P1605: nothing but the plan and the count is changed.
func TestPlanLeavesFiles(t *testing.T) {
	d := newDisk(t, 9, "a", "old")
	does(t, d, mk("t"), add("t", "new"))
	was := look(t, d)
	does(t, d, plan(fault(99, api.FaultAhead)))
	stays(t, "a plan", d, was)
	does(t, d, plan(), crash(0), restart())
	holds(t, d, "a", "old")
}

// TestPlanWhileDown, P1605, P1612: it is the plan, and steps are counted anew; but Restart takes it away.
func TestPlanWhileDown(t *testing.T) {
	d := newDisk(t, 9, "a", "old")
	does(t, d, read("a"), read("a"), crash(0))
	counted(t, d, 2)
	does(t, d, plan(fault(1, api.FaultRefuse)))
	counted(t, d, 0)
	fails(t, d, read("a"), 0, api.ErrDown)
	counted(t, d, 0)
	if !d.Down() {
		t.Fatal("a plan has brought the disk up")
	}
	does(t, d, restart(), read("a"))
	counted(t, d, 1)
}

// TestRestart, P1612: of a disk that is up it does nothing; of one that is down the plan and the count go.
func TestRestart(t *testing.T) {
	d := newDisk(t, 9, "a", "old")
	does(t, d, mk("t"), plan(fault(2, api.FaultRefuse)), read("a"))
	does(t, d, restart())
	counted(t, d, 1)
	fails(t, d, read("a"), 2, api.ErrIO)
	does(t, d, plan(fault(1, api.FaultLie), fault(3, api.FaultRefuse)))
	fails(t, d, read("a"), 1, api.ErrIO)
	does(t, d, read("a"), crash(0))
	counted(t, d, 2)
	does(t, d, restart())
	counted(t, d, 0)
	does(t, d, read("a"), read("a"), read("a"), read("a"))
	counted(t, d, 4)
	does(t, d, restart(), restart())
	counted(t, d, 4)
	holds(t, d, "a", "old")

	d = newDisk(t, 9, "a", "old") // the acts that wait go on waiting
	does(t, d, mk("t"), restart(), crash(0), restart())
	holds(t, d, "a", "old")
	d = newDisk(t, 9)
	does(t, d, plan(fault(1, api.FaultAhead), fault(2, api.FaultAhead)))
	fails(t, d, read("a"), 1, api.ErrDown)
	does(t, d, restart(), mk("a"), mk("b"), mk("c"))
}

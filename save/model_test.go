package save_test

import (
	"math/rand"
	"strings"
	"testing"

	"copyist/api"
)

// losses are power losses: of what waits for a sync nothing, some and all is left.
func losses() []deed {
	return []deed{crashing(0), crashing(1, 2, 2), crashing(2), crashing(3, 1, 1, 1, 1), crashing(9, 9999, 9999, 9999, 9999)}
}

// faultsAt are those of all kinds at a step.
func faultsAt(step int) []api.Fault {
	all := []api.Fault{fault(step, api.FaultRefuse), fault(step, api.FaultLie)}
	for _, part := range []int{0, 1, 500, 9999} {
		all = append(all, api.Fault{Step: step, Kind: api.FaultPart, Part: part})
	}
	for _, kind := range []int{api.FaultAhead, api.FaultBehind} {
		all = append(all, cutting(step, kind, 0), cutting(step, kind, 1, 0, 2), cutting(step, kind, 2, 9999, 9999), cutting(step, kind, 9, 1, 1, 1))
	}
	return all
}

// starts are what may have been done ahead of the call that meets a fault.
func starts() [][]deed {
	first := opening(0, "a", api.Auto, api.MaxBytes)
	lied := []deed{planning(fault(6, api.FaultLie)), saving(0, "lied", false), planning()}
	return [][]deed{
		{first},
		{opening(0, "n", api.UTF16LE, 9)},
		{putting("a~", "left"), first},
		{first, putting("a~", "left"), putting("c~", "left"), putting("n~", "left")},
		{first, putting("a", "other")},
		{first, removing("a")},
		append([]deed{first}, lied...),
		append(append([]deed{first}, lied...), putting("a", "other")),
		append([]deed{opening(0, "n", api.Auto, 9)}, lied...),
		{opening(0, "n", api.Auto, 9), putting("n", "other")},
		{first, saving(0, "once", false)},
		{first, naming(0, "c")},
		{first, copying(0, "c", "there", false)},
	}
}

// TestFaultAtEachStep, P1702 to P1707: every kind of fault at every step of every call, and at each of the two behind it; the answer, the steps, what is known and what the disk holds, behind it and behind another Save.
func TestFaultAtEachStep(t *testing.T) {
	long := strings.Repeat("long ", 300)
	calls := []deed{
		saving(0, "new", false), saving(0, long, true), saving(0, "", true),
		copying(0, "c", long, false), copying(0, "c", "new", true), copying(0, "a", "new", false), copying(0, "b", "new", false),
		naming(0, "c"), naming(0, "b"), tidying(), opening(0, "b", api.Auto, 9), opening(1, "q", api.UTF16BE, 9),
	}
	for _, start := range starts() {
		for _, x := range calls {
			for step := 1; faultIsMet(t, start, x, step); step++ {
			}
		}
	}
}

// faultIsMet does a call with each fault at a step; false, if the call ends ahead of it.
func faultIsMet(t *testing.T, start []deed, x deed, step int) bool {
	met := false
	for _, one := range faultsAt(step) {
		for _, two := range []api.Fault{{}, fault(step+1, api.FaultRefuse), fault(step+2, api.FaultLie)} {
			p := newPair(t, 9000, "a", mark8+"old", "b", "beside")
			for _, s := range start {
				p.does(t, s)
			}
			p.does(t, planning(one, two))
			p.does(t, x)
			met = met || p.real.Steps() >= step
			p.does(t, restarting())
			p.looks(t, "behind the call")
			p.does(t, saving(0, "again", false))
			p.ends(t, crashing(1, 1, 1))
		}
	}
	return met
}

// TestLossBehindEachStep, P1703, P1704: with a fault at each step that does not take the disk down, every power loss behind the call: so what was synced is told, and in which order.
func TestLossBehindEachStep(t *testing.T) {
	for _, start := range starts() {
		for _, x := range []deed{saving(0, "new", true), saving(0, strings.Repeat("longer", 250), true), copying(0, "c", "new", true), tidying()} {
			for step := 0; step <= 11; step++ {
				for _, one := range faultsAt(step)[:6] {
					for _, loss := range losses() {
						p := newPair(t, 9000, "a", mark8+"old", "b", "beside")
						for _, s := range start {
							p.does(t, s)
						}
						p.does(t, planning(one))
						p.does(t, x)
						p.ends(t, loss)
					}
				}
			}
		}
	}
}

// TestLongRows: at random, two Files on one disk that is little; what stands on it is looked at from time to time.
func TestLongRows(t *testing.T) {
	for seed := range int64(300) {
		r := rand.New(rand.NewSource(seed))
		p := newPair(t, 200+r.Intn(6000), "a", mark8+"old", "b", mark16+"x\x00", "d", "plain")
		for range 120 {
			p.does(t, someDeed(r))
			if r.Intn(8) == 0 {
				p.does(t, restarting())
				p.looks(t, "in between")
			}
		}
		p.ends(t, losses()[r.Intn(5)])
	}
}

func someDeed(r *rand.Rand) deed {
	name := []string{"a", "a", "b", "c", "d", "a~", "x y", "longest-name-that-there-may-be.", "longest-name-that-there-may-be.."}[r.Intn(9)]
	data := []string{"", "k", "word", strings.Repeat("x", 1021), strings.Repeat("y", 1024), letters(2500)}[r.Intn(6)]
	file, force := r.Intn(2), r.Intn(3) == 0
	switch n := r.Intn(20); {
	case n < 2:
		return opening(file, name, r.Intn(7)-1, []int{-1, 0, 1, 4, 65536, 65537}[r.Intn(6)])
	case n < 3:
		return opening(file, []string{"a", "b", "c", "d"}[r.Intn(4)], 0, 65536)
	case n < 9:
		return saving(file, data, force)
	case n < 11:
		return copying(file, name, data, force)
	case n < 12:
		return naming(file, name)
	case n < 13:
		return tidying()
	case n < 14:
		return putting([]string{"a", "b", "a~", "c~", "e"}[r.Intn(5)], data)
	case n < 15:
		return removing(name)
	case n < 18:
		return planning(someFault(r), someFault(r), someFault(r))
	case n < 19:
		return restarting()
	}
	if r.Intn(3) > 0 {
		return planning()
	}
	return crashing(r.Intn(5)-1, r.Intn(9), r.Intn(3000), r.Intn(9))
}

func someFault(r *rand.Rand) api.Fault {
	kind := r.Intn(7)
	if kind >= api.FaultAhead && r.Intn(3) > 0 {
		kind = api.FaultLie
	}
	return api.Fault{Step: r.Intn(12), Kind: kind, Part: r.Intn(1100) - 10, Cut: api.Cut{Names: r.Intn(5), Bytes: []int{r.Intn(9), r.Intn(2000)}}}
}

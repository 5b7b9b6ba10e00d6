package disk_test

import (
	"math/rand"
	"slices"
	"strings"
	"testing"

	"copyist/api"
	"copyist/disk"
)

// agree makes one call on both, and holds all that is told against each other.
func agree(t *testing.T, done []call, d *disk.Disk, p *plain) {
	t.Helper()
	c := done[len(done)-1]
	got, want := c.on(t, d), p.do(c)
	if got != want {
		t.Fatalf("%+v: %+v, want %+v", done, got, want)
	}
	if names := d.Names(); !slices.Equal(names, p.names()) || d.Steps() != p.steps || d.Down() != p.down {
		t.Fatalf("%+v: %q, %d, %v, want %q, %d, %v", done, names, d.Steps(), d.Down(), p.names(), p.steps, p.down)
	}
}

// agreeAll reads all files on both, without a plan.
func agreeAll(t *testing.T, done []call, d *disk.Disk, p *plain) {
	t.Helper()
	all := []call{plan()}
	for _, name := range p.names() {
		all = append(all, read(name), stamp(name))
	}
	for _, c := range all {
		agree(t, append(slices.Clip(done), c), d, p)
	}
}

// fewCalls meet one another on three names and a space of 6 bytes: enough for every row of them.
func fewCalls() []call {
	return []call{
		put("a", "put"), put("b", ""),
		mk("a"), mk("b"), add("a", "xy"), add("b", "uvwz"), sync("a"), sync("b"), syncDir(),
		rename("a", "b"), rename("b", "a"), rename("b", "b"), remove("a"), remove("b"),
		crash(1, 1), restart(),
	}
}

// TestRows: every row of four such calls, and then every power loss.
func TestRows(t *testing.T) {
	t.Parallel()
	all := fewCalls()
	losses := []call{crash(0), crash(1, 1, 1), crash(2, 9, 0), crash(9, 0, 9)}
	row := make([]call, 4)
	for i := range len(all) * len(all) * len(all) * len(all) {
		for k, n := 0, i; k < len(row); k, n = k+1, n/len(all) {
			row[k] = all[n%len(all)]
		}
		for _, loss := range losses {
			d, p := newDisk(t, 6, "a", "old"), newPlain(6)
			p.do(put("a", "old"))
			done := make([]call, 0, 8)
			for _, c := range append(slices.Clip(row), loss, restart()) {
				done = append(done, c)
				agree(t, done, d, p)
			}
			agreeAll(t, done, d, p)
		}
	}
}

// TestEveryFault: each kind of fault at each kind of step, in some states of a disk.
func TestEveryFault(t *testing.T) {
	t.Parallel()
	begun := [][]call{
		nil,
		{mk("u")},
		{add("a", "er"), mk("b"), add("b", "u")},
		{rename("a", "u"), mk("a"), add("a", "12345678")},
		{remove("a"), mk("b"), add("b", "12345678"), sync("b"), crash(0), restart()},
		{crash(0)},
	}
	cuts := []api.Cut{{}, {Names: 1, Bytes: []int{1}}, {Names: 2, Bytes: []int{9, 9}}, {Names: 9, Bytes: []int{0, 2, 1}}, {Names: -1, Bytes: []int{-1, -1}}}
	for _, ahead := range begun {
		for _, c := range someSteps() {
			for kind := -1; kind <= 7; kind++ {
				for _, part := range []int{-1, 0, 1, 2, 99} {
					for _, cut := range cuts {
						d, p := newDisk(t, 8, "a", "old"), newPlain(8)
						p.do(put("a", "old"))
						var done []call
						f := api.Fault{Step: 1, Kind: kind, Part: part, Cut: cut}
						for _, c := range slices.Concat(ahead, []call{plan(f), c, crash(9, 1), restart()}) {
							done = append(done, c)
							agree(t, done, d, p)
						}
						agreeAll(t, done, d, p)
					}
				}
			}
		}
	}
}

// chance makes calls at random.
type chance struct{ *rand.Rand }

func (r chance) of(l ...string) string { return l[r.Intn(len(l))] }

func (r chance) cut() api.Cut {
	c := api.Cut{Names: r.Intn(8) - 1}
	for range r.Intn(6) {
		c.Bytes = append(c.Bytes, r.Intn(9)-1)
	}
	return c
}

func (r chance) plan() call {
	var l []api.Fault
	for range r.Intn(5) {
		l = append(l, api.Fault{Step: r.Intn(12) - 1, Kind: r.Intn(8) - 1, Part: r.Intn(7) - 1, Cut: r.cut()})
	}
	return plan(l...)
}

func (r chance) call() call {
	names := []string{"a", "b", "c", "d", "a", "b", "e~", "f.g", "/", "", strings.Repeat("n", 32), strings.Repeat("n", 33)}
	if r.Intn(4) == 0 {
		names = strings.Split("abcdefghijklmnopqrst", "")
	}
	name, data := r.of(names...), "0123456789ABCDEFGHIJ"[:r.Intn(20)]
	if r.Intn(2) == 0 {
		data = data[:min(len(data), r.Intn(4))]
	}
	switch n := r.Intn(24); {
	case n < 2:
		return put(name, data)
	case n == 2 && r.Intn(2) == 0:
		return r.plan()
	case n == 3 && r.Intn(4) == 0:
		return call{op: "crash", cut: r.cut()}
	case n == 4:
		return restart()
	case n < 10:
		return add(name, data)
	case n < 14:
		return mk(name)
	case n == 14:
		return syncDir()
	case n < 18:
		return rename(name, r.of(names...))
	}
	return call{op: r.of("sync", "remove", "read", "stamp"), name: name}
}

// TestAtRandom: long rows of all calls, with plans that stand among them.
func TestAtRandom(t *testing.T) {
	t.Parallel()
	r := chance{rand.New(rand.NewSource(16))}
	for range 1500 {
		space := []int{0, 5, 20, 60, 1000}[r.Intn(5)]
		d, p := newDisk(t, space), newPlain(space)
		var done []call
		for range 10 + r.Intn(150) {
			c := r.call()
			if p.down && r.Intn(3) == 0 {
				c = restart()
			}
			done = append(done, c)
			agree(t, done, d, p)
			if r.Intn(20) == 0 && !p.down {
				agreeAll(t, done, d, p)
			}
		}
		done = append(done, call{op: "crash", cut: r.cut()}, restart())
		agree(t, done[:len(done)-1], d, p)
		agree(t, done, d, p)
		agreeAll(t, done, d, p)
	}
}

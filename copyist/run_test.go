package copyist_test

import (
	"math/rand"
	"testing"

	"copyist/api"
	"copyist/copyist"
)

// TestRun, P1906: New's error; else an answer a step, those of New and Do.
func TestRun(t *testing.T) {
	for i, row := range append(numberRows(), wrongs()...) {
		s := turned(row.turn)
		steps := []api.Step{seen, typed("x:w⏎"), looked("a"), {Kind: 77}, {Kind: api.StepNames}}
		e, want := copyist.New(s)
		all, err := copyist.Run(s, steps)
		if err != want || err != row.want {
			t.Errorf("row %d: %d, want %d", i, err, want)
		}
		if err != api.OK {
			if len(all) != 0 {
				t.Errorf("row %d: %d answers beside an error", i, len(all))
			}
			continue
		}
		if len(all) != len(steps) {
			t.Fatalf("row %d: %d answers", i, len(all))
		}
		for n, step := range steps {
			if a := e.Do(step); !same(a, all[n]) {
				t.Errorf("row %d, step %d: %+v, want %+v", i, n, all[n], a)
			}
		}
	}
	for _, steps := range [][]api.Step{nil, {}} {
		if all, err := copyist.Run(usual(""), steps); err != api.OK || len(all) != 0 {
			t.Errorf("no steps: %d, %+v", err, all)
		}
	}
	// it goes on behind a step that fails, and behind the end
	all := run(t, usual("a", "a", "abc"), typed("xQ"), typed("x"), typed(":q!⏎"), seen, api.Step{Kind: 99}, looked("a"), api.Step{Kind: api.StepRestart, Name: "a"}, seen)
	for i, want := range []api.Errno{api.ErrKey, api.OK, api.OK, api.ErrGone, api.ErrArg, api.OK, api.OK, api.OK} {
		if all[i].Err != want {
			t.Errorf("step %d: %+v, want %d", i, all[i], want)
		}
	}
}

// TestRunTwice: what a run answers hangs on its script alone.
func TestRunTwice(t *testing.T) {
	for seed := range int64(60) {
		r := picker{rand.New(rand.NewSource(seed))}
		s := r.setup()
		steps := []api.Step{}
		for range 40 {
			steps = append(steps, r.step(), seen)
		}
		one, err := copyist.Run(s, steps)
		two, again := copyist.Run(s, steps)
		if err != again || len(one) != len(two) {
			t.Fatalf("seed %d: %d, %d", seed, err, again)
		}
		e, err := copyist.New(s)
		for i := range one {
			if !same(one[i], two[i]) {
				t.Fatalf("seed %d, step %d: %+v, then %+v", seed, i, one[i], two[i])
			}
			if a := e.Do(steps[i]); err != api.OK || !same(one[i], a) {
				t.Fatalf("seed %d, step %d: %+v, by Do %+v", seed, i, one[i], a)
			}
		}
	}
}

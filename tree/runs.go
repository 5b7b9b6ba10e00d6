package tree

// most is as many letters as one run counts for, so that no sum of runs leaves its int.
const most = 1 << 20

// Run is a thing: so many letters of one kind.
type Run struct{ Kind, N int }

// Runs is what Runs add up to: how many letters; how many stretches of one kind, where neighbours of one kind melt; the first and the last kind.
type Runs struct{ Letters, Stretches, First, Last int }

// Measure tells a run's sum.
func (r Run) Measure() Runs {
	if r.N <= 0 {
		return Runs{}
	}
	return Runs{Letters: min(r.N, most), Stretches: 1, First: r.Kind, Last: r.Kind}
}

// Add tells the sum of one stretch of runs and the one behind it.
func (s Runs) Add(o Runs) Runs {
	if s.Stretches == 0 {
		return o
	}
	if o.Stretches == 0 {
		return s
	}
	both := Runs{s.Letters + o.Letters, s.Stretches + o.Stretches, s.First, o.Last}
	if s.Last == o.First {
		both.Stretches--
	}
	return both
}

// Key tells the letters (0) or the stretches (1).
func (s Runs) Key(k int) int {
	switch k {
	case 0:
		return s.Letters
	case 1:
		return s.Stretches
	}
	return 0
}

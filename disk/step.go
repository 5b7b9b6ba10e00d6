package disk

import (
	"slices"

	"copyist/api"
)

// step is a call that is counted, and that a fault may meet: what it does, and what it does of it, if it can be done in part.
type step struct {
	op, name string
	do       func() api.Errno
	doPart   func(most int) api.Errno
}

// Plan says what goes wrong at which step, counted from here on.
func (d *Disk) Plan(faults []api.Fault) {
	d.steps = 0
	d.plan = map[int]api.Fault{}
	for _, f := range faults {
		_, taken := d.plan[f.Step]
		if taken || f.Step < 1 || f.Kind < api.FaultRefuse || f.Kind > api.FaultBehind {
			continue
		}
		more := f.Cut.Bytes[:min(len(f.Cut.Bytes), api.MaxFiles)] // no crash leaves more files
		f.Cut.Bytes = slices.Clone(more)
		d.plan[f.Step] = f
	}
}

// Steps tells how many steps there have been since the plan.
func (d *Disk) Steps() int { return d.steps }

func (d *Disk) take(s step) error {
	if d.down {
		return failed(s.op, s.name, 0, api.ErrDown)
	}
	d.steps++
	number := d.steps
	fault := d.plan[number] // of no kind, where there is none
	delete(d.plan, number)
	return failed(s.op, s.name, number, d.meet(s, fault))
}

// meet does as much of a step as a fault lets it.
func (d *Disk) meet(s step, fault api.Fault) api.Errno {
	switch fault.Kind {
	case api.FaultRefuse:
		return api.ErrIO
	case api.FaultPart:
		if s.doPart == nil {
			return api.ErrIO
		}
		return belied(s.doPart(fault.Part))
	case api.FaultLie:
		return belied(s.do())
	case api.FaultAhead:
		d.Crash(fault.Cut)
		return api.ErrDown
	case api.FaultBehind:
		s.do()
		d.Crash(fault.Cut)
		return api.ErrDown
	}
	return s.do()
}

// belied is what is told of a step in the place of its being well.
func belied(err api.Errno) api.Errno {
	if err == api.OK {
		return api.ErrIO
	}
	return err
}

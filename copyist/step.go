package copyist

import "copyist/api"

// kind is what is known of a kind of step.
type kind struct {
	do        func(e *Editor, s api.Step) api.Answer
	inSession bool // behind the end of a session it isn't done
}

// kinds leads from a kind's number to what is done.
func kinds() map[int]kind {
	return map[int]kind{
		api.StepKey:     {do: (*Editor).key, inSession: true},
		api.StepKeys:    {do: (*Editor).keys}, // too many keys are refused even behind the end
		api.StepSee:     {do: (*Editor).see, inSession: true},
		api.StepReg:     {do: (*Editor).register, inSession: true},
		api.StepFile:    {do: (*Editor).file},
		api.StepNames:   {do: (*Editor).names},
		api.StepFaults:  {do: (*Editor).faults},
		api.StepRestart: {do: (*Editor).restart},
		api.StepPoke:    {do: (*Editor).poke},
	}
}

func (e *Editor) key(s api.Step) api.Answer { return api.Answer{Err: e.press(s.N)} }

// keys takes keys up to the first that is refused, and tells how many there were ahead of it.
func (e *Editor) keys(s api.Step) api.Answer {
	switch {
	case len(s.Keys) > api.MaxKeys:
		return api.Answer{Err: api.ErrLong}
	case e.session == nil:
		return api.Answer{Err: api.ErrGone}
	}
	for done := range len(s.Keys) {
		if err := e.press(s.Keys[done]); err != api.OK {
			return api.Answer{Err: err, N: done}
		}
	}
	return api.Answer{N: len(s.Keys)}
}

func (e *Editor) see(api.Step) api.Answer {
	s := e.session
	return api.Answer{Sight: s.machine.See(), Name: s.name, Enc: s.text().Enc(), Mark: s.mark}
}

func (e *Editor) register(s api.Step) api.Answer {
	r, err := e.session.machine.Reg(s.N)
	return api.Answer{Reg: r, Err: err}
}

// file tells what a file holds.
func (e *Editor) file(s api.Step) api.Answer {
	held, err := e.disk.Read(s.Name)
	if err != nil {
		return api.Answer{Err: number(err)}
	}
	data := make([]byte, len(held))
	copy(data, held)
	return api.Answer{Data: data}
}

func (e *Editor) names(api.Step) api.Answer {
	if e.disk.Down() {
		return api.Answer{Err: api.ErrDown}
	}
	return api.Answer{Names: e.disk.Names()}
}

func (e *Editor) faults(s api.Step) api.Answer {
	e.disk.Plan(s.Faults)
	return api.Answer{}
}

// restart loses the power, where it is not lost already, and begins anew with what is left.
func (e *Editor) restart(s api.Step) api.Answer {
	if !e.disk.Down() {
		e.disk.Crash(s.Cut)
	}
	e.disk.Restart()
	return api.Answer{Err: e.begin(s.Name)}
}

// poke is another program that writes a file.
func (e *Editor) poke(s api.Step) api.Answer {
	return api.Answer{Err: number(e.disk.Put(s.Name, s.Data))}
}

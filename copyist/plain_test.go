package copyist_test

import (
	"slices"

	"copyist/api"
	"copyist/codec"
	"copyist/disk"
	"copyist/modal"
	"copyist/save"
)

// plain is the chapter read plainly: each sentence is done as it stands, one behind the other.
type plain struct {
	d     *disk.Disk
	setup api.Setup
	live  bool
	m     *modal.Machine
	f     *save.File
	name  string
	enc   int
	mark  int
}

// errno takes the number out of an error of the disk, by hand.
func errno(err error) api.Errno {
	if err == nil {
		return api.OK
	}
	return err.(*disk.Fail).Err.(api.Errno)
}

func plainOn(d *disk.Disk, s api.Setup) (*plain, api.Errno) {
	if !slices.Contains([]int{api.Auto, api.UTF8, api.UTF16LE, api.UTF16BE, api.Latin1}, s.Enc) {
		return nil, api.ErrEnc
	}
	if s.Limit < 0 || s.Limit > 65536 || !slices.Contains([]int{api.LF, api.CRLF, api.CR}, s.Native) || s.Depth < 1 || s.Depth > 200 || s.Height < 1 || s.Height > 200 {
		return nil, api.ErrArg
	}
	for _, f := range s.Files {
		if err := d.Put(f.Name, f.Data); err != nil {
			return nil, errno(err)
		}
	}
	p := &plain{d: d, setup: s}
	if err := p.begin(s.Name); err != api.OK {
		return nil, err
	}
	return p, api.OK
}

func (p *plain) begin(name string) api.Errno {
	*p = plain{d: p.d, setup: p.setup}
	if err := save.Tidy(p.d); err != api.OK {
		return err
	}
	if name == "" {
		enc := p.setup.Enc
		if enc == api.Auto {
			enc = api.UTF8
		}
		p.become(nil, "", api.Loaded{Enc: enc})
		return api.OK
	}
	f, l, err := save.Open(p.d, name, p.setup.Enc, p.setup.Limit)
	if err != api.OK {
		return err
	}
	p.become(f, name, l)
	return api.OK
}

func (p *plain) become(f *save.File, name string, l api.Loaded) {
	m, err := modal.New(l.Enc, l.Data, p.setup.Limit, p.setup.Native, p.setup.Depth, p.setup.Height)
	if err != api.OK {
		panic("what was loaded is refused")
	}
	p.live, p.m, p.f, p.name, p.enc, p.mark = true, m, f, name, l.Enc, l.Mark
}

func (p *plain) Do(s api.Step) api.Answer {
	needs := []int{api.StepKey, api.StepKeys, api.StepSee, api.StepReg}
	if s.Kind == api.StepKeys && len(s.Keys) > 4096 {
		return api.Answer{Err: api.ErrLong}
	}
	if !p.live && slices.Contains(needs, s.Kind) {
		return api.Answer{Err: api.ErrGone}
	}
	switch s.Kind {
	case api.StepKey:
		return api.Answer{Err: p.key(s.N)}
	case api.StepKeys:
		for n, k := range s.Keys {
			if err := p.key(k); err != api.OK {
				return api.Answer{N: n, Err: err}
			}
		}
		return api.Answer{N: len(s.Keys)}
	case api.StepSee:
		return api.Answer{Sight: p.m.See(), Name: p.name, Enc: p.enc, Mark: p.mark}
	case api.StepReg:
		r, err := p.m.Desk().Bank.Get(s.N)
		if err != api.OK {
			return api.Answer{Err: err}
		}
		return api.Answer{Reg: r}
	case api.StepFile:
		b, err := p.d.Read(s.Name)
		if err != nil {
			return api.Answer{Err: errno(err)}
		}
		return api.Answer{Data: b}
	case api.StepNames:
		if p.d.Down() {
			return api.Answer{Err: api.ErrDown}
		}
		return api.Answer{Names: p.d.Names()}
	case api.StepFaults:
		p.d.Plan(s.Faults)
		return api.Answer{}
	case api.StepRestart:
		if !p.d.Down() {
			p.d.Crash(s.Cut)
		}
		p.d.Restart()
		return api.Answer{Err: p.begin(s.Name)}
	case api.StepPoke:
		return api.Answer{Err: errno(p.d.Put(s.Name, s.Data))}
	}
	return api.Answer{Err: api.ErrArg}
}

func (p *plain) key(k int) api.Errno {
	if !p.live {
		return api.ErrGone
	}
	w, err := p.m.Key(k)
	if err != api.OK {
		return err
	}
	dirty := p.m.Desk().Book.Dirty()
	switch w.Verb {
	case api.XWrite:
		return p.write(w.Name, w.Force)
	case api.XFile:
		return p.file(w.Name)
	case api.XEdit:
		if dirty && !w.Force {
			return api.ErrDirty
		}
		return p.edit(w.Name)
	case api.XQuit:
		if dirty && !w.Force {
			return api.ErrDirty
		}
		p.live = false
	case api.XWriteQuit:
		return p.writeQuit(w)
	case api.XExit:
		if dirty || w.Name != "" {
			return p.writeQuit(w)
		}
		p.live = false
	case api.XRead:
		return p.read(w)
	}
	return api.OK
}

func (p *plain) save(force bool) api.Errno {
	if err := p.f.Save(p.m.Desk().Book.Text(), force); err != api.OK {
		return err
	}
	p.m.Desk().Book.Saved()
	return api.OK
}

func (p *plain) write(name string, force bool) api.Errno {
	if name == p.name {
		name = ""
	}
	if name == "" {
		if p.name == "" {
			return api.ErrNoName
		}
		return p.save(force)
	}
	if !save.Name(name) {
		return api.ErrName
	}
	if p.name == "" {
		if err := p.file(name); err != api.OK {
			return err
		}
		return p.save(force)
	}
	return p.f.Copy(name, p.m.Desk().Book.Text(), force)
}

func (p *plain) file(name string) api.Errno {
	if name == "" {
		return api.OK
	}
	if !save.Name(name) {
		return api.ErrName
	}
	if name == p.name {
		return api.OK
	}
	if p.name != "" {
		if err := p.f.As(name); err != api.OK {
			return err
		}
		p.name = name
		return api.OK
	}
	f, l, err := save.Open(p.d, name, p.enc, p.setup.Limit)
	if err != api.OK {
		return err
	}
	if !l.New {
		return api.ErrExists
	}
	p.f, p.name = f, name
	return api.OK
}

func (p *plain) edit(name string) api.Errno {
	if name == "" {
		name = p.name
	}
	if name == "" {
		return api.ErrNoName
	}
	if !save.Name(name) {
		return api.ErrName
	}
	f, l, err := save.Open(p.d, name, p.setup.Enc, p.setup.Limit)
	if err != api.OK {
		return err
	}
	old := p.m.Desk()
	p.become(f, name, l)
	now := p.m.Desk()
	now.Bank = old.Bank
	now.Find = old.Find
	now.Sub = old.Sub
	now.Set.IgnoreCase = old.Set.IgnoreCase
	now.Set.NoWrap = old.Set.NoWrap
	return api.OK
}

func (p *plain) writeQuit(w api.Wish) api.Errno {
	err := p.write(w.Name, w.Force)
	if err == api.OK {
		p.live = false
	}
	return err
}

func (p *plain) read(w api.Wish) api.Errno {
	name := w.Name
	if name == "" {
		name = p.name
	}
	if name == "" {
		return api.ErrNoName
	}
	if !save.Name(name) {
		return api.ErrName
	}
	_, l, err := save.Open(p.d, name, p.enc, 65536)
	if err != api.OK {
		return err
	}
	if l.New {
		return api.ErrMissing
	}
	atoms, err := codec.Decode(p.enc, l.Data)
	if err != api.OK {
		panic("no encoding")
	}
	return p.m.Bring(w.Line, atoms)
}

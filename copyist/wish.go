package copyist

import (
	"cmp"

	"copyist/api"
	"copyist/codec"
	"copyist/save"
)

// favour is what is done for a wish.
type favour struct {
	do   func(e *Editor, w api.Wish) api.Errno
	ends bool // the session ends behind it, if it went well
}

// favours leads from a wish's verb to what is done for it.
func favours() map[int]favour {
	return map[int]favour{
		api.XWrite:     {do: (*Editor).write},
		api.XFile:      {do: (*Editor).rename},
		api.XEdit:      {do: (*Editor).edit},
		api.XRead:      {do: (*Editor).read},
		api.XQuit:      {do: (*Editor).leave, ends: true},
		api.XWriteQuit: {do: (*Editor).write, ends: true},
		api.XExit:      {do: (*Editor).writeChanges, ends: true},
	}
}

// grant does what a command line asks for.
func (e *Editor) grant(w api.Wish) api.Errno {
	f := favours()[w.Verb]
	if err := f.do(e, w); err != api.OK {
		return err
	}
	if f.ends {
		e.session = nil
	}
	return api.OK
}

// write saves the text: to its own file, or to another, which stays another one; but a text without a name takes the one that is given.
func (e *Editor) write(w api.Wish) api.Errno {
	s := e.session
	switch {
	case w.Name == "" && s.name == "":
		return api.ErrNoName
	case w.Name == "" || w.Name == s.name:
		return s.save(w.Force)
	case !save.Name(w.Name):
		return api.ErrName
	case s.name != "":
		return s.file.Copy(w.Name, s.text(), w.Force)
	}
	if err := e.takeName(w.Name); err != api.OK {
		return err
	}
	return s.save(w.Force)
}

// save writes the text's own file.
func (s *session) save(force bool) api.Errno {
	err := s.file.Save(s.text(), force)
	if err == api.OK {
		s.machine.Desk().Book.Saved()
	}
	return err
}

// writeChanges saves a text that has changed, or that is to be saved to a file that is named.
func (e *Editor) writeChanges(w api.Wish) api.Errno {
	if w.Name == "" && !e.session.isDirty() {
		return api.OK
	}
	return e.write(w)
}

// rename gives the text another name.
func (e *Editor) rename(w api.Wish) api.Errno {
	s := e.session
	switch {
	case w.Name == "":
		return api.OK
	case !save.Name(w.Name):
		return api.ErrName
	case w.Name == s.name:
		return api.OK
	case s.name == "":
		return e.takeName(w.Name)
	}
	err := s.file.As(w.Name)
	if err == api.OK {
		s.name = w.Name
	}
	return err
}

// takeName gives a text that has none its first name, where there is no file yet.
func (e *Editor) takeName(name string) api.Errno {
	s := e.session
	file, loaded, err := save.Open(e.disk, name, s.text().Enc(), e.terms.limit)
	if err != api.OK {
		return err
	}
	if !loaded.New {
		return api.ErrExists
	}
	s.file, s.name = file, name
	return api.OK
}

// leave lets go of the text, unless changes would be lost that nobody gives up.
func (e *Editor) leave(w api.Wish) api.Errno {
	if e.session.isDirty() && !w.Force {
		return api.ErrDirty
	}
	return api.OK
}

// edit goes on to another file, or loads the text's own again.
func (e *Editor) edit(w api.Wish) api.Errno {
	if err := e.leave(w); err != api.OK {
		return err
	}
	name, err := e.session.meant(w)
	if err != api.OK {
		return err
	}
	next, err := e.load(name)
	if err != api.OK {
		return err
	}
	next.inherit(e.session)
	e.session = next
	return api.OK
}

// meant is the name that is given, or the text's own.
func (s *session) meant(w api.Wish) (string, api.Errno) {
	name := cmp.Or(w.Name, s.name)
	if name == "" {
		return "", api.ErrNoName
	}
	return name, api.OK
}

// inherit takes over what lasts from file to file.
func (s *session) inherit(from *session) {
	desk, old := s.machine.Desk(), from.machine.Desk()
	desk.Bank, desk.Find, desk.Sub = old.Bank, old.Find, old.Sub
	desk.Set.IgnoreCase, desk.Set.NoWrap = old.Set.IgnoreCase, old.Set.NoWrap
}

// read brings the text of a file into this one.
func (e *Editor) read(w api.Wish) api.Errno {
	s := e.session
	name, err := s.meant(w)
	if err != api.OK {
		return err
	}
	enc := s.text().Enc()
	_, loaded, err := save.Open(e.disk, name, enc, api.MaxBytes)
	if err != api.OK {
		return err
	}
	if loaded.New {
		return api.ErrMissing
	}
	atoms, err := codec.Decode(enc, loaded.Data)
	if err != api.OK {
		return err
	}
	return s.machine.Bring(w.Line, atoms)
}

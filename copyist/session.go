package copyist

import (
	"cmp"

	"copyist/api"
	"copyist/modal"
	"copyist/piece"
	"copyist/save"
)

// session is a text under way, and the file that it belongs to.
type session struct {
	machine *modal.Machine
	file    *save.File // nil: it belongs to none, and has no name
	name    string
	mark    int // bytes of the mark that the file had when it was opened
}

func (s *session) text() *piece.Text { return s.machine.Desk().Book.Text() }

func (s *session) isDirty() bool { return s.machine.Desk().Book.Dirty() }

// begin begins a session on a file, in the place of the one that was. Refused, there is none.
func (e *Editor) begin(name string) api.Errno {
	e.session = nil
	if err := save.Tidy(e.disk); err != api.OK {
		return err
	}
	s, err := e.load(name)
	e.session = s
	return err
}

// load makes a session of what a file holds; without a name: of nothing.
func (e *Editor) load(name string) (*session, api.Errno) {
	if name == "" {
		return e.made(session{}, api.Loaded{Enc: cmp.Or(e.terms.enc, api.UTF8)})
	}
	file, loaded, err := save.Open(e.disk, name, e.terms.enc, e.terms.limit)
	if err != api.OK {
		return nil, err
	}
	return e.made(session{file: file, name: name, mark: loaded.Mark}, loaded)
}

// made gives a session its machine.
func (e *Editor) made(s session, l api.Loaded) (*session, api.Errno) {
	t := e.terms
	machine, err := modal.New(l.Enc, l.Data, t.limit, t.native, t.depth, t.height)
	if err != api.OK {
		return nil, err
	}
	s.machine = machine
	return &s, api.OK
}

// press takes a key, and does what it asks for.
func (e *Editor) press(key int) api.Errno {
	if e.session == nil {
		return api.ErrGone
	}
	wish, err := e.session.machine.Key(key)
	if err != api.OK || wish.Verb == 0 {
		return err
	}
	return e.grant(wish)
}

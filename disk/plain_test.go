package disk_test

import (
	"slices"
	"strings"

	"copyist/api"
)

// plain is the chapter's disk told plainly: a value that is copied whole, with every directory that was seen since the one that lasts.
type plain struct {
	space  int
	files  []plainFile // by their numbers, from 1 on; lost ones too
	states [][]entry   // the first one lasts, the last one is seen
	down   bool
	plan   []api.Fault
	steps  int
}

type plainFile struct {
	bytes         string
	synced, count int
}

type entry struct {
	name string
	file int
}

// told is all that a call answers.
type told struct {
	n     int
	bytes string
	stamp api.Stamp
	op    string
	name  string
	step  int
	err   api.Errno
}

func newPlain(space int) *plain {
	return &plain{space: space, states: [][]entry{nil}}
}

func (p *plain) copied() *plain {
	q := *p
	q.files = slices.Clone(p.files)
	q.states = slices.Clone(p.states)
	return &q
}

func (p *plain) seen() []entry { return p.states[len(p.states)-1] }

func (p *plain) lookup(name string) int {
	for _, e := range p.seen() {
		if e.name == name {
			return e.file
		}
	}
	return 0
}

func (p *plain) used() int {
	n := 0
	for _, e := range p.seen() {
		n += len(p.files[e.file-1].bytes)
	}
	return n
}

// without is a directory in which some names are free.
func without(dir []entry, names ...string) []entry {
	var out []entry
	for _, e := range dir {
		if !slices.Contains(names, e.name) {
			out = append(out, e)
		}
	}
	return out
}

// plainName goes by the list of letters that a name may have.
func plainName(s string) bool {
	const letters = "abcdefghijklmnopqrstuvwxyzABCDEFGHIJKLMNOPQRSTUVWXYZ0123456789._-~"
	for i := range len(s) {
		if strings.IndexByte(letters, s[i]) < 0 {
			return false
		}
	}
	return len(s) >= 1 && len(s) <= 32
}

func (p *plain) add() int {
	p.files = append(p.files, plainFile{})
	return len(p.files)
}

func (p *plain) put(name, b string) api.Errno {
	switch at := p.lookup(name); {
	case p.down:
		return api.ErrDown
	case !plainName(name):
		return api.ErrName
	case at == 0 && len(p.seen()) >= 16:
		return api.ErrSpace
	case at == 0 && p.used()+len(b) > p.space:
		return api.ErrSpace
	case at != 0 && p.used()-len(p.files[at-1].bytes)+len(b) > p.space:
		return api.ErrSpace
	}
	p.states = [][]entry{p.seen()}
	at := p.lookup(name)
	if at == 0 {
		at = p.add()
		p.states[0] = append(slices.Clone(p.states[0]), entry{name, at})
	}
	p.files[at-1] = plainFile{b, len(b), p.files[at-1].count + 1}
	return api.OK
}

// bare is a step that no fault meets. most: how many bytes an append may write.
func (p *plain) bare(c call, most int) told {
	at := p.lookup(c.name)
	switch {
	case c.op == "syncdir":
		p.states = p.states[len(p.states)-1:]
		return told{}
	case !plainName(c.name) || c.op == "rename" && !plainName(c.to):
		return told{err: api.ErrName}
	case c.op == "make" && at != 0:
		return told{err: api.ErrExists}
	case c.op == "make" && len(p.seen()) >= 16:
		return told{err: api.ErrSpace}
	case c.op == "make":
		p.states = append(p.states, append(slices.Clone(p.seen()), entry{c.name, p.add()}))
		return told{}
	case at == 0:
		return told{err: api.ErrMissing}
	}
	switch c.op {
	case "append":
		n := 0
		for n < min(len(c.data), most) && p.used() < p.space {
			p.files[at-1].bytes += c.data[n : n+1]
			n++
		}
		if n > 0 {
			p.files[at-1].count++
		}
		if n < len(c.data) {
			return told{n: n, err: api.ErrSpace}
		}
		return told{n: n}
	case "sync":
		p.files[at-1].synced = len(p.files[at-1].bytes)
	case "rename":
		if c.name != c.to {
			p.states = append(p.states, append(without(p.seen(), c.name, c.to), entry{c.to, at}))
		}
	case "remove":
		p.states = append(p.states, without(p.seen(), c.name))
	case "read":
		return told{bytes: p.files[at-1].bytes}
	case "stamp":
		return told{stamp: api.Stamp{at, len(p.files[at-1].bytes), p.files[at-1].count}}
	}
	return told{}
}

func (p *plain) fault(step int) api.Fault {
	for _, f := range p.plan {
		if f.Step == step && f.Kind >= 1 && f.Kind <= 5 {
			return f
		}
	}
	return api.Fault{}
}

// faulty is a step, and what its fault makes of it: the disk behind the bare step is kept or thrown away.
func (p *plain) faulty(c call) told {
	f := p.fault(p.steps)
	done := p.copied()
	bare := done.bare(c, len(c.data))
	switch f.Kind {
	case api.FaultRefuse:
		return told{err: api.ErrIO}
	case api.FaultPart:
		if c.op != "append" {
			return told{err: api.ErrIO}
		}
		part := p.bare(c, f.Part)
		if part.err == api.OK || part.err == api.ErrSpace {
			part.err = api.ErrIO
		}
		return part
	case api.FaultAhead:
		p.crash(f.Cut)
		return told{err: api.ErrDown}
	case api.FaultBehind:
		*p = *done
		p.crash(f.Cut)
		return told{err: api.ErrDown}
	case api.FaultLie:
		*p = *done
		if bare.err != api.OK {
			return bare
		}
		return told{n: bare.n, err: api.ErrIO}
	}
	*p = *done
	return bare
}

func (p *plain) crash(c api.Cut) {
	if p.down {
		return
	}
	left := p.states[min(max(c.Names, 0), len(p.states)-1)]
	left = slices.SortedFunc(slices.Values(left), func(a, b entry) int { return strings.Compare(a.name, b.name) })
	for i, e := range left {
		f := &p.files[e.file-1]
		keep := f.synced
		for i < len(c.Bytes) && keep < len(f.bytes) && keep-f.synced < c.Bytes[i] {
			keep++
		}
		f.bytes, f.synced = f.bytes[:keep], keep
	}
	p.states = [][]entry{left}
	p.down = true
}

func (p *plain) restart() {
	if p.down {
		p.down, p.plan, p.steps = false, nil, 0
	}
}

func (p *plain) names() []string {
	var out []string
	for _, e := range p.seen() {
		if !p.down {
			out = append(out, e.name)
		}
	}
	slices.Sort(out)
	return out
}

// do is one call of any kind.
func (p *plain) do(c call) told {
	switch c.op {
	case "plan":
		p.plan, p.steps = c.faults, 0
		return told{}
	case "crash":
		p.crash(c.cut)
		return told{}
	case "restart":
		p.restart()
		return told{}
	case "put":
		if err := p.put(c.name, c.data); err != api.OK {
			return told{op: "put", name: c.name, err: err}
		}
		return told{}
	}
	if p.down {
		return told{op: c.op, name: c.name, err: api.ErrDown}
	}
	p.steps++
	step := p.steps
	a := p.faulty(c)
	if a.err != api.OK {
		a.op, a.name, a.step = c.op, c.name, step
	}
	return a
}

package ex

import (
	"strings"

	"copyist/api"
)

// command is what a name of a command line stands for.
type command interface {
	verb() int
	tail() []part // what follows the name
}

// deed is a command that is done on the desk.
type deed interface {
	command
	do(j *job, x api.Ex, s stretch) api.Errno
}

// kind tells commands of one type apart.
type kind int

func (k kind) verb() int { return int(k) }

// entry is a row of the table of commands.
type entry struct {
	names string // with blanks between them; the first one is printed
	command
}

func (e entry) first() string {
	name, _, _ := strings.Cut(e.names, " ")
	return name
}

// entries is the table of all commands.
func entries() []entry {
	return []entry{
		{"", goes{}},
		{"d delete", deletes{}},
		{"y yank", yanks{}},
		{"pu put", puts{}},
		{"m move", moves{}},
		{"t co copy", copies{}},
		{"j join", joins{}},
		{">", shifts{api.XRight}},
		{"<", shifts{api.XLeft}},
		{"s substitute", substitutes{}},
		{"&", repeats{}},
		{"g global", global{api.XGlobal}},
		{"v vglobal", global{api.XGlobalNot}},
		{"k mark", marks{}},
		{"u undo", travels{api.XUndo}},
		{"red redo", travels{api.XRedo}},
		{"set se", sets{}},
		{"w write", wishes{api.XWrite}},
		{"e edit", wishes{api.XEdit}},
		{"wq", wishes{api.XWriteQuit}},
		{"x exit", wishes{api.XExit}},
		{"q quit", wishes{api.XQuit}},
		{"r read", wishes{api.XRead}},
		{"f file", wishes{api.XFile}},
	}
}

// commands leads from each name to its command.
func commands() map[string]command {
	named := make(map[string]command)
	for _, e := range entries() {
		for _, name := range strings.Fields(e.names) {
			named[name] = e.command
		}
	}
	return named
}

// entryOf tells the row of a verb, if it has one.
func entryOf(verb int) (entry, bool) {
	for _, e := range entries() {
		if e.verb() == verb {
			return e, true
		}
	}
	return entry{}, false
}

// takesLines tells whether addresses may stand ahead of a command.
func takesLines(c command) bool {
	switch c := c.(type) {
	case travels, sets:
		return false
	case wishes:
		return c.kind == api.XRead
	}
	return true
}

// takesTop tells whether a command takes the line ahead of the first one.
func takesTop(c command) bool {
	switch c := c.(type) {
	case goes, puts:
		return true
	case wishes:
		return c.kind == api.XRead
	}
	return false
}

// mayChange tells whether a command may change the text, and so has a group.
func mayChange(c command) bool {
	switch c.(type) {
	case goes, yanks, marks, travels, sets, wishes:
		return false
	}
	return true
}

// mayNest tells whether a command may be done on each line that a global one finds.
func mayNest(c command) bool {
	switch c.(type) {
	case global, travels, sets, wishes:
		return false
	}
	return true
}

// isMild tells whether an error of a command is none, where a global one does it.
func isMild(c command, err api.Errno) bool {
	switch c.(type) {
	case substitutes, repeats:
		return err == api.ErrMatch
	case joins:
		return err == api.ErrNothing
	}
	return false
}

package modal

import (
	"slices"

	"copyist/api"
)

// deed is what a command does.
type deed struct {
	do    func(c api.Cmd) api.Errno
	lands bool // behind it the goal is the cursor's column
	again bool // the dot does it again
}

// deeds are by the command's verb.
type deeds [api.VSwap + 1]deed

// normalDeeds are the commands of the mode Normal.
func (m *Machine) normalDeeds() deeds {
	all := m.sharedDeeds()
	for _, verb := range []int{api.VDelete, api.VChange, api.VUpper, api.VLower, api.VFlip, api.VRight, api.VLeft} {
		all[verb] = deed{do: m.operate, lands: true, again: true}
	}
	for _, verb := range []int{api.VInsert, api.VAppend, api.VInsertFirst, api.VAppendEnd, api.VOpen, api.VOpenUp, api.VReplace} {
		all[verb] = deed{do: m.beginTyping, again: true}
	}
	all[api.VMove] = deed{do: m.move}
	all[api.VYank] = deed{do: m.operate, lands: true}
	all[api.VOver] = deed{do: m.over, lands: true, again: true}
	all[api.VPut] = deed{do: m.putRegister, lands: true, again: true}
	all[api.VPutUp] = deed{do: m.putRegister, lands: true, again: true}
	all[api.VJoin] = deed{do: m.join, lands: true, again: true}
	all[api.VJoinBare] = deed{do: m.join, lands: true, again: true}
	all[api.VFlipChar] = deed{do: m.flipChars, lands: true, again: true}
	all[api.VUndo] = deed{do: m.undo, lands: true}
	all[api.VRedo] = deed{do: m.redo, lands: true}
	all[api.VSubAgain] = deed{do: m.substituteAgain} // the command line sees to the goal
	all[api.VReselect] = deed{do: m.reselect, lands: true}
	all[api.VDot] = deed{do: m.dot}
	all[api.VCommand] = deed{do: m.beginLine}
	all[api.VSaveQuit] = deed{do: m.leave}
	all[api.VQuit] = deed{do: m.leave}
	return all
}

// selectionDeeds are the commands in a selection.
func (m *Machine) selectionDeeds() deeds {
	all := m.sharedDeeds()
	for _, verb := range []int{api.VDelete, api.VChange, api.VYank, api.VUpper, api.VLower, api.VFlip, api.VRight, api.VLeft} {
		all[verb] = deed{do: m.ending(m.operateSelected), lands: true}
	}
	all[api.VMove] = deed{do: m.moveEnd}
	all[api.VSwap] = deed{do: m.swapEnds, lands: true}
	all[api.VOver] = deed{do: m.ending(m.overSelected), lands: true}
	all[api.VPut] = deed{do: m.ending(m.putSelected), lands: true}
	all[api.VPutUp] = deed{do: m.ending(m.putSelected), lands: true}
	all[api.VJoin] = deed{do: m.ending(m.joinSelected), lands: true}
	all[api.VJoinBare] = deed{do: m.ending(m.joinSelected), lands: true}
	all[api.VCommand] = deed{do: m.ending(m.beginSelectedLine)}
	return all
}

// sharedDeeds are those that go the same way in every mode.
func (m *Machine) sharedDeeds() deeds {
	return deeds{
		api.VVisual:     {do: m.visual},
		api.VVisualLine: {do: m.visual},
		api.VMark:       {do: m.setMark},
		api.VRecord:     {do: m.beginRecording},
		api.VPlay:       {do: m.playRegister},
		api.VPageDown:   {do: m.scrollPages},
		api.VPageUp:     {do: m.scrollPages},
		api.VHalfDown:   {do: m.scrollHalf},
		api.VHalfUp:     {do: m.scrollHalf},
		api.VRowDown:    {do: m.scrollRows},
		api.VRowUp:      {do: m.scrollRows},
		api.VTop:        {do: m.scrollTo},
		api.VMiddle:     {do: m.scrollTo},
		api.VBottom:     {do: m.scrollTo},
	}
}

// commandKey is a key in the modes Normal, Visual and VisualLine.
func (m *Machine) commandKey(key int) api.Errno {
	if m.endsRecording(key) {
		return m.endRecording()
	}
	idle := key == api.KeyEscape && m.isIdle()
	c, say := m.parser.Feed(m.mode, key)
	switch say {
	case api.KeyDone:
		return m.command(c)
	case api.KeyBad:
		return api.ErrKey
	case api.KeyStop:
		if idle && m.isSelecting() {
			m.endSelection()
		}
	}
	return api.OK
}

// isIdle tells whether no keys wait for more.
func (m *Machine) isIdle() bool { return len(m.parser.Pending()) == 0 }

// command does a command that keys have spelled, or lets it wait for the line that it needs.
func (m *Machine) command(c api.Cmd) api.Errno {
	if isSought(c.Move) {
		m.awaitPattern(c)
		return api.OK
	}
	return m.perform(c)
}

// perform does a command, and keeps it for the dot.
func (m *Machine) perform(c api.Cmd) api.Errno {
	again := m.deed(c).again
	err := m.do(c)
	if err != api.OK || !again {
		return err
	}
	now := change{Cmd: c}
	if isSought(c.Move) {
		now.pattern = slices.Clone(m.Find)
	}
	if m.isTyping() {
		m.typing.change, m.typing.kept = now, true // it is the last change when the typing has ended
	} else {
		m.last = now
	}
	return api.OK
}

// do does a command.
func (m *Machine) do(c api.Cmd) api.Errno {
	d := m.deed(c)
	if d.do == nil {
		return api.ErrKey
	}
	err := d.do(c)
	if err == api.OK && d.lands {
		m.aimHere()
	}
	return err
}

// deed tells what a command does in this mode.
func (m *Machine) deed(c api.Cmd) deed {
	if m.isSelecting() {
		return m.selection[c.Verb]
	}
	return m.normal[c.Verb]
}

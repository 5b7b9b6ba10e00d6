package modal

import (
	"slices"

	"copyist/api"
)

// tape is what is recorded; without a name nothing is.
type tape struct {
	name int
	keys []int
}

// beginRecording gives up what was recorded so far.
func (m *Machine) beginRecording(c api.Cmd) api.Errno {
	if !isSmall(c.Arg) && !isGreat(c.Arg) {
		return api.ErrReg
	}
	m.tape = tape{name: c.Arg}
	return api.OK
}

// record keeps a key that comes from outside. It does so ahead of what the key does: one that plays the end of the recording is a part of it.
func (m *Machine) record(key int) {
	if m.tape.name == 0 || m.endsRecording(key) || len(m.tape.keys) >= api.MaxReg {
		return
	}
	if isScalar(key) && key != lineFeed {
		m.tape.keys = append(m.tape.keys, key)
	}
}

// endsRecording tells whether a key ends what is recorded.
func (m *Machine) endsRecording(key int) bool {
	return key == 'q' && m.tape.name != 0 && (m.mode == api.Normal || m.isSelecting()) && m.isIdle()
}

// endRecording gives the register its keys.
func (m *Machine) endRecording() api.Errno {
	t := m.tape
	m.tape = tape{}
	name, text := small(t.name), t.keys
	if isGreat(t.name) {
		if r, err := m.Bank.Get(name); err == api.OK {
			text = slices.Concat(r.Text, text)
		}
	}
	return m.Bank.Set(name, text)
}

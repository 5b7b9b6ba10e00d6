package modal

import "copyist/api"

// player is what plays keys.
type player struct {
	steps int // how many keys the key from outside has played
	deep  int // how many commands play keys inside one another
	last  int // the register that was played last; 0: none was
}

// isPlaying tells whether a command plays keys.
func (m *Machine) isPlaying() bool { return m.player.deep > 0 }

// playRegister plays what a register holds.
func (m *Machine) playRegister(c api.Cmd) api.Errno {
	name := small(c.Arg)
	if name == played {
		if m.player.last == 0 {
			return api.ErrEmpty
		}
		name = m.player.last
	}
	if !isPlayed(name) {
		return api.ErrReg
	}
	r, err := m.Bank.Get(name)
	if err != api.OK {
		return err
	}
	if m.player.deep == api.MaxDeep {
		return api.ErrInner
	}
	m.player.deep++
	err = m.play(keysOf(r.Text), times(c))
	m.player.deep--
	m.player.last = name
	return err
}

// isPlayed tells whether a register may be played.
func isPlayed(name int) bool {
	return isSmall(name) || name >= '0' && name <= '9' || name == unnamed
}

// keysOf is a text as keys: each break is a return.
func keysOf(text []int) []int {
	var all []int
	for i, atom := range text {
		switch {
		case atom != lineFeed:
			all = append(all, atom)
		case i == 0 || text[i-1] != api.KeyReturn:
			all = append(all, api.KeyReturn)
		}
	}
	return all
}

// play plays keys so many times, up to the first that fails.
func (m *Machine) play(keys []int, count int) (err api.Errno) {
times:
	for range count {
		for _, key := range keys {
			if err = m.playKey(key); err != api.OK {
				break times
			}
		}
	}
	return err
}

func (m *Machine) playKey(key int) api.Errno {
	if m.player.steps == api.MaxKeys {
		return api.ErrSteps
	}
	m.player.steps++
	return m.take(key)
}

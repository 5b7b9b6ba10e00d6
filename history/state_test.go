package history_test

import "testing"

// dirts tells Dirty in the state behind each number of groups done, from the present one on down to none and up again.
func (p *pair) dirts() []bool {
	p.t.Helper()
	n, m := p.b.Depth()
	all := make([]bool, n+m+1)
	for i := n; i > 0; i-- {
		all[i] = p.b.Dirty()
		p.undo()
	}
	for i := range all {
		all[i] = p.b.Dirty()
		if i < len(all)-1 {
			p.redo()
		}
	}
	for range m {
		p.undo()
	}
	return all
}

// P708: Saved in each state of a row, and Dirty in each, on every way back to it.
func TestSavedInEachPlace(t *testing.T) {
	for _, enc := range encodings {
		for save := range 5 {
			for stand := range 5 {
				p := load(t, enc, "abc", 4)
				for range 4 {
					p.group(put(0, 0, "x"))
				}
				for range 4 - save {
					p.undo()
				}
				p.saved()
				for range save {
					p.undo()
				}
				for range stand {
					p.redo()
				}
				for i, dirty := range p.dirts() {
					if dirty != (i != save) {
						t.Fatalf("saved behind %d groups, seen behind %d: dirty %v", save, i, dirty)
					}
				}
			}
		}
	}
}

// P708: the same atoms, typed anew, are another state.
func TestTheSameAtomsAreAnotherState(t *testing.T) {
	p := load(t, 1, "abc", 4)
	p.group(put(3, 3, "d"))
	p.saved()
	p.undo()
	p.depth(0, 1, true)
	p.group(put(3, 3, "d"))
	p.told("abcd", 0, 1, 2, -1)
	p.depth(1, 0, true) // the saved state can't be reached any more
	p.undo()
	p.depth(0, 1, true)
	p.redo()
	p.depth(1, 0, true)
	p.group(put(0, 0, "x"))
	p.group(put(0, 1, ""))
	p.depth(3, 0, true)
	p.saved()
	p.depth(3, 0, false)
}

// P708: taken away by a group, not by an undo: another state.
func TestTakenAwayIsNotUndone(t *testing.T) {
	p := load(t, 1, "abc", 4)
	p.group(put(0, 0, "x"))
	p.group(put(0, 1, ""))
	p.told("abc", 0, 1, 2)
	p.depth(2, 0, true)
	p.undo()
	p.depth(1, 1, true)
	p.undo()
	p.depth(0, 2, false)
}

// P708: the saved state has been forgotten by the depth: every state that is left is dirty.
func TestASavedStateThatIsForgotten(t *testing.T) {
	for _, depth := range []int{1, 2, 5} {
		p := load(t, 4, "abc", depth)
		for i := range depth {
			p.group(put(0, 0, "x"))
			if d := p.dirts(); d[0] || !d[i+1] {
				t.Fatalf("depth %d, %d groups: %v", depth, i+1, d)
			}
		}
		p.group(put(0, 0, "y"))
		for i, dirty := range p.dirts() {
			if !dirty {
				t.Fatalf("depth %d: not dirty behind %d groups, though the saved state is forgotten", depth, i)
			}
		}
		p.saved()
		p.depth(depth, 0, false)
		for range depth {
			p.undo()
			if !p.b.Dirty() {
				t.Fatalf("depth %d: not dirty behind an undo", depth)
			}
		}
		p.saved() // at the oldest that is left
		p.depth(0, depth, false)
		p.redo()
		p.depth(1, depth-1, true)
	}
}

// P708: the saved state among those that could be done again, forgotten by a new group.
func TestASavedStateThatIsGoneByANewGroup(t *testing.T) {
	p := load(t, 2, "abc", 9)
	p.group(put(0, 1, ""))
	p.group(put(0, 1, ""))
	p.saved()
	p.undo()
	p.group(put(0, 1, ""))
	for i, dirty := range p.dirts() {
		if !dirty {
			t.Fatalf("not dirty behind %d groups", i)
		}
	}
}

// P708: while a group is open Saved does nothing, changed or not; Dirty goes by whether the group has a change.
func TestSavedWhileAGroupIsOpen(t *testing.T) {
	p := load(t, 3, "abc", 9)
	p.group(put(0, 0, "x"))
	p.begin(0)
	p.saved() // no change yet, and still nothing
	p.depth(1, 0, true)
	p.end(0)
	p.depth(1, 0, true)
	p.saved()
	p.depth(1, 0, false)
	p.begin(0)
	p.depth(1, 0, false)
	p.change(put(0, 0, ""))
	p.depth(1, 0, false)
	p.change(put(0, 0, "y"))
	p.depth(1, 0, true)
	p.saved()
	p.depth(1, 0, true)
	p.drop()
	p.depth(1, 0, false)
	p.begin(0)
	p.change(put(0, 0, "y"))
	p.saved()
	p.end(0)
	p.depth(2, 0, true)
	p.undo()
	p.depth(1, 1, false)
	p.undo()
	p.depth(0, 2, true)
	p.begin(0) // dirty stays dirty in a group without a change
	p.depth(0, 2, true)
	p.saved()
	p.end(0)
	p.depth(0, 2, true)
}

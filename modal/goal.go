package modal

import "copyist/motion"

// goal is the column that j and k aim at. Where it is an offset's, it is counted only when it is asked for: lines may be long, and few keys ask for it. Whatever changes the text sets another one behind it.
type goal struct {
	at      int
	column  int
	counted bool
}

// aimHere makes the cursor's column the goal.
func (m *Machine) aimHere() { m.goal = goal{at: m.At} }

func (m *Machine) goalColumn() int {
	if !m.goal.counted {
		m.goal = goal{column: motion.Column(m.text(), m.goal.at), counted: true}
	}
	return m.goal.column
}

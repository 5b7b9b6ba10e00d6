package pattern

import "copyist/api"

// node is what a stretch of a pattern says.
type node interface {
	parts() int  // written out; tooMany, if there are more than may be
	empty() bool // whether it may have a way that takes nothing
}

type (
	choice []node // rows, the best one first
	row    []node
	group  struct {
		number int
		inner  node
	}
	times struct {
		thing       node
		least, most int
		few         bool // the fewer the better
	}
	edge int
)

// The edges.
const (
	lineBegin edge = iota
	lineEnd
	wordBegin
	wordEnd
)

// endless is a most that is none: above every number that may be written.
const endless = mostTimes + 1

// tooMany stands for every greater number of parts too, of which some would leave int64.
const tooMany = api.MaxParts + 1

func (c choice) parts() int { return min(sum(c)+len(c)-1, tooMany) }

func (r row) parts() int { return min(sum(r), tooMany) }

func (g *group) parts() int { return min(g.inner.parts()+2, tooMany) }

func (t *times) parts() int { return min(t.copies()*t.thing.parts()+1, tooMany) }

func (*set) parts() int { return 1 }

func (edge) parts() int { return 1 }

func sum(nodes []node) int {
	all := 0
	for _, n := range nodes {
		all += n.parts()
	}
	return all
}

// copies tells how often a thing with a times counts.
func (t *times) copies() int {
	if t.most == endless {
		return t.least + 1
	}
	return max(t.most, 1)
}

func (c choice) empty() bool {
	for _, row := range c {
		if row.empty() {
			return true
		}
	}
	return false
}

func (r row) empty() bool {
	for _, member := range r {
		if !member.empty() {
			return false
		}
	}
	return true
}

func (g *group) empty() bool { return g.inner.empty() }

func (t *times) empty() bool { return t.least == 0 || t.thing.empty() }

func (*set) empty() bool { return false }

func (edge) empty() bool { return true }

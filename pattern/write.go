package pattern

import "slices"

// program is a pattern that has been written out: every thing stands as often in it as it may be taken, so that a way through it needs no counts.
type program struct {
	steps  []step
	first  int
	meets  int  // numbers of meeting points, of each as many as its way may have moved
	asked  kind // by any step
	ignore bool
}

// step is what a way does next.
type step struct {
	act   act
	next  int
	other int  // fork: where the way goes on that is not so good
	set   *set // take
	arg   int  // watch: the edge; mark: the place in a match
	depth int  // how many things with a times it lies in that must not be taken empty
	meet  int  // the first of its numbers, if several ways lead here; else -1
}

type act int

const (
	accept act = iota
	fork
	take
	watch
	mark
	leave
)

// written writes a pattern out.
func written(whole node, ignore bool) program {
	w := writer{}
	p := program{first: w.write(whole, w.add(step{act: accept}), 0), ignore: ignore}
	p.steps, p.asked = w.steps, w.asked
	p.meets = numberMeets(p.steps, p.first)
	return p
}

type writer struct {
	steps []step
	asked kind
}

func (w *writer) add(s step) int {
	w.steps = append(w.steps, s)
	return len(w.steps) - 1
}

// write writes a node out ahead of a step, and tells where it begins.
func (w *writer) write(n node, next, depth int) int {
	switch n := n.(type) {
	case choice:
		return w.choice(n, next, depth)
	case row:
		for _, member := range slices.Backward(n) {
			next = w.write(member, next, depth)
		}
	case *group:
		next = w.add(step{act: mark, arg: 2*n.number + 1, next: next, depth: depth})
		next = w.write(n.inner, next, depth)
		next = w.add(step{act: mark, arg: 2 * n.number, next: next, depth: depth})
	case *times:
		return w.times(n, next, depth)
	case *set:
		w.asked |= n.kinds
		return w.add(step{act: take, set: n, next: next, depth: depth})
	case edge:
		if n == wordBegin || n == wordEnd {
			w.asked |= word
		}
		return w.add(step{act: watch, arg: int(n), next: next, depth: depth})
	}
	return next
}

func (w *writer) choice(rows choice, next, depth int) int {
	last := len(rows) - 1
	begin := w.write(rows[last], next, depth)
	for _, row := range slices.Backward(rows[:last]) {
		begin = w.add(step{act: fork, next: w.write(row, next, depth), other: begin, depth: depth})
	}
	return begin
}

func (w *writer) times(t *times, next, depth int) int {
	if t.thing.parts() == 0 {
		// It takes nothing and tells nothing, however often; and its copies are not among the parts, so there may be very many.
		return next
	}
	end := next
	if t.most == endless {
		next = w.add(step{act: fork, depth: depth})
		w.steps[next] = t.fork(w.onward(t.thing, next, depth), end, depth)
	} else {
		for range t.most - t.least {
			next = w.add(t.fork(w.onward(t.thing, next, depth), end, depth))
		}
	}
	for range t.least {
		next = w.write(t.thing, next, depth)
	}
	return next
}

// fork parts the ways that take the thing once more from the one that ends.
func (t *times) fork(again, end, depth int) step {
	if t.few {
		again, end = end, again
	}
	return step{act: fork, next: again, other: end, depth: depth}
}

// onward writes a thing out of which only those ways count that take something.
func (w *writer) onward(thing node, next, depth int) int {
	if !thing.empty() {
		return w.write(thing, next, depth)
	}
	next = w.add(step{act: leave, next: next, depth: depth + 1})
	return w.write(thing, next, depth+1)
}

// numberMeets gives numbers to the steps to which several others lead: there alone ways can come together, so it is enough to look there whether one has been gone.
func numberMeets(steps []step, first int) int {
	ahead := make([]int, len(steps))
	ahead[first]++
	for _, s := range steps {
		switch s.act {
		case accept:
			continue
		case fork:
			ahead[s.other]++
		}
		ahead[s.next]++
	}
	meets := 0
	for i := range steps {
		steps[i].meet = -1
		if ahead[i] > 1 && steps[i].act != accept {
			steps[i].meet = meets
			meets += steps[i].depth + 1
		}
	}
	return meets
}

package keys

import "copyist/api"

// Trie keeps values by rows of keys, none of which begins another. The zero value is an empty one.
type Trie[V any] struct {
	// steps lead from place to place. A row has a place of its own only if it is on the way to
	// a value: so what ends at a place without one wants more keys.
	steps  map[step]int
	places []place[V] // by number; the first is that of the empty row
}

// step is a key at a place.
type step struct{ from, key int }

// place is what stands at the end of a row.
type place[V any] struct {
	value V
	has   bool
}

// Put gives a row of keys its value; false, if it has one, or begins another or another begins it, or is empty.
func (t *Trie[V]) Put(v V, keys ...int) bool {
	at, gone := t.walk(keys)
	if gone == len(keys) || t.hasValue(at) {
		return false
	}
	if t.steps == nil {
		t.steps = map[step]int{}
		t.places = make([]place[V], 1)
	}
	for _, key := range keys[gone:] {
		next := len(t.places)
		t.steps[step{at, key}] = next
		t.places = append(t.places, place[V]{})
		at = next
	}
	t.places[at] = place[V]{v, true}
	return true
}

// Look tells the value of a row of keys and KeyDone; KeyMore, if it begins one; else KeyBad.
func (t *Trie[V]) Look(keys ...int) (V, int) {
	at, gone := t.walk(keys)
	switch {
	case gone < len(keys), len(t.places) == 0:
		var none V
		return none, api.KeyBad
	case t.places[at].has:
		return t.places[at].value, api.KeyDone
	}
	var none V
	return none, api.KeyMore
}

// walk goes along the keys as far as there are steps: to which place, and by how many keys.
func (t *Trie[V]) walk(keys []int) (at, gone int) {
	for _, key := range keys {
		next, ok := t.steps[step{at, key}]
		if !ok {
			break
		}
		at = next
		gone++
	}
	return at, gone
}

func (t *Trie[V]) hasValue(at int) bool { return at < len(t.places) && t.places[at].has }

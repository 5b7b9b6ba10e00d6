package keys_test

import (
	"math"
	"math/rand"
	"slices"
	"testing"

	"copyist/api"
	"copyist/keys"
)

// put says what Put answers.
func put[V any](t *testing.T, tr *keys.Trie[V], v V, want bool, row ...int) {
	t.Helper()
	if got := tr.Put(v, row...); got != want {
		t.Fatalf("Put(%v, %v) = %v", v, row, got)
	}
}

// look says what Look answers.
func look[V comparable](t *testing.T, tr *keys.Trie[V], want V, say int, row ...int) {
	t.Helper()
	if got, s := tr.Look(row...); got != want || s != say {
		t.Fatalf("Look(%v) = %v, %d, want %v, %d", row, got, s, want, say)
	}
}

// TestTrie, P1301: rows that are empty, that have a value, that begin another one or are begun by one.
func TestTrie(t *testing.T) {
	var tr keys.Trie[string]
	look(t, &tr, "", api.KeyBad)
	look(t, &tr, "", api.KeyBad, 1)
	put(t, &tr, "none", false)
	look(t, &tr, "", api.KeyBad)
	put(t, &tr, "one", true, 1, 2, 3)
	look(t, &tr, "", api.KeyMore)
	look(t, &tr, "", api.KeyMore, 1)
	look(t, &tr, "", api.KeyMore, 1, 2)
	look(t, &tr, "one", api.KeyDone, 1, 2, 3)
	look(t, &tr, "", api.KeyBad, 1, 2, 3, 4)
	look(t, &tr, "", api.KeyBad, 1, 2, 4)
	look(t, &tr, "", api.KeyBad, 2)
	look(t, &tr, "", api.KeyBad, 2, 3)
	for _, row := range [][]int{{}, {1}, {1, 2}, {1, 2, 3}, {1, 2, 3, 4}, {1, 2, 3, 4, 5}, {1, 2, 3, 3}} {
		put(t, &tr, "two", false, row...)
		look(t, &tr, "one", api.KeyDone, 1, 2, 3)
		look(t, &tr, "", api.KeyBad, 1, 2, 3, 4)
		look(t, &tr, "", api.KeyBad, 1, 2, 3, 3)
	}
	put(t, &tr, "two", true, 1, 2, 4)
	put(t, &tr, "three", true, 1, 3)
	put(t, &tr, "four", true, 2)
	put(t, &tr, "five", false, 2, 1)
	look(t, &tr, "one", api.KeyDone, 1, 2, 3)
	look(t, &tr, "two", api.KeyDone, 1, 2, 4)
	look(t, &tr, "three", api.KeyDone, 1, 3)
	look(t, &tr, "four", api.KeyDone, 2)
	look(t, &tr, "", api.KeyMore, 1, 2)
	look(t, &tr, "", api.KeyBad, 2, 1)
	look(t, &tr, "", api.KeyBad, 3)
}

// TestTrieValues, P1301: values of any type; the zero one is a value too.
func TestTrieValues(t *testing.T) {
	var numbers keys.Trie[int]
	put(t, &numbers, 0, true, 7)
	look(t, &numbers, 0, api.KeyDone, 7)
	put(t, &numbers, 5, false, 7)
	put(t, &numbers, 5, false, 7, 7)
	look(t, &numbers, 0, api.KeyDone, 7)
	look(t, &numbers, 0, api.KeyBad, 7, 7)
	look(t, &numbers, 0, api.KeyMore)

	var nothings keys.Trie[struct{}]
	put(t, &nothings, struct{}{}, true, 1, 2)
	look(t, &nothings, struct{}{}, api.KeyDone, 1, 2)
	look(t, &nothings, struct{}{}, api.KeyMore, 1)

	var errs keys.Trie[error]
	put(t, &errs, nil, true, 1)
	put(t, &errs, error(api.ErrKey), true, 2)
	put(t, &errs, error(api.ErrKey), false, 1)
	look(t, &errs, nil, api.KeyDone, 1)
	look(t, &errs, error(api.ErrKey), api.KeyDone, 2)
	look(t, &errs, nil, api.KeyBad, 3)

	var cmds keys.Trie[api.Cmd]
	put(t, &cmds, cmd(1, 2, 3, 4, 5), true, -1)
	look(t, &cmds, cmd(1, 2, 3, 4, 5), api.KeyDone, -1)

	var lists keys.Trie[[]int]
	if !lists.Put(nil, 4) || !lists.Put([]int{8, 9}, 5) || lists.Put([]int{1}, 4) {
		t.Fatal("Put of lists")
	}
	if l, say := lists.Look(4); l != nil || say != api.KeyDone {
		t.Fatalf("a list that is nil: %v, %d", l, say)
	}
	if l, say := lists.Look(5); !slices.Equal(l, []int{8, 9}) || say != api.KeyDone {
		t.Fatalf("a list: %v, %d", l, say)
	}

	var tries keys.Trie[*keys.Trie[int]]
	put(t, &tries, &numbers, true, 1)
	look(t, &tries, &numbers, api.KeyDone, 1)

	var calls keys.Trie[func() int]
	calls.Put(func() int { return 42 }, 9, 9)
	if f, say := calls.Look(9, 9); say != api.KeyDone || f() != 42 {
		t.Fatal("a function")
	}
	if f, say := calls.Look(9); say != api.KeyMore || f != nil {
		t.Fatal("the beginning of a function's row")
	}
}

// TestTrieKeys, P1301: a key is any int, and none is taken for another.
func TestTrieKeys(t *testing.T) {
	all := append(alphabet(), 27)
	var tr keys.Trie[int]
	for i, key := range all {
		put(t, &tr, i, true, key, 1)
	}
	for i, key := range all {
		look(t, &tr, i, api.KeyDone, key, 1)
		look(t, &tr, 0, api.KeyMore, key)
		look(t, &tr, 0, api.KeyBad, key, 2)
		look(t, &tr, 0, api.KeyBad, key, 1, key)
		put(t, &tr, -1, false, key)
		put(t, &tr, -1, false, key, 1)
	}
	look(t, &tr, 0, api.KeyBad, 5000, 1)
	look(t, &tr, 0, api.KeyBad, math.MinInt+1, 1)
}

// TestTrieOwn, P1301: two tries have nothing in common, and rows that were handed in are neither changed nor kept.
func TestTrieOwn(t *testing.T) {
	var a, b keys.Trie[int]
	row := append(make([]int, 0, 8), 1, 2, 3)
	room := row[:8]
	room[3] = 77
	put(t, &a, 5, true, row...)
	look(t, &b, 0, api.KeyBad)
	put(t, &b, 6, true, row[:2]...)
	look(t, &a, 5, api.KeyDone, row...)
	look(t, &b, 6, api.KeyDone, 1, 2)
	look(t, &a, 0, api.KeyMore, row[:2]...)
	if !slices.Equal(room[:4], []int{1, 2, 3, 77}) {
		t.Fatalf("the row that was handed in is %v", room)
	}
	for i := range room {
		room[i] = 9
	}
	look(t, &a, 5, api.KeyDone, 1, 2, 3)
	look(t, &a, 0, api.KeyBad, 9, 9, 9)
	put(t, &a, 7, true, row...)
	look(t, &a, 7, api.KeyDone, 9, 9, 9)
	look(t, &b, 0, api.KeyBad, 9)
	look(t, &b, 6, api.KeyDone, 1, 2)
}

// TestTrieModel, P1301: what a list of rows answers, by the words of the promise.
func TestTrieModel(t *testing.T) {
	r := rand.New(rand.NewSource(13))
	for range 300 {
		var tr keys.Trie[int]
		var rows [][]int
		for v := range 60 {
			row := make([]int, r.Intn(5))
			for i := range row {
				row[i] = r.Intn(3) - 1
			}
			free := len(row) > 0 && !slices.ContainsFunc(rows, func(o []int) bool { return starts(row, o) || starts(o, row) })
			put(t, &tr, v, free, row...)
			if free {
				rows = append(rows, row)
			} else {
				rows = append(rows, nil)
			}
		}
		for n := range 5 {
			everyRow(n, []int{-1, 0, 1, 2}, func(row []int) {
				v := slices.IndexFunc(rows, func(o []int) bool { return o != nil && slices.Equal(o, row) })
				begins := slices.ContainsFunc(rows, func(o []int) bool { return o != nil && starts(o, row) })
				switch {
				case v >= 0:
					look(t, &tr, v, api.KeyDone, row...)
				case begins:
					look(t, &tr, 0, api.KeyMore, row...)
				default:
					look(t, &tr, 0, api.KeyBad, row...)
				}
			})
		}
	}
}

// starts tells whether a row begins with another one; nil begins none.
func starts(row, with []int) bool {
	return with != nil && row != nil && len(with) <= len(row) && slices.Equal(row[:len(with)], with)
}

// everyRow goes through all rows of n keys of some.
func everyRow(n int, of []int, do func([]int)) {
	row := make([]int, n)
	var fill func(i int)
	fill = func(i int) {
		if i == n {
			do(row)
			return
		}
		for _, key := range of {
			row[i] = key
			fill(i + 1)
		}
	}
	fill(0)
}

// TestTrieGreat: long rows, and many of them.
func TestTrieGreat(t *testing.T) {
	var tr keys.Trie[int]
	long := make([]int, 1<<18)
	put(t, &tr, 1, true, long...)
	look(t, &tr, 1, api.KeyDone, long...)
	look(t, &tr, 0, api.KeyMore, long[1:]...)
	put(t, &tr, 2, false, append(long, 0)...)
	long[len(long)-1] = 1
	put(t, &tr, 3, true, long...)
	look(t, &tr, 3, api.KeyDone, long...)
	for i := range 1 << 17 {
		put(t, &tr, i, true, i+1)
	}
	for i := range 1 << 17 {
		look(t, &tr, i, api.KeyDone, i+1)
	}
}

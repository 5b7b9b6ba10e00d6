package tree_test

import (
	"slices"
	"strings"
	"testing"

	"copyist/api"
	"copyist/tree"
)

type runs = tree.Tree[tree.Run, tree.Runs]

func runsOf(items ...tree.Run) runs { return tree.Of[tree.Run, tree.Runs](items...) }

// spelled is a sum whose Add does not commute: texts put side by side.
type spelled string

func (s spelled) Add(o spelled) spelled { return s + o }

func (s spelled) Key(k int) int {
	switch k {
	case 0:
		return len(s)
	case 1:
		return strings.Count(string(s), "b")
	}
	return 0
}

// syllable is a thing that is measured by a text, which may be empty.
type syllable struct{ text string }

func (s syllable) Measure() spelled { return spelled(s.text) }

type words = tree.Tree[syllable, spelled]

func wordsOf(texts ...string) words {
	return tree.Of[syllable, spelled](syllables(texts)...)
}

func syllables(texts []string) []syllable {
	var l []syllable
	for _, s := range texts {
		l = append(l, syllable{s})
	}
	return l
}

// holds asks a tree everything and holds it against a plain list, word for word as the chapter says it.
func holds[T interface {
	comparable
	tree.Item[M]
}, M interface {
	comparable
	tree.Sum[M]
}](t *testing.T, s tree.Tree[T, M], list []T) {
	t.Helper()
	if s.Size() != len(list) {
		t.Fatalf("Size() = %d; want %d", s.Size(), len(list))
	}
	sums := sumsOf[T, M](list)
	for i := -2; i <= len(list)+2; i++ {
		want, ok := *new(T), i >= 0 && i < len(list)
		if ok {
			want = list[i]
		}
		if got, is := s.At(i); got != want || is != ok {
			t.Fatalf("At(%d) = %v, %v; want %v, %v", i, got, is, want, ok)
		}
		if got, want := s.Upto(i), sums[min(max(i, 0), len(list))]; got != want {
			t.Fatalf("Upto(%d) = %v; want %v", i, got, want)
		}
	}
	if got := s.Sum(); got != sums[len(list)] {
		t.Fatalf("Sum() = %v; want %v", got, sums[len(list)])
	}
	if got := slices.Collect(s.Items(0)); !slices.Equal(got, list) {
		t.Fatalf("Items(0) = %v; want %v", got, list)
	}
	balanced(t, s.Height(), len(list))
}

// finds holds Find against the list's sums, at every number that can matter.
func finds[T tree.Item[M], M tree.Sum[M]](t *testing.T, s tree.Tree[T, M], list []T) {
	t.Helper()
	sums := sumsOf[T, M](list)
	for k := -1; k <= 2; k++ {
		for n := -2; n <= sums[len(list)].Key(k)+2; n++ {
			want := slices.IndexFunc(sums, func(m M) bool { return m.Key(k) >= n })
			if want < 0 {
				want = len(list) + 1
			}
			if got := s.Find(k, n); got != want {
				t.Fatalf("Find(%d, %d) = %d; want %d in %v", k, n, got, want, list)
			}
		}
	}
}

// sumsOf adds one thing after another, from the zero value on.
func sumsOf[T tree.Item[M], M tree.Sum[M]](list []T) []M {
	sums := make([]M, 1)
	for _, x := range list {
		sums = append(sums, sums[len(sums)-1].Add(x.Measure()))
	}
	return sums
}

// balanced holds a height against P408, whose digits are counted here by halving.
func balanced(t *testing.T, height, size int) {
	t.Helper()
	digits := 0
	for n := size; n > 0; n /= 2 {
		digits++
	}
	if height > 3*digits || height < min(size, 1) {
		t.Fatalf("Height() = %d of %d things", height, size)
	}
}

func replaced[T tree.Item[M], M tree.Sum[M]](t *testing.T, s tree.Tree[T, M], from, to int, items ...T) tree.Tree[T, M] {
	t.Helper()
	u, e := s.Replace(from, to, items...)
	if e != api.OK {
		t.Fatalf("Replace(%d, %d) of %d things: %d", from, to, s.Size(), e)
	}
	return u
}

// dice is a row of numbers that look drawn, the same in every run.
type dice uint64

func (d *dice) below(n int) int {
	*d = *d*6364136223846793005 + 1442695040888963407
	return int(uint64(*d) >> 33 % uint64(n))
}

func (d *dice) texts(n int) []string {
	var l []string
	for range n {
		l = append(l, []string{"", "a", "b", "ab", "ba", "abb", "c"}[d.below(7)])
	}
	return l
}

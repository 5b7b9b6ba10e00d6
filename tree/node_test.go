package tree

import (
	"testing"

	"copyist/api"
)

// sound goes through all nodes: what each one keeps of itself is so, and its sides differ by one level at most. From outside a height that is told wrong could not be seen.
func sound(t *testing.T, n *node[Run, Runs]) (size, height int, sum Runs) {
	t.Helper()
	if n == nil {
		return 0, 0, Runs{}
	}
	size, height, sum = sound(t, n.left)
	behind, low, rest := sound(t, n.right)
	if lean := height - low; lean < -1 || lean > 1 {
		t.Fatalf("sides of %d and %d levels", height, low)
	}
	size, height, sum = size+1+behind, max(height, low)+1, sum.Add(n.item.Measure()).Add(rest)
	if n.size != size || n.height != height || n.sum != sum {
		t.Fatalf("a node of %d things, %d levels and the sum %v says %d, %d, %v", size, height, sum, n.size, n.height, n.sum)
	}
	return size, height, sum
}

// TestNodes: P408: Height is the number of nodes on the longest way down, behind every Replace.
func TestNodes(t *testing.T) {
	var s Tree[Run, Runs]
	draw := uint64(1)
	below := func(n int) int {
		draw = draw*6364136223846793005 + 1442695040888963407
		return int(draw >> 33 % uint64(n))
	}
	for i := range 4000 {
		from := below(s.Size() + 1)
		to := from + below(min(s.Size()-from, 1<<below(8))+1)
		items := make([]Run, below(1<<below(9)))
		for j := range items {
			items[j] = Run{below(3), below(4)}
		}
		u, e := s.Replace(from, to, items...)
		if e != api.OK {
			t.Fatal(e)
		}
		if _, height, _ := sound(t, u.root); u.Height() != height {
			t.Fatalf("Height() = %d; want %d", u.Height(), height)
		}
		if s = u; s.Size() > 500 || i%100 == 0 {
			s, _ = s.Replace(below(9)*s.Size()/9, s.Size())
		}
	}
	for n := range 300 {
		sound(t, Of[Run, Runs](make([]Run, n)...).root)
	}
}

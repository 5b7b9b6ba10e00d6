package piece_test

import (
	"bytes"
	"iter"
	"math"
	"math/rand"
	"slices"
	"testing"

	"copyist/api"
)

func gather(chunks iter.Seq[[]byte]) [][]byte {
	var out [][]byte
	for c := range chunks {
		out = append(out, c)
	}
	return out
}

func sameLists(a, b [][]byte) bool { return slices.EqualFunc(a, b, bytes.Equal) }

// chunked is what Chunks is to give.
func chunked(b []byte, size int) [][]byte {
	var out [][]byte
	for size > 0 && len(b) > 0 {
		n := min(size, len(b))
		out = append(out, b[:n])
		b = b[n:]
	}
	return out
}

func TestChunksOfAllSizes(t *testing.T) {
	r := rand.New(rand.NewSource(507))
	for _, enc := range encodings {
		for _, n := range []int{0, 1, 2, 5, 256, 257, 1024, 3000} {
			x := open(t, enc, someBytes(n, r), 9000)
			if n > 300 {
				change(t, x, put(20, 40, someAtoms(enc, 300, r)...), put(50, 50, someAtoms(enc, 3, r)...))
			}
			whole := x.Bytes()
			for _, size := range []int{math.MinInt, -1, 0, 1, 2, 3, 7, 255, 256, 257, 1024, n - 1, n, n + 1, len(whole), 1 << 40, math.MaxInt} {
				if got := gather(x.Chunks(size)); !sameLists(got, chunked(whole, size)) {
					t.Fatalf("encoding %d, %d bytes, Chunks(%d): %x", enc, len(whole), size, got)
				}
			}
		}
	}
}

func TestChunksAgainAndLeftEarly(t *testing.T) {
	x := open(t, api.UTF8, []byte("abcdefgh"), 100)
	chunks := x.Chunks(3)
	want := chunked([]byte("abcdefgh"), 3)
	for leave := range 4 {
		n := 0
		for c := range chunks {
			if !bytes.Equal(c, want[n]) {
				t.Errorf("chunk %d: %q", n, c)
			}
			if n == leave {
				break
			}
			n++
		}
		if got := gather(chunks); !sameLists(got, want) {
			t.Errorf("behind one left at %d: %q", leave, got)
		}
	}
	calls := 0
	chunks(func([]byte) bool { calls++; return false })
	if calls != 1 {
		t.Errorf("told to stop it went on: %d calls", calls)
	}
}

func TestChunksWithinOneAnother(t *testing.T) {
	x := open(t, api.Latin1, []byte("abcdefg"), 100)
	chunks := x.Chunks(2)
	want := chunked([]byte("abcdefg"), 2)
	n := 0
	for c := range chunks {
		if inner := gather(chunks); !sameLists(inner, want) {
			t.Errorf("the inner one: %q", inner)
		}
		if !bytes.Equal(c, want[n]) {
			t.Errorf("the outer one: %q", c)
		}
		n++
	}
	if n != len(want) {
		t.Errorf("the outer one gave %d lists", n)
	}
	next, stop := iter.Pull(chunks)
	defer stop()
	other := gather(chunks)
	for _, w := range want {
		if c, ok := next(); !ok || !bytes.Equal(c, w) {
			t.Errorf("pulled: %q, %v", c, ok)
		}
	}
	if _, ok := next(); ok || !sameLists(other, want) {
		t.Error("pulled beside a range")
	}
}

func TestChunksWhileTheTextIsChanged(t *testing.T) {
	r := rand.New(rand.NewSource(5070))
	for _, enc := range encodings {
		b := someBytes(2000, r)
		x := open(t, enc, b, 65536)
		change(t, x, put(10, 20, someAtoms(enc, 600, r)...))
		want := chunked(x.Bytes(), 100)
		chunks, s := x.Chunks(100), x.Snap()
		change(t, x, put(0, x.Len()))
		for round := range 3 {
			n := 0
			for c := range chunks {
				if !bytes.Equal(c, want[n]) {
					t.Fatalf("round %d, chunk %d: %x, want %x", round, n, c, want[n])
				}
				for i := range c {
					c[i] = 'q'
				}
				at := r.Intn(x.Len() + 1)
				change(t, x, put(at, min(at+r.Intn(3), x.Len()), someAtoms(enc, 2, r)...))
				if n%5 == 0 {
					x.Back(s)
				}
				n++
			}
			if n != len(want) {
				t.Fatalf("round %d: %d lists, want %d", round, n, len(want))
			}
		}
	}
}

// Each list has memory of its own: written into, its spare room too, it changes no other.
func TestChunksAreNewMemory(t *testing.T) {
	x := open(t, api.UTF8, []byte("abcdefgh"), 100)
	for _, size := range []int{1, 3, 8, 100} {
		chunks := x.Chunks(size)
		lists := gather(chunks)
		want := chunked([]byte("abcdefgh"), size)
		for i, l := range lists {
			if !bytes.Equal(l, want[i]) {
				t.Fatalf("size %d: the list %d was written into: %q", size, i, l)
			}
			l = l[:cap(l)]
			for j := range l {
				l[j] = 'q'
			}
		}
		if !sameLists(gather(chunks), want) || string(x.Bytes()) != "abcdefgh" {
			t.Errorf("size %d: %q", size, x.Bytes())
		}
	}
}

package codec_test

import (
	"math"
	"strings"
	"testing"

	"copyist/api"
	"copyist/codec"
)

// TestTokenExamples: P106, the chapter's table.
func TestTokenExamples(t *testing.T) {
	if a, n := codec.Next(api.UTF8, []byte("\xE2\x82\xAC"), 1); a != -131 || n != 1 {
		t.Errorf("Next: %d, %d", a, n)
	}
	for _, c := range []struct {
		enc     int
		in      string
		at      int
		atom, n int
	}{
		{api.UTF8, "\xE2\x82\xACA", 3, 8364, 3},
		{api.UTF16LE, "\x3D\xD8\x00\xDE", 4, 128512, 4},
		{api.UTF16LE, "\x3D\xD8\x00\xDE", 3, -1, 1},
		{api.UTF8, "\xF0\x9F\x98\x80\x80", 5, -129, 1},
		{api.UTF8, "\xC3\xE2\x82\xAC", 4, 8364, 3},
		{api.UTF16BE, "\xD8\x00\xD8\x00\xDC\x00", 6, 0x10000, 4},
	} {
		if a, n := codec.Prev(c.enc, []byte(c.in), c.at); a != c.atom || n != c.n {
			t.Errorf("Prev(%d, % X, %d) = %d, %d; want %d, %d", c.enc, c.in, c.at, a, n, c.atom, c.n)
		}
	}
}

// TestTokensEverywhere: P106, at every place: the first atom of what is ahead, the last of what is behind.
func TestTokensEverywhere(t *testing.T) {
	for _, enc := range encodings {
		samples(func(in string) {
			b := []byte(in)
			for at := range len(b) + 1 {
				var ahead, behind token
				if ts := tokens(enc, in[at:]); len(ts) > 0 {
					ahead = ts[0]
				}
				if ts := tokens(enc, in[:at]); len(ts) > 0 {
					behind = ts[len(ts)-1]
				}
				if a, n := codec.Next(enc, b, at); a != ahead.atom || n != ahead.size {
					t.Fatalf("Next(%d, % X, %d) = %d, %d; want %v", enc, in, at, a, n, ahead)
				}
				if a, n := codec.Prev(enc, b, at); a != behind.atom || n != behind.size {
					t.Fatalf("Prev(%d, % X, %d) = %d, %d; want %v", enc, in, at, a, n, behind)
				}
			}
		})
	}
}

// TestWalks: P106: both walks meet Decode's atoms.
func TestWalks(t *testing.T) {
	for _, enc := range encodings {
		samples(func(in string) {
			b := []byte(in)
			atoms, _ := codec.Decode(enc, b)
			at := 0
			for i, want := range atoms {
				a, n := codec.Next(enc, b, at)
				if a != want || n < 1 {
					t.Fatalf("encoding %d, % X: Next's atom %d is %d, %d; want %d", enc, in, i, a, n, want)
				}
				at += n
			}
			if at != len(b) {
				t.Fatalf("encoding %d, % X: Next ends at %d", enc, in, at)
			}
			for i := len(atoms) - 1; i >= 0; i-- {
				a, n := codec.Prev(enc, b, at)
				if a != atoms[i] || n < 1 {
					t.Fatalf("encoding %d, % X: Prev's atom %d is %d, %d; want %d", enc, in, i, a, n, atoms[i])
				}
				at -= n
			}
			if at != 0 {
				t.Fatalf("encoding %d, % X: Prev ends at %d", enc, in, at)
			}
		})
	}
}

// TestTokensNowhere: P106: places outside, and what is no encoding.
func TestTokensNowhere(t *testing.T) {
	b := []byte("abcdefgh")
	for _, enc := range encodings {
		for _, at := range []int{math.MinInt, -1, 9, 1 << 32, math.MaxInt} {
			nothing(t, enc, b, at, true, true)
		}
		nothing(t, enc, b, 8, true, false)
		nothing(t, enc, b, 0, false, true)
		nothing(t, enc, nil, 0, true, true)
		nothing(t, enc, b[:4], 5, true, true)
	}
	for _, enc := range noEncodings {
		nothing(t, enc, b, 4, true, true)
	}
}

func nothing(t *testing.T, enc int, b []byte, at int, next, prev bool) {
	t.Helper()
	if a, n := codec.Next(enc, b, at); next && (a != 0 || n != 0) {
		t.Errorf("Next(%d, .., %d) = %d, %d", enc, at, a, n)
	}
	if a, n := codec.Prev(enc, b, at); prev && (a != 0 || n != 0) {
		t.Errorf("Prev(%d, .., %d) = %d, %d", enc, at, a, n)
	}
}

// TestTokensNear: P106: however long the bytes are, four of them are looked at; looking at all would take hours here.
func TestTokensNear(t *testing.T) {
	for _, in := range []string{"\x80", "\xBF\xBF\xBF\xF0", "\xD8\xD8", "\xD8\x00\xDC\x00", "a"} {
		b := []byte(strings.Repeat(in, 1<<24/len(in)))
		for _, enc := range encodings {
			for i := range 100000 {
				codec.Next(enc, b, i)
				codec.Prev(enc, b, len(b)-i)
			}
		}
	}
}

package codec_test

import (
	"slices"
	"strings"
	"testing"

	"copyist/api"
	"copyist/codec"
)

// TestMark: P107.
func TestMark(t *testing.T) {
	want := map[int]string{api.UTF8: "\xEF\xBB\xBF", api.UTF16LE: "\xFF\xFE", api.UTF16BE: "\xFE\xFF", api.Latin1: ""}
	for _, enc := range slices.Concat(encodings, noEncodings) {
		got := codec.Mark(enc)
		if string(got) != want[enc] {
			t.Errorf("Mark(%d) = % X", enc, got)
		}
		scribble(got)
		if again := codec.Mark(enc); string(again) != want[enc] {
			t.Errorf("Mark(%d) = % X the second time", enc, again)
		}
	}
}

// TestDetect: P107.
func TestDetect(t *testing.T) {
	for _, c := range []struct {
		in     string
		enc, n int
	}{
		{"\xFF\xFEA\x00", api.UTF16LE, 2}, {"\xFF\xFE", api.UTF16LE, 2}, {"\xFF\xFE\x00\x00", api.UTF16LE, 2},
		{"\xFE\xFF\x00A", api.UTF16BE, 2}, {"\xFE\xFF", api.UTF16BE, 2},
		{"\xEF\xBB\xBFabc", api.UTF8, 3}, {"\xEF\xBB\xBF", api.UTF8, 3},
		{"", 0, 0}, {"a", 0, 0}, {"\xEF", 0, 0}, {"\xEF\xBB", 0, 0}, {"\xEF\xBBa", 0, 0}, {"\xFF", 0, 0}, {"\xFE", 0, 0},
		{"\xFF\xFF", 0, 0}, {"\xFE\xFE", 0, 0}, {"a\xFF\xFE", 0, 0}, {"\x00\x00\xFE\xFF", 0, 0},
	} {
		if enc, n := codec.Detect([]byte(c.in)); enc != c.enc || n != c.n {
			t.Errorf("Detect(% X) = %d, %d; want %d, %d", c.in, enc, n, c.enc, c.n)
		}
	}
}

// TestGuess: P108, each rule and both sides of each bound.
func TestGuess(t *testing.T) {
	third := float64(2) / float64(3) // as the program reckons it, not in exact constants
	for _, c := range []struct {
		in    string
		enc   int
		share float64
	}{
		// 1: a mark, whatever is behind it.
		{"\xEF\xBB\xBF\x00A\x00A\x00A", api.UTF8, 1}, {"\xFF\xFE\x00A\x00A\x00A", api.UTF16LE, 1}, {"\xFE\xFFA\x00A\x00", api.UTF16BE, 1},
		// 2: zeros in one half of the units; an odd last byte is not looked at.
		{"A\x00B\x00", api.UTF16LE, 1}, {"\x00A\x00B", api.UTF16BE, 1}, {"\x00A\x00B\x00", api.UTF16BE, 1}, {"A\x00B\x00\x00", api.UTF16LE, 1},
		{"A\x00BC", api.UTF16LE, 0.5}, {"\x00ABC", api.UTF16BE, 0.5}, {"A\x00", api.UTF16LE, 1}, {"\x00A", api.UTF16BE, 1},
		{"A\x00" + "BCDE", api.UTF8, 1}, {"\x00A" + "BCDE", api.UTF8, 1}, {"\x00\x00", api.UTF8, 1},
		{strings.Repeat("A\x00", 7) + "\x00\x00", api.UTF16LE, 1}, {strings.Repeat("A\x00", 6) + "\x00\x00", api.UTF8, 1},
		{strings.Repeat("\x00A", 7) + "\x00\x00", api.UTF16BE, 1}, {strings.Repeat("\x00A", 6) + "\x00\x00", api.UTF8, 1},
		{strings.Repeat("A\x00", 3) + "AB", api.UTF16LE, 0.75}, {"A\x00\xFF\xD8", api.UTF16LE, 0.5}, {"A\x00B\x00CD", api.UTF16LE, third},
		// 3: no raw byte at all.
		{"", api.UTF8, 1}, {"A", api.UTF8, 1}, {"\x00", api.UTF8, 1}, {"abc", api.UTF8, 1}, {"\xC3\xA9\xF0\x9F\x98\x80", api.UTF8, 1},
		// 4: how many of the high bytes stand in rows.
		{"A\xE9B", api.Latin1, 1}, {"\xE9", api.Latin1, 1}, {"\xC3\xA9\xC3\xA9\xC3\xA9\xE9\xE9", api.UTF8, 0.75},
		{"a\xC3\xA9b\xC3\xA9\xE9c", api.UTF8, float64(4) / float64(5)}, {"\xC3\xA9\xE9", api.Latin1, 1 - third},
		{"\xE2\x82\xAC\xC3\xA9\xE9\xE9", api.Latin1, 1 - float64(5)/float64(7)}, {"\xF0\x9F\x98\x80\xE2\x82\xAC\xE9\xE9", api.UTF8, float64(7) / float64(9)},
		{"\xC3\xA9\xE9\xE9", api.Latin1, 0.5}, {"\xE9\x00\x00", api.UTF16LE, 1}, {"\xE9\x00\x00\x00", api.Latin1, 1},
	} {
		if enc, share := codec.Guess([]byte(c.in)); enc != c.enc || share != c.share {
			t.Errorf("Guess(% X) = %d, %v; want %d, %v", c.in, enc, share, c.enc, c.share)
		}
	}
}

// guess: P108, word by word.
func guess(b []byte) (int, float64) {
	if enc, _ := codec.Detect(b); enc != 0 {
		return enc, 1
	}
	if len(b) >= 2 {
		u := len(b) / 2
		zeros := [2]int{}
		for i, x := range b[:2*u] {
			if x == 0 {
				zeros[i%2]++
			}
		}
		hi, lo := float64(zeros[0])/float64(u), float64(zeros[1])/float64(u)
		if lo >= 0.5 && hi <= 0.125 {
			return api.UTF16LE, lo
		}
		if hi >= 0.5 && lo <= 0.125 {
			return api.UTF16BE, hi
		}
	}
	high, raw := 0, 0
	for _, x := range b {
		if x >= 0x80 {
			high++
		}
	}
	for _, t := range tokens(api.UTF8, string(b)) {
		if t.atom < 0 {
			raw++
		}
	}
	if raw == 0 {
		return api.UTF8, 1
	}
	good := float64(high-raw) / float64(high)
	if good >= 0.75 {
		return api.UTF8, good
	}
	return api.Latin1, 1 - good
}

// TestGuessAll: P108, and that a share is one.
func TestGuessAll(t *testing.T) {
	try := func(in string) {
		enc, share := codec.Guess([]byte(in))
		if e, s := guess([]byte(in)); enc != e || share != s || !(share >= 0 && share <= 1) {
			t.Fatalf("Guess(% X) = %d, %v; want %d, %v", in, enc, share, e, s)
		}
	}
	samples(try)
	words("\x00A", 12, try)
	words("\xC3\xA9", 12, try)
}

package codec_test

import (
	"math/rand"
	"slices"
	"testing"

	"copyist/api"
	"copyist/codec"
)

func newStream(t *testing.T, enc int) *codec.Stream {
	t.Helper()
	s, e := codec.NewStream(enc)
	if s == nil || e != api.OK || s.Held() != 0 {
		t.Fatalf("NewStream(%d) = %v, %d", enc, s, e)
	}
	return s
}

// TestNewStream: P109: what is no encoding is refused; a new stream holds nothing.
func TestNewStream(t *testing.T) {
	for _, enc := range noEncodings {
		if s, e := codec.NewStream(enc); s != nil || e != api.ErrEnc {
			t.Errorf("NewStream(%d) = %v, %d", enc, s, e)
		}
	}
	for _, enc := range encodings {
		s := newStream(t, enc)
		for range 2 {
			if got := s.Close(); len(got) != 0 || s.Held() != 0 {
				t.Errorf("encoding %d: Close of nothing = %v, Held %d", enc, got, s.Held())
			}
			if got := s.Feed(nil); len(got) != 0 || s.Held() != 0 {
				t.Errorf("encoding %d: Feed of nothing = %v, Held %d", enc, got, s.Held())
			}
		}
	}
}

// TestStreamCuts: P109: at whatever two places the bytes are cut, and byte by byte, the atoms are those of the whole; one stream does all, so Close begins anew.
func TestStreamCuts(t *testing.T) {
	for _, enc := range encodings {
		s := newStream(t, enc)
		check := func(in string, parts ...string) {
			var got []int
			for _, p := range parts {
				got = append(got, s.Feed([]byte(p))...)
			}
			got = append(got, s.Close()...)
			if want := atomsOf(tokens(enc, in)); !slices.Equal(got, want) || s.Held() != 0 {
				t.Fatalf("encoding %d, % X in parts % X: %v, Held %d; want %v", enc, in, parts, got, s.Held(), want)
			}
		}
		words("\x00\x41\x80\xBF\xD8\xDC\xE0\xED\xF0\xF4", 4, func(in string) {
			for i := range len(in) + 1 {
				for j := i; j <= len(in); j++ {
					check(in, in[:i], in[i:j], in[j:])
				}
			}
		})
		r := rand.New(rand.NewSource(2))
		samples(func(in string) {
			var parts []string
			for at := 0; at < len(in); {
				n := min(r.Intn(5), len(in)-at)
				parts = append(parts, in[at:at+n])
				at += n
			}
			check(in, parts...)
		})
	}
}

// mustWait: P110's list: how many of the last bytes are held.
func mustWait(enc int, in string) int {
	switch enc {
	case api.UTF8:
		return mayChange(in)
	case api.Latin1:
		return 0
	}
	odd := len(in) % 2
	whole := in[:len(in)-odd]
	if len(whole) == 0 {
		return odd
	}
	high := whole[len(whole)-1]
	if enc == api.UTF16BE {
		high = whole[len(whole)-2]
	}
	if high >= 0xD8 && high <= 0xDB {
		return odd + 2
	}
	return odd
}

// mayChange tells of UTF8 how many of the last bytes are read otherwise once more bytes have come: tried with all that could matter.
func mayChange(in string) int {
	alone := tokens(api.UTF8, in)
	safe := len(in)
	words("\x80\x90\xA0\xBF", 3, func(more string) {
		sum := 0
		for i, tok := range tokens(api.UTF8, in+more) {
			if i >= len(alone) || tok != alone[i] {
				break
			}
			sum += tok.size
		}
		safe = min(safe, sum)
	})
	return len(in) - safe
}

// TestHeld: P110: just what must wait is held, and all else has been told.
func TestHeld(t *testing.T) {
	for _, enc := range encodings {
		words("\x41\x80\x90\xA0\xC2\xD8\xDC\xE0\xE2\xED\xF0\xF4", 4, func(in string) {
			s := newStream(t, enc)
			var got []int
			for i := range len(in) {
				got = append(got, s.Feed([]byte(in[i:i+1]))...)
			}
			heldRight(t, enc, in, s, got)
			whole := newStream(t, enc)
			heldRight(t, enc, in, whole, whole.Feed([]byte(in)))
		})
	}
}

func heldRight(t *testing.T, enc int, in string, s *codec.Stream, told []int) {
	t.Helper()
	held := mustWait(enc, in)
	if s.Held() != held || held > 3 {
		t.Fatalf("encoding %d: behind % X %d bytes are held; want %d", enc, in, s.Held(), held)
	}
	if want := atomsOf(tokens(enc, in[:len(in)-held])); !slices.Equal(told, want) {
		t.Fatalf("encoding %d: behind % X %v was told; want %v", enc, in, told, want)
	}
}

// TestHeldExamples: P110, what the chapter names.
func TestHeldExamples(t *testing.T) {
	for _, c := range []struct {
		enc  int
		in   string
		want []int
		held int
		rest []int
	}{
		{api.UTF8, "\xE0\xA0", nil, 2, []int{-225, -161}},
		{api.UTF8, "\xE0\x80", []int{-225, -129}, 0, nil},
		{api.UTF8, "\xF0\x90\x80", nil, 3, []int{-241, -145, -129}},
		{api.UTF8, "\xF4\x90", []int{-245, -145}, 0, nil},
		{api.UTF8, "\xED\xA0", []int{-238, -161}, 0, nil},
		{api.UTF8, "\xF0\x90\xC3", []int{-241, -145}, 1, []int{-196}},
		{api.UTF8, "\xC1", []int{-194}, 0, nil},
		{api.UTF8, "\xF5", []int{-246}, 0, nil},
		{api.UTF16LE, "\x41", nil, 1, []int{-66}},
		{api.UTF16LE, "\x41\x00\x41", []int{65}, 1, []int{-66}},
		{api.UTF16LE, "\x00\xD8", nil, 2, []int{0xD800}},
		{api.UTF16LE, "\x00\xD8\x00", nil, 3, []int{0xD800, -1}},
		{api.UTF16LE, "\x00\xD8\x00\xD8", []int{0xD800}, 2, []int{0xD800}},
		{api.UTF16LE, "\x00\xDC", []int{0xDC00}, 0, nil},
		{api.UTF16BE, "\xDB\xFF\xDF\xFF\xDB", []int{0x10FFFF}, 1, []int{-220}},
		{api.UTF16BE, "\xD8\x41\x41", nil, 3, []int{0xD841, -66}}, // the list says so, though no low unit begins with 41
		{api.UTF16BE, "\xDB\xFF\x00\x41", []int{0xDBFF, 65}, 0, nil},
		{api.Latin1, "\xE0\xA0", []int{0xE0, 0xA0}, 0, nil},
	} {
		s := newStream(t, c.enc)
		got := s.Feed([]byte(c.in))
		held := s.Held()
		rest := s.Close()
		if !slices.Equal(got, c.want) || held != c.held || !slices.Equal(rest, c.rest) || s.Held() != 0 {
			t.Errorf("encoding %d, % X: Feed %v, Held %d, Close %v; want %v, %d, %v", c.enc, c.in, got, held, rest, c.want, c.held, c.rest)
		}
	}
}

// TestStreamsApart: P110, rule 3: two streams know nothing of each other, and what is handed in is not kept.
func TestStreamsApart(t *testing.T) {
	a, b := newStream(t, api.UTF8), newStream(t, api.UTF8)
	part := []byte("\xF0\x9F\x98")
	a.Feed(part)
	if b.Held() != 0 || a.Held() != 3 {
		t.Errorf("Held %d and %d", a.Held(), b.Held())
	}
	scribble(part)
	b.Feed([]byte("\xE2"))
	got := a.Feed([]byte("\x80"))
	if !slices.Equal(got, []int{128512}) {
		t.Errorf("Feed = %v", got)
	}
	a.Feed([]byte("\xC3"))
	scribble(got)
	if rest := a.Close(); !slices.Equal(rest, []int{-196}) {
		t.Errorf("Close = %v", rest)
	}
	if rest := b.Close(); !slices.Equal(rest, []int{-227}) {
		t.Errorf("Close = %v", rest)
	}
}

// TestFeedOfNothing: P109: an empty part changes nothing of what is held.
func TestFeedOfNothing(t *testing.T) {
	s := newStream(t, api.UTF8)
	s.Feed([]byte("\xF0\x9F\x98"))
	for range 3 {
		if got := s.Feed(nil); len(got) != 0 || s.Held() != 3 {
			t.Errorf("Feed of nothing = %v, Held %d", got, s.Held())
		}
	}
	if got := s.Feed([]byte("\x80")); !slices.Equal(got, []int{128512}) || s.Held() != 0 {
		t.Errorf("Feed = %v, Held %d", got, s.Held())
	}
}

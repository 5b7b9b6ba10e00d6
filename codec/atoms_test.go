package codec_test

import (
	"bytes"
	"slices"
	"testing"
	"unicode/utf16"
	"unicode/utf8"

	"copyist/api"
	"copyist/codec"
)

// TestDecodeExamples: P101, the chapter's table and the edges of each rule.
func TestDecodeExamples(t *testing.T) {
	for _, c := range []struct {
		enc  int
		in   string
		want []int
	}{
		{api.UTF8, "", nil},
		{api.UTF8, "A\xC3\xA9\xC3", []int{65, 233, -196}},
		{api.UTF8, "\xE2\x82\xAC\xED\xA0\x80", []int{8364, -238, -161, -129}},
		{api.UTF8, "\xF0\x9F\x98\x80\xF4\x90\x80\x80", []int{128512, -245, -145, -129, -129}},
		{api.UTF8, "\xE2\x82", []int{-227, -131}},
		{api.UTF8, "\xEF\xBB\xBF", []int{0xFEFF}},
		{api.UTF8, "\xC0\xAF", []int{-193, -176}},
		{api.UTF8, "\xE0\x9F\xBF\xF0\x8F\xBF\xBF", []int{-225, -160, -192, -241, -144, -192, -192}},
		{api.UTF8, "\xF0\x90\x80A", []int{-241, -145, -129, 65}},
		{api.UTF8, "\xE2\xE2\x82\xAC", []int{-227, 8364}},
		{api.UTF8, "\xF5\xFF\x00", []int{-246, -256, 0}},
		{api.UTF16LE, "", nil},
		{api.UTF16LE, "\x3D\xD8\x00\xDE\x00\xDC\x0A", []int{128512, 56320, -11}},
		{api.UTF16LE, "\xFF\xDB\xFF\xDB\xFF\xDF", []int{0xDBFF, 0x10FFFF}},
		{api.UTF16LE, "\x00\xD8\x00\xDC", []int{0x10000}},
		{api.UTF16LE, "\x00\xD8\x00\xDC"[:3], []int{0xD800, -1}},
		{api.UTF16BE, "\x00\x41\xD8\x3D", []int{65, 55357}},
		{api.UTF16BE, "\xFE\xFF\x00", []int{0xFEFF, -1}},
		{api.UTF16BE, "\xDC\x00\xD8\x00", []int{0xDC00, 0xD800}},
		{api.Latin1, "", nil},
		{api.Latin1, "\x00\xFF", []int{0, 255}},
	} {
		got, e := codec.Decode(c.enc, []byte(c.in))
		if e != api.OK || !slices.Equal(got, c.want) {
			t.Errorf("Decode(%d, % X) = %v, %d; want %v", c.enc, c.in, got, e, c.want)
		}
	}
}

// TestDecodeAll: P101, held against the table itself.
func TestDecodeAll(t *testing.T) {
	for _, enc := range encodings {
		samples(func(in string) {
			got, e := codec.Decode(enc, []byte(in))
			if want := atomsOf(tokens(enc, in)); e != api.OK || !slices.Equal(got, want) {
				t.Fatalf("Decode(%d, % X) = %v, %d; want %v", enc, in, got, e, want)
			}
		})
	}
}

// TestDecodeBounds: P101, each two bytes at the head of a row, and each two at its end.
func TestDecodeBounds(t *testing.T) {
	for x := range 256 {
		for y := range 256 {
			for _, in := range []string{string([]byte{byte(x), byte(y), 0x80, 0x80}), string([]byte{0xF1, 0x80, byte(x), byte(y)})} {
				got, e := codec.Decode(api.UTF8, []byte(in))
				if want := atomsOf(tokens(api.UTF8, in)); e != api.OK || !slices.Equal(got, want) {
					t.Fatalf("Decode(% X) = %v, %d; want %v", in, got, e, want)
				}
			}
		}
	}
}

// TestDecodeStandard: P101, W1: well-formed bytes are the scalars that the standard decodes them to.
func TestDecodeStandard(t *testing.T) {
	for a := 0; a <= 0x10FFFF; a++ {
		if a >= 0xD800 && a <= 0xDFFF {
			continue
		}
		var le, be []byte
		for _, u := range utf16.AppendRune(nil, rune(a)) {
			le = append(le, byte(u), byte(u>>8))
			be = append(be, byte(u>>8), byte(u))
		}
		for enc, b := range map[int][]byte{api.UTF8: utf8.AppendRune(nil, rune(a)), api.UTF16LE: le, api.UTF16BE: be} {
			if got, e := codec.Decode(enc, b); e != api.OK || !slices.Equal(got, []int{a}) {
				t.Fatalf("Decode(%d, % X) = %v, %d; want %d", enc, b, got, e, a)
			}
			if got, at, e := codec.Encode(enc, []int{a}); e != api.OK || at != 0 || !bytes.Equal(got, b) {
				t.Fatalf("Encode(%d, %X) = % X, %d, %d; want % X", enc, a, got, at, e, b)
			}
		}
	}
}

// TestNoEncoding: P101 to P104: what is no encoding is refused ahead of everything else.
func TestNoEncoding(t *testing.T) {
	for _, enc := range noEncodings {
		if got, e := codec.Decode(enc, []byte("a")); got != nil || e != api.ErrEnc {
			t.Errorf("Decode(%d) = %v, %d", enc, got, e)
		}
		if got, e := codec.Decode(enc, nil); got != nil || e != api.ErrEnc {
			t.Errorf("Decode(%d) of nothing = %v, %d", enc, got, e)
		}
		for _, atoms := range [][]int{nil, {65}, {65, -1000}} {
			if got, at, e := codec.Encode(enc, atoms); got != nil || at != 0 || e != api.ErrEnc {
				t.Errorf("Encode(%d, %v) = %v, %d, %d", enc, atoms, got, at, e)
			}
		}
		for _, atom := range []int{0, 65, -129, 0xD800} {
			if codec.Fits(enc, atom) || codec.Size(enc, atom) != 0 {
				t.Errorf("Fits, Size(%d, %d) = %v, %d", enc, atom, codec.Fits(enc, atom), codec.Size(enc, atom))
			}
		}
	}
}

// fits: the table of P102.
func fits(enc, a int) bool {
	scalar := a >= 0 && a < 0xD800 || a > 0xDFFF && a <= 0x10FFFF
	lone := a >= 0xD800 && a <= 0xDFFF
	switch enc {
	case api.UTF8:
		return scalar || a >= -256 && a <= -129
	case api.Latin1:
		return a >= 0 && a <= 255
	}
	return scalar || lone || a >= -256 && a <= -1
}

// TestFits: P102, P104, and of each atom alone P103.
func TestFits(t *testing.T) {
	for _, enc := range encodings {
		everyInt(func(a int) {
			want := fits(enc, a)
			if got := codec.Fits(enc, a); got != want {
				t.Fatalf("Fits(%d, %d) = %v", enc, a, got)
			}
			b, at, e := codec.Encode(enc, []int{a})
			if n := codec.Size(enc, a); n != len(b) || at != 0 || want != (e == api.OK) || want != (n > 0) {
				t.Fatalf("Size(%d, %d) = %d; Encode: % X, %d, %d", enc, a, n, b, at, e)
			}
			if !want && (b != nil || e != api.ErrFit) {
				t.Fatalf("Encode(%d, %d) = % X, %d", enc, a, b, e)
			}
		})
	}
}

// TestSizes: P104, at the edges of each size.
func TestSizes(t *testing.T) {
	for _, c := range []struct{ atom, utf8, utf16, latin1 int }{
		{0, 1, 2, 1}, {0x7F, 1, 2, 1}, {0x80, 2, 2, 1}, {0xFF, 2, 2, 1}, {0x100, 2, 2, 0}, {0x7FF, 2, 2, 0}, {0x800, 3, 2, 0},
		{0xD7FF, 3, 2, 0}, {0xD800, 0, 2, 0}, {0xDFFF, 0, 2, 0}, {0xE000, 3, 2, 0}, {0xFFFF, 3, 2, 0},
		{0x10000, 4, 4, 0}, {0x10FFFF, 4, 4, 0}, {0x110000, 0, 0, 0},
		{-1, 0, 1, 0}, {-128, 0, 1, 0}, {-129, 1, 1, 0}, {-256, 1, 1, 0}, {-257, 0, 0, 0},
	} {
		for enc, want := range map[int]int{api.UTF8: c.utf8, api.UTF16LE: c.utf16, api.UTF16BE: c.utf16, api.Latin1: c.latin1} {
			if got := codec.Size(enc, c.atom); got != want {
				t.Errorf("Size(%d, %d) = %d; want %d", enc, c.atom, got, want)
			}
		}
	}
}

// TestEncodeExamples: P103.
func TestEncodeExamples(t *testing.T) {
	for _, c := range []struct {
		enc   int
		atoms []int
		want  string
		at    int
		err   api.Errno
	}{
		{api.UTF8, nil, "", 0, 0},
		{api.UTF8, []int{8364, -256}, "\xE2\x82\xAC\xFF", 0, 0},
		{api.UTF8, []int{-196, -170}, "\xC3\xA9", 0, 0},
		{api.UTF8, []int{65, -66}, "", 1, api.ErrFit},
		{api.UTF8, []int{65, 0xDFFF, -257}, "", 1, api.ErrFit},
		{api.UTF8, []int{0x110000}, "", 0, api.ErrFit},
		{api.UTF16LE, []int{0x10FFFF, 0xD800, 0xDC00, -66, 65}, "\xFF\xDB\xFF\xDF\x00\xD8\x00\xDC\x41\x41\x00", 0, 0},
		{api.UTF16BE, []int{0x10FFFF, 0xD800, 0xDC00, -66, 65}, "\xDB\xFF\xDF\xFF\xD8\x00\xDC\x00\x41\x00\x41", 0, 0},
		{api.UTF16BE, []int{65, 65, -257}, "", 2, api.ErrFit},
		{api.Latin1, []int{0, 0xE9, 255}, "\x00\xE9\xFF", 0, 0},
		{api.Latin1, []int{8364}, "", 0, api.ErrFit},
		{api.Latin1, []int{65, -256, 256}, "", 1, api.ErrFit},
	} {
		got, at, e := codec.Encode(c.enc, c.atoms)
		if string(got) != c.want || at != c.at || e != c.err || e != api.OK && got != nil {
			t.Errorf("Encode(%d, %v) = % X, %d, %d; want % X, %d, %d", c.enc, c.atoms, got, at, e, c.want, c.at, c.err)
		}
	}
}

// TestBack: P105, from bytes to atoms and back.
func TestBack(t *testing.T) {
	for _, enc := range encodings {
		samples(func(in string) {
			atoms, _ := codec.Decode(enc, []byte(in))
			if got, at, e := codec.Encode(enc, atoms); string(got) != in || at != 0 || e != api.OK {
				t.Fatalf("encoding %d: % X came back as % X, %d, %d", enc, in, got, at, e)
			}
		})
	}
}

// TestBackScalars: P105, from scalars to bytes and back, and that raw bytes may be read otherwise.
func TestBackScalars(t *testing.T) {
	for _, enc := range encodings {
		var all []int
		everyInt(func(a int) {
			if a >= 0 && (a < 0xD800 || a > 0xDFFF) && fits(enc, a) {
				all = append(all, a)
			}
		})
		b, _, e := codec.Encode(enc, all)
		if got, _ := codec.Decode(enc, b); e != api.OK || !slices.Equal(got, all) {
			t.Errorf("encoding %d: the scalars do not come back (%d)", enc, e)
		}
	}
	b, _, _ := codec.Encode(api.UTF8, []int{-196, -170})
	if got, _ := codec.Decode(api.UTF8, b); !slices.Equal(got, []int{0xE9}) {
		t.Errorf("C3 A9 is read as %v", got)
	}
}

// TestMemory: rule 3: nothing that is handed in is changed or kept, spare room included, and answers are new memory.
func TestMemory(t *testing.T) {
	for _, enc := range encodings {
		room := []byte("ab\x00\xD8\xC3#####")
		b := room[:5]
		atoms, _ := codec.Decode(enc, b)
		codec.Next(enc, b, 1)
		codec.Prev(enc, b, 4)
		codec.Guess(b)
		s, _ := codec.NewStream(enc)
		s.Feed(b)
		if string(room) != "ab\x00\xD8\xC3#####" {
			t.Errorf("encoding %d: what was handed in is %q now", enc, room)
		}
		spare := append(slices.Clone(atoms), 7, 7, 7)
		given := spare[:len(atoms)]
		first, _, _ := codec.Encode(enc, given)
		scribble(first)
		if again, _, _ := codec.Encode(enc, given); string(again) != string(b) {
			t.Errorf("encoding %d: Encode gives % X the second time", enc, again)
		}
		if !slices.Equal(given, atoms) || !slices.Equal(spare[len(atoms):], []int{7, 7, 7}) {
			t.Errorf("encoding %d: Encode changed %v", enc, spare)
		}
	}
}

// scribble writes over a list and its spare room.
func scribble[T byte | int](list []T) {
	all := list[:cap(list)]
	for i := range all {
		all[i] = 99
	}
}

package object_test

import (
	"math"
	"slices"
	"testing"

	"copyist/api"
	"copyist/object"
	"copyist/piece"
)

// errorTexts are some in which there is something to be found, and some in which there is nothing.
var errorTexts = []string{"", "a", "\n", "\r\n\r\n", "a \"b\" 'c' `d` (e) [f] {g} <h>\r\n\nd\n"}

// refuses asks for an answer that is an error and nothing else.
func refuses(t *testing.T, f call, x *piece.Text, at int, m api.Move, want api.Errno) {
	t.Helper()
	if got, e := f(x, at, m); got != (api.Span{}) || e != want {
		t.Errorf("encoding %d, %q at %d, %+v: %+v, %d, want %d", x.Enc(), text(x.Atoms(0, x.Len())), at, m, got, e, want)
	}
}

// eachCall goes through the calls on each text in each encoding.
func eachCall(t *testing.T, do func(x *piece.Text, outside []int, f call, kinds []int)) {
	t.Helper()
	for _, enc := range encodings {
		for _, s := range errorTexts {
			x := load(t, enc, spell(s))
			outside := []int{math.MinInt, -1, x.Len() + 1, x.Len() + 1000, math.MaxInt}
			for _, c := range calls {
				do(x, outside, c.call, c.kinds)
			}
			do(x, outside, object.Take, allKinds)
		}
	}
}

// P901: a kind that a call does not know, among them all those of the other calls, whatever the rest is.
func TestUnknownKinds(t *testing.T) {
	eachCall(t, func(x *piece.Text, outside []int, f call, kinds []int) {
		for _, kind := range append(slices.Clone(noKinds), allKinds...) {
			if slices.Contains(kinds, kind) {
				continue
			}
			for _, arg := range []int{0, 34, 40} {
				for _, at := range append([]int{0, x.Len()}, outside...) {
					refuses(t, f, x, at, mv(kind, 0, arg), api.ErrArg)
					refuses(t, f, x, at, mv(kind, -1, arg), api.ErrArg)
				}
			}
		}
	})
}

// P901: a count below 0 is refused ahead of an offset outside of the text.
func TestCountsBelowZero(t *testing.T) {
	eachCall(t, func(x *piece.Text, outside []int, f call, kinds []int) {
		for _, kind := range kinds {
			for _, arg := range argsOf(kind) {
				for _, at := range append([]int{0, x.Len() / 2, x.Len()}, outside...) {
					refuses(t, f, x, at, mv(kind, -1, arg), api.ErrArg)
					refuses(t, f, x, at, mv(kind, math.MinInt, arg), api.ErrArg)
				}
			}
		}
	})
}

// P901: an offset outside of the text is refused, whatever there is to be found.
func TestOffsetsOutside(t *testing.T) {
	eachCall(t, func(x *piece.Text, outside []int, f call, kinds []int) {
		for _, kind := range kinds {
			for _, arg := range argsOf(kind) {
				for _, at := range outside {
					for _, k := range []int{0, 1, 2, math.MaxInt} {
						refuses(t, f, x, at, mv(kind, k, arg), api.ErrRange)
					}
				}
			}
		}
	})
}

// P901, P905, P907: an argument that is no quote, or no opening bracket, is refused ahead of an offset outside of the text.
func TestWrongArguments(t *testing.T) {
	wrong := []int{math.MinInt, -1, -34, -40, 0, 1, 33, 35, 38, 41, 42, 59, 61, 62, 90, 92, 93, 94, 95, 97, 122, 124, 125, 126, 0xAB, 0x2018, 0x201C, 34 + 256, 40 + 1<<32, math.MaxInt}
	eachCall(t, func(x *piece.Text, outside []int, f call, kinds []int) {
		for _, kind := range slices.DeleteFunc(slices.Clone(kinds), func(kind int) bool { return len(argsOf(kind)) == 1 }) {
			bad := append(slices.Clone(wrong), blockArgs...)
			if slices.Contains(blockKinds, kind) {
				bad = append(slices.Clone(wrong), quoteArgs...)
			}
			for _, arg := range bad {
				for _, at := range append([]int{0, x.Len()}, outside...) {
					refuses(t, f, x, at, mv(kind, 0, arg), api.ErrArg)
					refuses(t, f, x, at, mv(kind, 7, arg), api.ErrArg)
					refuses(t, f, x, at, mv(kind, -7, arg), api.ErrArg)
				}
			}
		}
	})
}

// The other objects do not look at the argument.
func TestArgumentsThatDoNotCount(t *testing.T) {
	for _, arg := range []int{math.MinInt, -1, 0, 34, 40, 41, math.MaxInt} {
		hold(t, encodings, "ab_c$$d",
			ask{0, mv(api.OWord, 0, arg), byChars(0, 2)}, ask{0, mv(api.OAWord, 0, arg), byChars(0, 3)}, ask{3, mv(api.OBigWord, 0, arg), byChars(3, 4)}, ask{3, mv(api.OABigWord, 0, arg), byChars(2, 4)},
			ask{0, mv(api.OPara, 0, arg), byLines(0, 5)}, ask{0, mv(api.OAPara, 0, arg), byLines(0, 6)})
	}
}

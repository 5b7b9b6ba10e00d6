package object_test

import (
	"slices"
	"strings"
	"testing"

	"copyist/api"
	"copyist/object"
	"copyist/piece"
)

// ask is an object at an offset, and what is answered.
type ask struct {
	at   int
	m    api.Move
	want answer
}

// faces gives the calls that answer for a kind.
func faces(kind int) []call {
	for _, c := range calls {
		if slices.Contains(c.kinds, kind) {
			return []call{c.call, object.Take}
		}
	}
	return []call{object.Words, object.Quotes, object.Blocks, object.Paras, object.Take}
}

// hold asks in each of some encodings, and in loaded text as in typed text. In its text _ is a blank, and $ an LF.
func hold(t *testing.T, encs []int, s string, asks ...ask) {
	t.Helper()
	atoms := spell(strings.NewReplacer("_", " ", "$", "\n").Replace(s))
	for _, enc := range encs {
		texts := []*piece.Text{load(t, enc, atoms)}
		if len(atoms) < 50 {
			texts = append(texts, typed(t, enc, atoms))
		}
		for _, x := range texts {
			for _, a := range asks {
				for _, f := range faces(a.m.Kind) {
					if got, e := f(x, a.at, a.m); got != a.want.span || e != a.want.err {
						t.Errorf("encoding %d, %q at %d, %+v: %+v, %d, want %+v", enc, s, a.at, a.m, got, e, a.want)
					}
				}
			}
		}
	}
}

// no is the answer that there is no such object.
var no = refuse(api.ErrObject)

func iw(k int) api.Move { return mv(api.OWord, k, 0) }
func aw(k int) api.Move { return mv(api.OAWord, k, 0) }
func iW(k int) api.Move { return mv(api.OBigWord, k, 0) }
func aW(k int) api.Move { return mv(api.OABigWord, k, 0) }
func ip(k int) api.Move { return mv(api.OPara, k, 0) }
func ap(k int) api.Move { return mv(api.OAPara, k, 0) }

func iq(arg, k int) api.Move { return mv(api.OQuote, k, arg) }
func aq(arg, k int) api.Move { return mv(api.OAQuote, k, arg) }
func ib(arg, k int) api.Move { return mv(api.OBlock, k, arg) }
func ab(arg, k int) api.Move { return mv(api.OABlock, k, arg) }

// The chapter's table, row by row.
func TestExamples(t *testing.T) {
	c, l := byChars, byLines
	hold(t, encodings, "foo,_bar__baz",
		ask{1, iw(0), c(0, 3)}, ask{3, iw(0), c(3, 4)}, ask{4, iw(0), c(4, 5)}, ask{8, iw(0), c(8, 10)},
		ask{0, iw(3), c(0, 5)},
		ask{1, iW(0), c(0, 4)}, ask{1, iW(2), c(0, 5)},
		ask{1, aw(0), c(0, 3)},
		ask{3, aw(0), c(3, 5)}, ask{6, aw(0), c(5, 10)}, ask{11, aw(0), c(8, 13)},
		ask{4, aw(0), c(4, 8)}, ask{4, aw(2), c(4, 13)}, ask{4, aw(3), no},
		ask{0, aw(3), c(0, 10)}, ask{0, aw(4), c(0, 13)}, ask{0, aw(5), no},
		ask{0, aW(0), c(0, 5)}, ask{13, iw(0), c(10, 13)})
	hold(t, encodings, "ab$$cd",
		ask{2, iw(0), c(0, 2)}, ask{3, iw(0), no}, ask{6, iw(0), c(4, 6)})
	hold(t, encodings, `x_"a_b"__"c"`,
		ask{4, iq(34, 0), c(3, 6)}, ask{2, iq(34, 0), c(3, 6)}, ask{0, iq(34, 0), c(3, 6)}, ask{7, iq(34, 0), c(10, 11)},
		ask{4, iq(34, 2), c(2, 7)}, ask{4, aq(34, 0), c(2, 9)}, ask{10, aq(34, 0), c(7, 12)})
	hold(t, encodings, `"a\"b"_"c`,
		ask{0, iq(34, 0), c(1, 5)}, ask{8, iq(34, 0), no})
	hold(t, encodings, "f(a,(b))c)",
		ask{2, ib(40, 0), c(2, 7)}, ask{5, ib(40, 0), c(5, 6)}, ask{5, ib(40, 2), c(2, 7)}, ask{4, ib(40, 0), c(5, 6)}, ask{8, ib(40, 0), no},
		ask{5, ab(40, 0), c(4, 7)}, ask{7, ab(40, 0), c(1, 8)},
		ask{2, ib(91, 0), no}, ask{2, ib(41, 0), refuse(api.ErrArg)}, ask{11, ib(40, 0), refuse(api.ErrRange)})
	hold(t, encodings, "{$_a$_}$",
		ask{3, ib(123, 0), l(2, 5)}, ask{3, ab(123, 0), c(0, 7)}, ask{0, ib(123, 0), l(2, 5)})
	hold(t, encodings, "{$}", ask{0, ib(123, 0), c(1, 1)})
	hold(t, encodings, "{x$_a$_}", ask{1, ib(123, 0), c(1, 7)})
	hold(t, encodings, "a$b$$_$c$",
		ask{0, ip(0), l(0, 4)}, ask{4, ip(0), l(4, 7)}, ask{0, ip(2), l(0, 7)}, ask{0, ip(4), no},
		ask{0, ap(0), l(0, 7)}, ask{7, ap(0), l(4, 9)}, ask{4, ap(0), l(4, 9)}, ask{0, ap(2), l(0, 9)}, ask{9, ap(0), no})
	hold(t, encodings, "",
		ask{0, ip(0), l(0, 0)}, ask{0, ap(0), no}, ask{0, iw(0), no})
}

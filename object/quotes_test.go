package object_test

import (
	"math"
	"strings"
	"testing"

	"copyist/api"
)

// P905: the pair that is meant, by the cell of the offset.
func TestPairs(t *testing.T) {
	c := byChars
	for arg, quote := range map[int]string{34: `"`, 39: "'", 96: "`"} {
		s := strings.ReplaceAll(`a"b"c"d"e"f`, `"`, quote)
		hold(t, encodings, s,
			ask{0, iq(arg, 0), c(2, 3)}, ask{1, iq(arg, 0), c(2, 3)}, ask{3, iq(arg, 0), c(2, 3)}, ask{4, iq(arg, 0), c(6, 7)}, ask{5, iq(arg, 0), c(6, 7)}, ask{7, iq(arg, 0), c(6, 7)},
			ask{8, iq(arg, 0), no}, ask{9, iq(arg, 0), no}, ask{11, aq(arg, 0), no}) // the last mark is left over
		for other := range map[int]bool{34: true, 39: true, 96: true} {
			if other != arg {
				hold(t, encodings, s, ask{0, iq(other, 0), no}, ask{3, aq(other, 0), no})
			}
		}
	}
	hold(t, encodings, `"`, ask{0, iq(34, 0), no}, ask{1, aq(34, 0), no})
	hold(t, encodings, `"'"'`, ask{0, iq(34, 0), c(1, 2)}, ask{0, iq(39, 0), c(2, 3)}, ask{3, iq(34, 0), no}, ask{3, iq(39, 0), c(2, 3)})
}

// P905: each line has its marks of its own.
func TestQuotesOfLines(t *testing.T) {
	c := byChars
	hold(t, encodings, "x'\r\n'y'\r\n\n'", ask{0, iq(39, 0), no}, ask{1, iq(39, 0), no}, ask{3, iq(39, 0), no},
		ask{4, iq(39, 0), c(5, 6)}, ask{7, iq(39, 0), c(5, 6)}, ask{8, iq(39, 0), c(5, 6)}, ask{9, iq(39, 0), no}, ask{10, iq(39, 0), no})
	hold(t, encodings, "''\n", ask{0, iq(39, 0), c(1, 1)}, ask{2, iq(39, 0), c(1, 1)}, ask{3, iq(39, 0), no})
	hold(t, encodings, "\n''", ask{0, iq(39, 0), no}, ask{1, aq(39, 0), c(1, 3)}, ask{3, aq(39, 0), c(1, 3)})
	hold(t, encodings, "''a", ask{2, iq(39, 0), no}, ask{3, iq(39, 0), no})
}

// P905: rows of backslashes, even and odd, ahead of the first mark and of the second.
func TestBackslashes(t *testing.T) {
	for n := range 9 {
		row := strings.Repeat(`\`, n)
		first, second := byChars(n+1, n+2), byChars(1, n+1)
		if n%2 == 1 {
			first, second = byChars(n+3, n+4), byChars(1, n+3)
		}
		hold(t, encodings, row+`"a"b"`, ask{0, iq(34, 0), first})
		hold(t, encodings, `"`+row+`"a"`, ask{0, iq(34, 0), second})
	}
	hold(t, encodings, `\\\`+"$"+`"a"`, ask{4, iq(34, 0), byChars(5, 6)}) // those of another line
	hold(t, encodings, `\a"b"`, ask{0, iq(34, 0), byChars(3, 4)})         // one that does not stand right ahead
	hold(t, encodings, `\\a\"b"c"`, ask{0, iq(34, 0), byChars(7, 8)})
	hold(t, encodings, `\""a"`, ask{0, iq(34, 0), byChars(3, 4)})
	hold(t, encodings, `"\'"`, ask{0, iq(34, 0), byChars(1, 3)}, ask{0, iq(39, 0), no})
}

// P905: a quote or a backslash with an accent upon it is none.
func TestQuotesWithAccents(t *testing.T) {
	c := byChars
	hold(t, wide, "\"\u0301a\"b\"", ask{0, iq(34, 0), c(4, 5)}, ask{1, iq(34, 0), c(4, 5)})
	hold(t, wide, "\"a\"\u0301b\"", ask{0, iq(34, 0), c(1, 5)}, ask{3, iq(34, 0), c(1, 5)}, ask{5, iq(34, 2), c(0, 6)})
	hold(t, wide, "\\\u0301\"a\"", ask{0, iq(34, 0), c(3, 4)})
	hold(t, wide, "\\\\\u0301\"a\"", ask{0, iq(34, 0), c(4, 5)})
	hold(t, wide, "\u0600\"a\"b\"", ask{0, iq(34, 0), c(4, 5)}) // a quote that is not the first atom of its cluster
	hold(t, wide, "'e\u0301'", ask{2, iq(39, 0), c(1, 3)}, ask{3, iq(39, 0), c(1, 3)}, ask{4, iq(39, 0), c(1, 3)})
	hold(t, wide, "\u2018a\u2019 \u201Cb\u201D", ask{0, iq(39, 0), no}, ask{0, iq(34, 0), no})
}

// P906: with or without the marks; blanks behind, else blanks ahead.
func TestQuoteSpans(t *testing.T) {
	c := byChars
	hold(t, encodings, `__"a"__b`, ask{3, iq(34, 0), c(3, 4)}, ask{3, iq(34, 1), c(3, 4)}, ask{3, iq(34, 2), c(2, 5)}, ask{3, iq(34, math.MaxInt), c(2, 5)},
		ask{3, aq(34, 0), c(2, 7)}, ask{3, aq(34, 1), c(2, 7)}, ask{3, aq(34, 2), c(2, 7)}, ask{3, aq(34, math.MaxInt), c(2, 7)})
	hold(t, encodings, `_x__"a"b`, ask{5, aq(34, 0), c(2, 7)}, ask{0, aq(34, 9), c(2, 7)})
	hold(t, encodings, `x"a"y`, ask{1, aq(34, 0), c(1, 4)})
	hold(t, encodings, `__"a"`, ask{1, aq(34, 0), c(0, 5)})
	hold(t, encodings, `"a"__`, ask{4, aq(34, 0), no}, ask{2, aq(34, 0), c(0, 5)})
	hold(t, encodings, `""`, ask{0, iq(34, 0), c(1, 1)}, ask{1, iq(34, 0), c(1, 1)}, ask{1, iq(34, 2), c(0, 2)}, ask{1, aq(34, 0), c(0, 2)})
	hold(t, encodings, `"_"`, ask{0, aq(34, 0), c(0, 3)}, ask{0, iq(34, 0), c(1, 2)})
	hold(t, encodings, `"a""b"`, ask{1, aq(34, 0), c(0, 3)}, ask{4, aq(34, 0), c(3, 6)})
	hold(t, encodings, "\"a\"\n  b", ask{1, aq(34, 0), c(0, 3)}) // a break is no blank of the line
	hold(t, encodings, "b  \r\n\"a\"", ask{6, aq(34, 0), c(5, 8)})
	hold(t, wide, "'a'_\u0301\tb", ask{0, aq(39, 0), c(0, 6)})
	hold(t, wide, "b\u3000_\u0301'a'", ask{0, aq(39, 0), c(1, 7)})
	hold(t, wide, "b\u0301'a'\u0301'", ask{0, aq(39, 0), c(2, 7)}, ask{0, mv(api.OQuote, 0, 39), c(3, 6)})
}

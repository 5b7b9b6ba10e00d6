package object_test

import (
	"math"
	"testing"
)

// P902: the cell of an offset: in its cluster, at the line's end, in a break of two atoms, in the tail.
func TestWordsCell(t *testing.T) {
	c := byChars
	hold(t, encodings, "ab c\r\nd.\r\n",
		ask{0, iw(0), c(0, 2)}, ask{2, iw(0), c(2, 3)}, ask{3, iw(0), c(3, 4)},
		ask{4, iw(0), c(3, 4)}, ask{5, iw(0), c(3, 4)}, // ahead of the break, and within it
		ask{6, iw(0), c(6, 7)}, ask{7, iw(0), c(7, 8)}, ask{8, iw(0), c(7, 8)}, ask{9, iw(0), c(7, 8)},
		ask{10, iw(0), no}, ask{10, aw(0), no}, ask{10, iW(0), no}, ask{10, aW(0), no})
	hold(t, encodings, "a\r\rb", ask{1, iw(0), c(0, 1)}, ask{2, iw(0), no}, ask{3, iw(0), c(3, 4)}, ask{4, iw(0), c(3, 4)})
	hold(t, encodings, "\n\r\n\r", ask{0, iw(0), no}, ask{1, aw(0), no}, ask{2, iW(0), no}, ask{3, aW(0), no}, ask{4, iw(0), no})
	hold(t, wide, "e\u0301\u0301_x", ask{0, iw(0), c(0, 3)}, ask{1, iw(0), c(0, 3)}, ask{2, iw(0), c(0, 3)}, ask{3, iw(0), c(3, 4)}, ask{5, iw(0), c(4, 5)})
	hold(t, wide, "xe\u0301$", ask{3, iw(0), c(0, 3)}, ask{2, aw(0), c(0, 3)}, ask{4, aw(0), no})
}

// P902: a stretch goes by the first atoms of its clusters, and never on into another line.
func TestStretches(t *testing.T) {
	c := byChars
	hold(t, wide, "a_\u0301_b", ask{1, iw(0), c(1, 4)}, ask{2, iw(0), c(1, 4)}, ask{3, iw(0), c(1, 4)}, ask{0, aw(0), c(0, 4)})
	hold(t, wide, ",\u0301,a\u0301", ask{0, iw(0), c(0, 3)}, ask{3, iw(0), c(3, 5)}, ask{4, iW(0), c(0, 5)})
	hold(t, wide, "\u0301a_", ask{0, iw(0), c(0, 2)}) // an accent alone is a letter
	hold(t, encodings, "a$a", ask{0, iw(0), c(0, 1)}, ask{0, iw(2), no}, ask{2, iw(0), c(2, 3)}, ask{0, aw(0), c(0, 1)}, ask{0, aw(2), no})
	hold(t, encodings, "a_$_a", ask{0, aw(0), c(0, 2)}, ask{1, iw(0), c(1, 2)}, ask{1, aw(0), no}, ask{3, aw(0), c(3, 5)}, ask{4, aw(0), c(3, 5)})
	hold(t, encodings, "_\t\u00A0", ask{1, iw(0), c(0, 3)}, ask{1, aw(0), no}, ask{1, iW(0), c(0, 3)}, ask{1, aW(0), no})
	hold(t, wide, "\u4E00\u3000\u3001\u20AC", ask{0, iw(0), c(0, 1)}, ask{1, iw(0), c(1, 2)}, ask{2, iw(0), c(2, 4)})
	hold(t, wide, "\U0001F468\u200D\U0001F469a", ask{0, iw(0), c(0, 3)}, ask{2, iW(0), c(0, 4)})
}

// P903: all stretches count, blank ones too; just as many as there are, and one more.
func TestInnerWords(t *testing.T) {
	c := byChars
	hold(t, encodings, "_a.b__", // the stretches: 0-1 1-2 2-3 3-4 4-6; big ones: 0-1 1-4 4-6
		ask{0, iw(1), c(0, 1)}, ask{0, iw(2), c(0, 2)}, ask{0, iw(5), c(0, 6)}, ask{0, iw(6), no},
		ask{2, iw(0), c(2, 3)}, ask{2, iw(2), c(2, 4)}, ask{2, iw(3), c(2, 6)}, ask{2, iw(4), no},
		ask{5, iw(1), c(4, 6)}, ask{5, iw(2), no},
		ask{0, iW(2), c(0, 4)}, ask{0, iW(3), c(0, 6)}, ask{0, iW(4), no}, ask{3, iW(0), c(1, 4)}, ask{3, iW(2), c(1, 6)}, ask{3, iW(3), no},
		ask{0, iw(math.MaxInt), no}, ask{0, iW(math.MaxInt), no})
}

// P904: blanks behind, else those ahead, else none; blank ones that come first.
func TestOuterWords(t *testing.T) {
	c := byChars
	hold(t, encodings, "__a_b", ask{2, aw(0), c(2, 4)}, ask{4, aw(0), c(3, 5)}, ask{2, aw(2), c(0, 5)}, ask{2, aw(3), no}, ask{0, aw(0), c(0, 3)}, ask{1, aw(2), c(0, 5)}, ask{1, aw(3), no}, ask{3, aw(1), c(3, 5)}, ask{3, aw(2), no})
	hold(t, encodings, "a.b_c", ask{0, aw(0), c(0, 1)}, ask{0, aw(2), c(0, 2)}, ask{0, aw(3), c(0, 4)}, ask{1, aw(2), c(1, 4)}, ask{1, aw(3), c(1, 5)}, ask{0, aW(1), c(0, 4)}, ask{0, aW(2), c(0, 5)}, ask{0, aW(3), no})
	hold(t, encodings, "_a.", ask{1, aw(0), c(0, 2)}, ask{1, aw(2), c(0, 3)}, ask{2, aw(0), c(2, 3)}, ask{1, aW(0), c(0, 3)}, ask{0, aw(2), c(0, 3)}, ask{0, aW(2), no})
	hold(t, encodings, "a", ask{0, aw(0), c(0, 1)}, ask{1, aW(1), c(0, 1)}, ask{0, aw(math.MaxInt), no}, ask{0, aW(math.MaxInt), no})
	hold(t, encodings, "a_", ask{0, aw(0), c(0, 2)}, ask{1, aw(0), no}, ask{1, aw(math.MaxInt), no})
}

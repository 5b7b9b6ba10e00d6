package object_test

import (
	"math"
	"testing"
)

// P909: which lines are bare, and where passages end.
func TestPassages(t *testing.T) {
	l := byLines
	hold(t, encodings, "a$_$\t_$$b", ask{0, ip(0), l(0, 2)}, ask{2, ip(0), l(2, 8)}, ask{3, ip(0), l(2, 8)}, ask{4, ip(0), l(2, 8)}, ask{7, ip(0), l(2, 8)}, ask{8, ip(0), l(8, 9)}, ask{9, ip(0), l(8, 9)})
	hold(t, encodings, "_a$b_$__.", ask{0, ip(0), l(0, 9)}, ask{9, ip(0), l(0, 9)}, ask{0, ip(2), no})
	hold(t, wide, "_\u0301$\u3000$\u0301", ask{0, ip(0), l(0, 5)}, ask{5, ip(0), l(5, 6)}, ask{6, ip(0), l(5, 6)}) // the first atoms decide
	hold(t, encodings, "a\r\n \r\rb\n", ask{0, ip(0), l(0, 3)}, ask{1, ip(0), l(0, 3)}, ask{2, ip(0), l(0, 3)}, ask{3, ip(0), l(3, 6)}, ask{5, ip(0), l(3, 6)}, ask{6, ip(0), l(6, 8)}, ask{8, ip(0), no}, ask{8, ap(0), no})
	hold(t, encodings, "$", ask{0, ip(0), l(0, 1)}, ask{1, ip(0), no}, ask{0, ap(0), no}, ask{1, ap(0), no})
	hold(t, encodings, "_", ask{0, ip(0), l(0, 1)}, ask{1, ip(0), l(0, 1)}, ask{1, ap(0), no})
	hold(t, encodings, "$$a", ask{0, ip(0), l(0, 2)}, ask{1, ip(2), l(0, 3)}, ask{1, ip(3), no}, ask{2, ip(0), l(2, 3)})
	hold(t, encodings, "a$$", ask{0, ip(2), l(0, 3)}, ask{2, ip(0), l(2, 3)}, ask{3, ip(0), no}, ask{0, ip(3), no})
}

// P910: OPara counts all passages.
func TestInnerParas(t *testing.T) {
	l := byLines
	s := "a$$b$c$_$$d" // passages: 0-2 2-3 3-7 7-10 10-11
	hold(t, encodings, s,
		ask{0, ip(1), l(0, 2)}, ask{0, ip(2), l(0, 3)}, ask{0, ip(3), l(0, 7)}, ask{0, ip(4), l(0, 10)}, ask{0, ip(5), l(0, 11)}, ask{0, ip(6), no}, ask{0, ip(math.MaxInt), no},
		ask{2, ip(0), l(2, 3)}, ask{2, ip(4), l(2, 11)}, ask{2, ip(5), no}, ask{5, ip(0), l(3, 7)}, ask{5, ip(2), l(3, 10)}, ask{9, ip(0), l(7, 10)}, ask{9, ip(2), l(7, 11)}, ask{9, ip(3), no}, ask{11, ip(0), l(10, 11)}, ask{11, ip(2), no})
}

// P910: OAPara takes the bare lines behind, else those ahead; where it begins with bare ones, they come first.
func TestOuterParas(t *testing.T) {
	l := byLines
	s := "a$$b$c$_$$d"
	hold(t, encodings, s,
		ask{0, ap(0), l(0, 3)}, ask{0, ap(2), l(0, 10)}, ask{0, ap(3), l(0, 11)}, ask{0, ap(4), no}, ask{0, ap(math.MaxInt), no},
		ask{2, ap(1), l(2, 7)}, ask{2, ap(2), l(2, 11)}, ask{2, ap(3), no}, ask{5, ap(1), l(3, 10)}, ask{5, ap(2), l(2, 11)}, ask{5, ap(3), no},
		ask{7, ap(1), l(7, 11)}, ask{7, ap(2), no}, ask{10, ap(1), l(7, 11)}, ask{11, ap(0), l(7, 11)}, ask{10, ap(2), no})
	hold(t, encodings, "a$b$", ask{0, ap(0), l(0, 4)}, ask{3, ap(1), l(0, 4)}, ask{3, ap(2), no}, ask{4, ap(1), no})
	hold(t, encodings, "$a", ask{0, ap(0), l(0, 2)}, ask{1, ap(0), l(0, 2)}, ask{0, ap(2), no})
	hold(t, encodings, "$_$a$$", ask{3, ap(0), l(3, 6)}, ask{0, ap(0), l(0, 5)}, ask{5, ap(0), no}, ask{6, ap(0), no})
	hold(t, encodings, "a$_", ask{0, ap(0), l(0, 3)}, ask{2, ap(0), no}, ask{3, ap(0), no})
}

package object_test

import (
	"math"
	"strings"
	"testing"

	"copyist/api"
)

// P907: each bracket has its own fellow; others are not looked at.
func TestBrackets(t *testing.T) {
	c := byChars
	opening, closing := "([{<", ")]}>"
	for i, arg := range blockArgs {
		open, shut := opening[i:i+1], closing[i:i+1]
		hold(t, encodings, "x"+open+"y"+shut+"z",
			ask{0, ib(arg, 0), no}, ask{1, ib(arg, 0), c(2, 3)}, ask{2, ib(arg, 0), c(2, 3)}, ask{3, ib(arg, 0), c(2, 3)}, ask{4, ib(arg, 0), no}, ask{5, ib(arg, 0), no},
			ask{1, ab(arg, 1), c(1, 4)}, ask{3, ab(arg, 1), c(1, 4)}, ask{2, ab(arg, 2), no}, ask{2, ab(arg, math.MaxInt), no})
		for j, other := range blockArgs {
			if i != j {
				hold(t, encodings, "x"+open+"y"+shut+"z", ask{2, ib(other, 0), no})
				hold(t, encodings, open+opening[j:j+1]+"y"+shut, ask{2, ib(arg, 0), c(1, 3)}, ask{2, ib(other, 0), no})
				hold(t, encodings, open+"'"+closing[j:j+1]+"y\\"+shut+"'", ask{1, ib(arg, 0), c(1, 5)}, ask{6, ib(arg, 0), no})
			}
		}
	}
}

// P907: blocks within blocks and one beside the other, counted from the innermost on.
func TestNestedBlocks(t *testing.T) {
	c := byChars
	hold(t, encodings, "((a)(b(c)))", // blocks: 0-10, 1-3, 4-9, 6-8
		ask{0, ab(40, 0), c(0, 11)}, ask{0, ab(40, 2), no}, ask{1, ab(40, 0), c(1, 4)}, ask{1, ab(40, 2), c(0, 11)}, ask{1, ab(40, 3), no},
		ask{7, ab(40, 0), c(6, 9)}, ask{7, ab(40, 2), c(4, 10)}, ask{7, ab(40, 3), c(0, 11)}, ask{7, ab(40, 4), no}, ask{7, ib(40, math.MaxInt), no},
		ask{8, ib(40, 0), c(7, 8)}, ask{9, ib(40, 0), c(5, 9)}, ask{10, ib(40, 0), c(1, 10)}, ask{11, ib(40, 0), no}, ask{5, ib(40, 2), c(1, 10)})
	hold(t, encodings, "()", ask{0, ib(40, 0), c(1, 1)}, ask{1, ib(40, 0), c(1, 1)}, ask{1, ab(40, 0), c(0, 2)}, ask{2, ab(40, 0), no})
	n := 300
	deep := strings.Repeat("(", n) + strings.Repeat(")", n)
	for _, k := range []int{1, 2, 100, n} {
		hold(t, encodings, deep, ask{n - 1, ab(40, k), c(n-k, n+k)}, ask{n, ib(40, k), c(n-k+1, n+k-1)})
	}
	hold(t, encodings, deep, ask{n, ab(40, n+1), no}, ask{0, ab(40, 1), c(0, 2*n)}, ask{0, ab(40, 2), no}, ask{2*n - 1, ab(40, 1), c(0, 2*n)})
}

// P907: brackets without a fellow make nothing, and hide nothing that is a block.
func TestBracketsLeftOver(t *testing.T) {
	c := byChars
	hold(t, encodings, "(a(b)c", ask{0, ib(40, 0), no}, ask{1, ib(40, 0), no}, ask{3, ib(40, 0), c(3, 4)}, ask{3, ib(40, 2), no}, ask{5, ib(40, 0), no})
	hold(t, encodings, "a(b)c)d", ask{2, ib(40, 0), c(2, 3)}, ask{2, ib(40, 2), no}, ask{4, ib(40, 0), no}, ask{5, ib(40, 0), no}, ask{6, ib(40, 0), no})
	hold(t, encodings, ")a(b)", ask{0, ib(40, 0), no}, ask{1, ib(40, 0), no}, ask{3, ib(40, 0), c(3, 4)}, ask{3, ib(40, 2), no})
	hold(t, encodings, "(a)(b", ask{1, ib(40, 0), c(1, 2)}, ask{4, ib(40, 0), no})
	hold(t, encodings, "((a)", ask{0, ib(40, 0), no}, ask{1, ib(40, 0), c(2, 3)}, ask{2, ib(40, 2), no})
	hold(t, encodings, "(a))b)", ask{3, ib(40, 0), no}, ask{1, ib(40, 0), c(1, 2)}, ask{4, ib(40, 0), no})
	hold(t, encodings, ")(", ask{0, ib(40, 0), no}, ask{1, ib(40, 0), no}, ask{2, ib(40, 0), no})
	hold(t, encodings, "([)]", ask{1, ib(40, 0), c(1, 2)}, ask{2, ib(91, 0), c(2, 3)}, ask{3, ib(40, 0), no}) // each sort for itself
}

// P907: a bracket with an accent upon it is none; an offset within a cluster is the cluster's.
func TestBracketsWithAccents(t *testing.T) {
	c := byChars
	hold(t, wide, "((\u0301a)b)", ask{3, ib(40, 0), c(1, 4)}, ask{1, ib(40, 0), c(1, 4)}, ask{2, ib(40, 0), c(1, 4)}, ask{5, ib(40, 0), no}, ask{3, ib(40, 2), no})
	hold(t, wide, "(a)\u0301b)", ask{0, ib(40, 0), c(1, 5)}, ask{2, ib(40, 0), c(1, 5)}, ask{3, ib(40, 0), c(1, 5)}, ask{5, ab(40, 0), c(0, 6)})
	hold(t, wide, "\u0600(a)", ask{2, ib(40, 0), no})
	hold(t, wide, "(e\u0301)", ask{2, ib(40, 0), c(1, 3)})
	hold(t, wide, "(a)\u0301", ask{1, ib(40, 0), no})
	hold(t, wide, "a\u0301(\r\n)", ask{4, ab(40, 0), c(2, 6)}, ask{3, ab(40, 0), c(2, 6)}, ask{1, ab(40, 0), no})
}

// P907: blocks go over lines; the break's atoms are in them, the text's end is in none.
func TestBlocksOverLines(t *testing.T) {
	c := byChars
	hold(t, encodings, "a(b\r\n\r\nc)d\n",
		ask{0, ib(40, 0), no}, ask{3, ib(40, 0), c(2, 8)}, ask{4, ib(40, 0), c(2, 8)}, ask{5, ab(40, 0), c(1, 9)}, ask{6, ab(40, 0), c(1, 9)}, ask{9, ab(40, 0), no}, ask{11, ab(40, 0), no})
	hold(t, encodings, "\n(\n", ask{0, ib(40, 0), no}, ask{1, ib(40, 0), no}, ask{3, ib(40, 0), no})
}

// P908: by lines, and what just misses it.
func TestBlocksByLines(t *testing.T) {
	c, l := byChars, byLines
	for arg, pair := range map[int]string{40: "()", 91: "[]", 123: "{}", 60: "<>"} {
		turn := func(s string) string { return strings.NewReplacer("{", pair[:1], "}", pair[1:]).Replace(s) }
		hold(t, encodings, turn("x{$a$b$}y"), ask{3, ib(arg, 0), l(3, 7)}, ask{1, ib(arg, 0), l(3, 7)}, ask{7, ib(arg, 1), l(3, 7)}, ask{3, ab(arg, 0), c(1, 8)})
		hold(t, encodings, turn("{_$a$}"), ask{3, ib(arg, 0), c(1, 5)})
		hold(t, encodings, turn("{$a$b}"), ask{2, ib(arg, 0), c(1, 5)})
		hold(t, encodings, turn("{$a$_b_}"), ask{2, ib(arg, 0), c(1, 7)})
		hold(t, encodings, turn("{a$}"), ask{1, ib(arg, 0), c(1, 3)})
		hold(t, encodings, turn("{$__}"), ask{0, ib(arg, 0), c(1, 1)}, ask{3, ib(arg, 0), c(1, 1)}, ask{0, ab(arg, 0), c(0, 5)})
		hold(t, encodings, turn("{$$}"), ask{0, ib(arg, 0), l(2, 3)})
		hold(t, encodings, turn("{}"), ask{0, ib(arg, 0), c(1, 1)})
		hold(t, encodings, turn("{a}$"), ask{0, ib(arg, 0), c(1, 2)})
		hold(t, encodings, turn("{_}"), ask{0, ib(arg, 0), c(1, 2)})
		hold(t, encodings, turn("{{$a$}$}"), ask{3, ib(arg, 0), l(3, 5)}, ask{3, ib(arg, 2), c(1, 7)})
		hold(t, encodings, turn("{${$a$}$}"), ask{4, ib(arg, 0), l(4, 6)}, ask{4, ib(arg, 2), l(2, 8)}, ask{6, ib(arg, 0), l(4, 6)}, ask{8, ib(arg, 0), l(2, 8)})
		hold(t, encodings, turn("{$a$}}"), ask{2, ib(arg, 0), l(2, 4)}, ask{5, ib(arg, 0), no})
		hold(t, encodings, turn("{$a${}}"), ask{2, ib(arg, 0), c(1, 6)})
	}
	hold(t, encodings, "{\r\na\r\n\t}", ask{1, ib(123, 0), l(3, 6)}, ask{2, ib(123, 0), l(3, 6)})
	hold(t, encodings, "{\ra\n}", ask{0, ib(123, 0), l(2, 4)})
	hold(t, encodings, "{\r\n}", ask{0, ib(123, 0), c(1, 1)}, ask{2, ib(123, 0), c(1, 1)})
	hold(t, encodings, "{\r\r\n}", ask{0, ib(123, 0), l(2, 4)})
	hold(t, wide, "{\u0301$a$}", ask{3, ib(123, 0), no})
	hold(t, wide, "{$a$_\u0301}", ask{2, ib(123, 0), l(2, 4)}) // a blank with an accent upon it is blank
	hold(t, wide, "{$a$\u0301}", ask{2, ib(123, 0), c(1, 5)})
	hold(t, wide, "{$a$\u3000}", ask{2, mv(api.OBlock, 0, 123), l(2, 4)})
}

package object_test

import (
	"math"
	"strings"
	"testing"

	"copyist/api"
)

// Texts as long as they may be are answered, wherever one asks, with counts that are just enough and one more.
func TestFullTexts(t *testing.T) {
	t.Parallel()
	const n = api.MaxBytes
	c, l := byChars, byLines
	latin := []int{api.UTF8, api.Latin1}
	hold(t, latin, strings.Repeat("a", n),
		ask{0, iw(0), c(0, n)}, ask{n / 2, iw(1), c(0, n)}, ask{n, aw(0), c(0, n)}, ask{n, iw(2), no}, ask{n / 2, ip(0), l(0, n)}, ask{0, ip(2), no}, ask{n / 2, iq(34, 0), no}, ask{n / 2, ib(40, 0), no})
	hold(t, latin, strings.Repeat("a.", n/2),
		ask{0, iw(n), c(0, n)}, ask{0, iw(n + 1), no}, ask{n, aw(1), c(n-1, n)}, ask{0, aw(n), c(0, n)}, ask{0, aw(n + 1), no}, ask{7, aW(0), c(0, n)})
	hold(t, latin, strings.Repeat("a ", n/2),
		ask{0, iw(n), c(0, n)}, ask{0, aw(n / 2), c(0, n)}, ask{0, aw(n/2 + 1), no}, ask{1, aW(n/2 - 1), c(1, n-1)}, ask{1, aW(n / 2), no})
	hold(t, latin, strings.Repeat("\n", n),
		ask{0, ip(0), l(0, n)}, ask{n - 1, ip(1), l(0, n)}, ask{n, ip(0), no}, ask{n / 2, ap(1), no}, ask{n / 2, iw(0), no}, ask{n / 2, ip(math.MaxInt), no})
	hold(t, latin, strings.Repeat("a\n\n", n/3),
		ask{0, ip(n / 3 * 2), l(0, n/3*3)}, ask{0, ip(n/3*2 + 1), no}, ask{2, ap(n/3 - 1), l(2, n/3*3-1)}, ask{n/3*3 - 3, ap(0), l(n/3*3-3, n/3*3)}, ask{0, ap(n/3 + 1), no})
	hold(t, latin, strings.Repeat("(", n/2)+strings.Repeat(")", n/2),
		ask{n / 2, ab(40, 1), c(n/2-1, n/2+1)}, ask{n / 2, ab(40, n/2), c(0, n)}, ask{n / 2, ab(40, n/2+1), no}, ask{0, ib(40, 0), c(1, n-1)}, ask{n - 1, ib(40, 0), c(1, n-1)})
	hold(t, latin, strings.Repeat("(", n), ask{0, ib(40, 0), no}, ask{n - 1, ib(40, 0), no}, ask{n, ib(40, 0), no})
	hold(t, latin, strings.Repeat(")", n), ask{0, ib(40, 0), no}, ask{n - 1, ib(40, 0), no}, ask{n, ib(40, 0), no})
	hold(t, latin, strings.Repeat("\"", n), ask{0, iq(34, 0), c(1, 1)}, ask{n, iq(34, 2), c(n-2, n)}, ask{n / 2, aq(34, 0), c(n/2, n/2+2)})
	hold(t, latin, "\""+strings.Repeat(" ", n-2)+"\"", ask{n / 2, iq(34, 0), c(1, n-1)}, ask{0, aq(34, 0), c(0, n)})
	hold(t, latin, strings.Repeat("\\", n-2)+"''", ask{0, iq(39, 0), c(n-1, n-1)})
	hold(t, latin, strings.Repeat("\\", n-3)+"'''", ask{0, iq(39, 0), c(n-1, n-1)})
	hold(t, []int{api.UTF8}, "a"+strings.Repeat("\u0301", n/2-1), ask{n / 4, iw(0), c(0, n/2)}, ask{n / 2, aw(0), c(0, n/2)}, ask{n / 4, ip(0), l(0, n/2)}, ask{n / 4, ib(40, 0), no})
}

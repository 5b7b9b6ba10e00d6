package ex_test

import (
	"math"
	"math/rand"
	"slices"
	"testing"

	"copyist/api"
	"copyist/ex"
	"copyist/operate"
)

// tells holds Lines against the plain reading, and sees that nothing is changed.
func tells(t *testing.T, d *operate.Desk, addrs ...api.Addr) ([]int, api.Errno) {
	t.Helper()
	was := look(d)
	got, err := ex.Lines(d, addrs)
	want, _, _, wantErr := (&plain{Desk: d}).lines(addrs)
	if err != wantErr || !slices.Equal(got, want) {
		t.Fatalf("Lines(%+v) on %q At %d: %v, %d; want %v, %d", addrs, show(was.Atoms), was.At, got, err, want, wantErr)
	}
	if !look(d).equal(was) {
		t.Fatalf("Lines(%+v): something has changed", addrs)
	}
	return got, err
}

func marked(name int) api.Addr { return api.Addr{Kind: api.AMark, N: name} }

func moved(a api.Addr, off int) api.Addr {
	a.Off = off
	return a
}

// TestLines, P1506: every kind of address.
func TestLines(t *testing.T) {
	d := desk(t, "a\nb\na\nc\n", 2)
	for name, at := range map[int]int{'a': 0, 'b': 3, 'c': 6, 'd': 8, '<': 7} {
		d.Book.SetMark(name, at)
	}
	for _, c := range []struct {
		a    api.Addr
		want int
		err  api.Errno
	}{
		{number(0), -1, 0}, {number(1), 0, 0}, {number(4), 3, 0}, {number(5), 0, api.ErrLine}, {number(-1), 0, api.ErrLine}, {moved(number(0), 1), 0, 0}, {moved(number(-3), 4), 0, 0}, {moved(number(9), -5), 3, 0}, {moved(number(9), -9), -1, 0}, {moved(number(9), -10), 0, api.ErrLine},
		{number(999999999), 0, api.ErrLine}, {moved(number(999999999), -999999999), -1, 0}, {moved(number(999999999), -999999996), 2, 0}, {moved(number(1000000000), -999999999), 0, api.ErrLine}, {moved(number(-999999999), 999999999), -1, 0}, {moved(number(-1000000000), 999999999), 0, api.ErrLine}, {moved(number(1), 1000000000), 0, api.ErrLine},
		{number(math.MaxInt), 0, api.ErrLine}, {number(math.MinInt), 0, api.ErrLine}, {moved(number(math.MinInt), math.MaxInt), 0, api.ErrLine}, {moved(number(math.MaxInt), math.MinInt), 0, api.ErrLine}, {moved(number(2), math.MinInt), 0, api.ErrLine},
		{dot(0), 1, 0}, {dot(2), 3, 0}, {dot(3), 0, api.ErrLine}, {dot(-2), -1, 0}, {dot(-3), 0, api.ErrLine}, {dot(math.MaxInt), 0, api.ErrLine}, {dot(math.MinInt), 0, api.ErrLine}, {last(0), 3, 0}, {last(-4), -1, 0}, {last(1), 0, api.ErrLine}, {last(math.MaxInt), 0, api.ErrLine},
		{marked('a'), 0, 0}, {marked('b'), 1, 0}, {marked('c'), 3, 0}, {marked('d'), 3, 0}, {marked('<'), 3, 0}, {moved(marked('d'), -1), 2, 0}, {marked('e'), 0, api.ErrMark}, {marked('A'), 0, api.ErrMark}, {marked(0), 0, api.ErrMark}, {marked(math.MinInt), 0, api.ErrMark}, {marked('a' + 1<<32), 0, api.ErrMark}, {moved(marked('e'), math.MaxInt), 0, api.ErrMark}, {moved(marked('a'), math.MinInt), 0, api.ErrLine},
		{ahead("a"), 2, 0}, {back("a"), 0, 0}, {ahead("b"), 1, 0}, {back("b"), 1, 0}, {ahead("c"), 3, 0}, {back("c"), 3, 0}, {moved(ahead("c"), 1), 0, api.ErrLine}, {moved(back("a"), -1), -1, 0}, {ahead("q"), 0, api.ErrMatch}, {moved(ahead("q"), math.MaxInt), 0, api.ErrMatch}, {ahead("["), 0, api.ErrPattern}, {moved(ahead("a"), math.MinInt), 0, api.ErrLine}, {ahead("^"), 2, 0}, {back("^"), 0, 0}, {ahead("$"), 2, 0}, {back("$"), 0, 0}, {ahead("A"), 0, api.ErrMatch},
		{ahead(""), 0, api.ErrEmpty}, {back(""), 0, api.ErrEmpty}, {moved(back(""), math.MinInt), 0, api.ErrEmpty},
		{api.Addr{}, 0, api.ErrArg}, {api.Addr{Kind: 7}, 0, api.ErrArg}, {api.Addr{Kind: -1}, 0, api.ErrArg}, {api.Addr{Kind: math.MinInt, Off: math.MinInt}, 0, api.ErrArg}, {api.Addr{Kind: api.ADot + 1<<32}, 0, api.ErrArg},
		{api.Addr{Kind: api.ADot, N: math.MaxInt}, 1, 0}, {api.Addr{Kind: api.ALast, N: math.MinInt}, 3, 0}, {api.Addr{Kind: api.ASearch, N: math.MinInt, Pat: spell("c")}, 3, 0},
	} {
		got, err := tells(t, d, c.a)
		if err != c.err || err == api.OK && !slices.Equal(got, []int{c.want}) || err != api.OK && len(got) != 0 {
			t.Errorf("Lines(%+v) = %v, %d; want %d, %d", c.a, got, err, c.want, c.err)
		}
	}
}

// TestLinesInTurn, P1506: one address behind the other, with the pattern that was sought last; the first error is told.
func TestLinesInTurn(t *testing.T) {
	d := desk(t, "a\nb\na\nc\n", 2)
	d.Find = spell("c")
	for _, c := range []struct {
		addrs []api.Addr
		want  []int
		err   api.Errno
	}{
		{nil, nil, 0}, {[]api.Addr{}, nil, 0}, {[]api.Addr{ahead("")}, []int{3}, 0}, {[]api.Addr{ahead("a"), back("")}, []int{2, 0}, 0}, {[]api.Addr{back(""), ahead("b"), ahead(""), dot(0), ahead("")}, []int{3, 1, 1, 1, 1}, 0}, {[]api.Addr{last(0), number(1), number(0)}, []int{3, 0, -1}, 0},
		{[]api.Addr{number(9), {Kind: 9}}, nil, api.ErrLine}, {[]api.Addr{{Kind: 9}, number(9)}, nil, api.ErrArg}, {[]api.Addr{marked('z'), ahead("q")}, nil, api.ErrMark}, {[]api.Addr{ahead("q"), marked('z')}, nil, api.ErrMatch}, {[]api.Addr{dot(math.MaxInt), ahead("[")}, nil, api.ErrLine}, {[]api.Addr{dot(0), dot(0), dot(9)}, nil, api.ErrLine},
	} {
		got, err := tells(t, d, c.addrs...)
		if err != c.err || !slices.Equal(got, c.want) {
			t.Errorf("Lines(%+v) = %v, %d; want %v, %d", c.addrs, got, err, c.want, c.err)
		}
	}
	if show(d.Find) != "c" {
		t.Errorf("Find: %q", show(d.Find))
	}
}

// TestLinesSettings, P1506: whatever the case, and not round the text's ends.
func TestLinesSettings(t *testing.T) {
	d := desk(t, "x\nB\ny\nb\n", 4)
	d.Set.IgnoreCase = true
	tells(t, d, back("B"))
	if got, err := tells(t, d, ahead("X"), back("b"), ahead("B")); err != api.OK || !slices.Equal(got, []int{0, 1, 3}) {
		t.Errorf("%v, %d", got, err)
	}
	d.Set = api.Settings{NoWrap: true}
	for _, c := range []struct {
		a    api.Addr
		want api.Errno
	}{{ahead("x"), api.ErrMatch}, {back("x"), 0}, {ahead("b"), 0}, {back("b"), api.ErrMatch}, {ahead("y"), api.ErrMatch}, {back("y"), api.ErrMatch}} {
		if _, err := tells(t, d, c.a); err != c.want {
			t.Errorf("%+v: %d", c.a, err)
		}
	}
}

// TestLinesRandom, P1506: addresses of any kind on texts of any kind, wherever the cursor is.
func TestLinesRandom(t *testing.T) {
	random := rand.New(rand.NewSource(1506))
	pats := []string{"", "", "a", "b", "^", "$", "^$", "x*", "q", "[", "\\<a"}
	nums := []int{-3, -2, -1, 0, 0, 0, 0, 1, 1, 2, 3, 4, 5, 97, 98, 999999999, -999999999, 1000000000, -1000000000, math.MaxInt, math.MinInt}
	for _, text := range shapes() {
		for range 150 {
			d := desk(t, text, random.Intn(len(text)+4)-2)
			d.Set = api.Settings{IgnoreCase: random.Intn(2) == 0, NoWrap: random.Intn(2) == 0}
			d.Book.SetMark('a', random.Intn(d.Book.Text().Len()+1))
			d.Find = spell(pats[random.Intn(4)])
			var addrs []api.Addr
			for range random.Intn(4) {
				addrs = append(addrs, api.Addr{Kind: random.Intn(7), N: nums[random.Intn(len(nums))], Off: nums[random.Intn(len(nums))], Pat: spell(pats[random.Intn(len(pats))])})
			}
			tells(t, d, addrs...)
		}
	}
}

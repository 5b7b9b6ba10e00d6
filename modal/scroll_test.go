package modal_test

import (
	"strings"
	"testing"

	"copyist/api"
)

// scrollRow is keys, and the window and the cursor's line behind them; an error: the last key is refused.
type scrollRow struct {
	keys      string
	top, line int
	err       api.Errno
}

// scrolls gives each row's keys to a new machine with so many lines "abc", in the mode Normal and in both selections.
func scrolls(t *testing.T, height, lines int, rows []scrollRow) {
	t.Helper()
	for _, r := range rows {
		for _, mode := range []string{"", "v", "V"} {
			x := usual.high(height).load(t, []byte(strings.Repeat("abc\n", lines))).does("l" + mode)
			if r.err != api.OK {
				x.fails(r.keys, r.err)
			} else {
				x.does(r.keys)
			}
			if s := x.m.See(); s.Top != r.top || s.At != 4*r.line+1 {
				t.Errorf("height %d, %d lines, %q: Top %d, At %d; want %d, %d", height, lines, r.keys, s.Top, s.At, r.top, 4*r.line+1)
			}
		}
	}
}

// TestScrolling, P1819: in the midst of a text and at both its ends.
func TestScrolling(t *testing.T) {
	scrolls(t, 5, 30, []scrollRow{
		{"␆", 3, 3, 0}, {"2␆", 6, 6, 0}, {"99␆", 25, 25, 0}, {"99␆␆", 25, 25, api.ErrMove}, {"␂", 0, 0, api.ErrMove}, {"␆␂", 0, 3, 0}, {"␆j␂", 0, 4, 0}, {"4␆2␂", 6, 10, 0}, {"99␆99␂", 0, 4, 0}, {"jjjj␆", 3, 4, 0},
		{"␅", 1, 1, 0}, {"j␅", 1, 1, 0}, {"jj␅", 1, 2, 0}, {"3␅", 3, 3, 0}, {"99␅", 25, 25, 0}, {"99␅␅", 25, 25, api.ErrMove}, {"␙", 0, 0, api.ErrMove}, {"9␅␙", 8, 9, 0}, {"9␅4j␙", 8, 12, 0}, {"9␅4j9␙", 0, 4, 0},
		{"␄", 2, 2, 0}, {"␄␄", 4, 4, 0}, {"4␄", 4, 4, 0}, {"28␄", 25, 28, 0}, {"99␄", 25, 29, 0}, {"99␄␄", 25, 29, api.ErrMove}, {"28␄␄", 25, 29, 0}, {"␕", 0, 0, api.ErrMove}, {"j␕", 0, 0, 0}, {"9␄␕", 7, 7, 0}, {"9␄99␕", 0, 0, 0}, {"99␄3␕", 22, 26, 0},
		{"zt", 0, 0, 0}, {"zz", 0, 0, 0}, {"zb", 0, 0, 0}, {"9jzt", 9, 9, 0}, {"9jzz", 7, 9, 0}, {"9jzb", 5, 9, 0}, {"10zt", 9, 9, 0}, {"10zz", 7, 9, 0}, {"10zb", 5, 9, 0}, {"99zt", 25, 29, 0}, {"99zz", 25, 29, 0}, {"99zb", 25, 29, 0}, {"2zz", 0, 1, 0}, {"2zb", 0, 1, 0}, {"28zt", 25, 27, 0}, {"1zt", 0, 0, 0}, {"9j1zb", 0, 0, 0},
	})
	// the window stands below the bottom, where lines have gone
	x := usual.high(5).load(t, []byte(strings.Repeat("abc\n", 12))).does("10Gzt").seen(api.Sight{Anchor: -1, At: 36, Percent: 83, Top: 7})
	x.does("9G4dd").seen(api.Sight{Anchor: -1, At: 28, Percent: 100, Top: 7, Dirty: true}).refuses(5, api.ErrMove).refuses(6, api.ErrMove).does("␙").seen(api.Sight{Anchor: -1, At: 28, Percent: 100, Top: 6, Dirty: true})
}

// TestScrollingHeights, P1819: windows of one line, of two, of more than there are.
func TestScrollingHeights(t *testing.T) {
	scrolls(t, 1, 5, []scrollRow{
		{"␆", 1, 1, 0}, {"9␆", 4, 4, 0}, {"9␆␆", 4, 4, api.ErrMove}, {"9␆␂", 3, 3, 0}, {"␅", 1, 1, 0}, {"3␅", 3, 3, 0}, {"3␅␙", 2, 2, 0}, {"␄", 1, 1, 0}, {"9␄", 4, 4, 0}, {"9␄␕", 3, 3, 0}, {"3zt", 2, 2, 0}, {"3zz", 2, 2, 0}, {"3zb", 2, 2, 0}, {"␂", 0, 0, api.ErrMove}, {"␙", 0, 0, api.ErrMove}, {"␕", 0, 0, api.ErrMove},
	})
	scrolls(t, 2, 5, []scrollRow{
		{"␆", 1, 1, 0}, {"3␆", 3, 3, 0}, {"9␆", 3, 3, 0}, {"9␆␂", 2, 3, 0}, {"␅", 1, 1, 0}, {"j␅", 1, 1, 0}, {"␄", 1, 1, 0}, {"3␄", 3, 3, 0}, {"4␄", 3, 4, 0}, {"3zt", 2, 2, 0}, {"3zz", 2, 2, 0}, {"3zb", 1, 2, 0},
	})
	scrolls(t, 3, 5, []scrollRow{{"␆", 1, 1, 0}, {"2␆", 2, 2, 0}, {"9␆␂", 1, 2, 0}, {"3zz", 1, 2, 0}, {"4zb", 1, 3, 0}, {"␄", 1, 1, 0}})
	scrolls(t, 200, 5, []scrollRow{
		{"␆", 0, 0, api.ErrMove}, {"␂", 0, 0, api.ErrMove}, {"␅", 0, 0, api.ErrMove}, {"␙", 0, 0, api.ErrMove}, {"␄", 0, 4, 0}, {"2␄", 0, 2, 0}, {"␄␕", 0, 0, 0}, {"␄␄", 0, 4, api.ErrMove}, {"3zt", 0, 2, 0}, {"3zz", 0, 2, 0}, {"9zb", 0, 4, 0},
	})
	for _, height := range []int{1, 2, 5, 200} {
		x := usual.high(height).load(t, nil)
		for _, k := range []int{2, 4, 5, 6, 21, 25} {
			x.refuses(k, api.ErrMove).does("99").refuses(k, api.ErrMove)
		}
		x.does("ztzzzb9zt").at(0)
	}
}

// TestScrollingAtTheGoal, P1819: the cursor goes to the goal column of the line, which stays.
func TestScrollingAtTheGoal(t *testing.T) {
	text := "abcdef\nab\n\tx\nabcdef\ne\u0301e\u0301e\u0301e\u0301\nabcdef\n"
	x := usual.high(2).load(t, []byte(text)).does("$h␅").at(8).does("␅").at(11).does("␅").at(17).does("␅").at(26).refuses(5, api.ErrMove).does("j").at(33)
	x.does("␙").at(26).does("9␙").at(8).does("3␄").at(26).does("␕").at(17).does("3zt").at(11).does("9zz").at(33).does("1zb").at(4)
	// a line that is still seen: the cursor stays where it is
	x = usual.high(3).load(t, []byte(text)).does("$j0j").at(10).does("$").at(11).does("␅").at(11).does("k").at(8)
	usual.high(3).load(t, []byte(text)).does("jvl").at(8).answers("r\x01", api.ErrKey).at(7).does("␅").at(7).does("j").at(11)
	// the last line without a break, and empty ones
	x = usual.high(1).load(t, []byte("ab\n\nab")).does("$␅").at(3).does("␅").at(5).refuses(5, api.ErrMove).does("␂").at(3)
}

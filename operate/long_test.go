package operate_test

import (
	"bytes"
	"testing"
	"time"

	"copyist/api"
	"copyist/operate"
)

// long are texts of MaxBytes bytes: one line, lines as short as can be, empty ones, one cluster, blanks.
func long() map[string][]byte {
	texts := map[string][]byte{}
	for _, s := range []string{"a", "a\n", "\n", "\r\n", " \n", " ", "\t", "a b\r", "e\u0301"} {
		texts[s] = bytes.Repeat([]byte(s), api.MaxBytes/len(s))
	}
	texts["one cluster"] = append([]byte("ee"), bytes.Repeat([]byte("\u0301"), api.MaxBytes/2-1)...)
	return texts
}

// TestLong: no call takes long on the longest texts, wherever the cursor is.
func TestLong(t *testing.T) {
	for name, b := range long() {
		n := 0
		for _, a := range []func(*operate.Desk) api.Errno{
			func(d *operate.Desk) api.Errno { return d.Yank('a', rows(0, n)) },
			func(d *operate.Desk) api.Errno { return d.Delete('a', rows(n/2, n/2)) },
			func(d *operate.Desk) api.Errno { return d.Delete('a', rows(0, n)) },
			func(d *operate.Desk) api.Errno { return d.Change('a', rows(1, n)) },
			func(d *operate.Desk) api.Errno { return d.Case(api.VFlip, chars(0, n)) },
			func(d *operate.Desk) api.Errno { return d.Shift(rows(0, n), 1<<40) },
			func(d *operate.Desk) api.Errno { return d.Shift(rows(0, n), -1<<40) },
			func(d *operate.Desk) api.Errno { return d.Join(0, len(rowsOf(text(d)))-1, false) },
			func(d *operate.Desk) api.Errno { return d.Join(0, len(rowsOf(text(d)))-1, true) },
			func(d *operate.Desk) api.Errno { return d.Over(9999, 'x') },
			func(d *operate.Desk) api.Errno { return d.Over(1, 10) },
			func(d *operate.Desk) api.Errno { return d.Put('b', true, 9999) },
			func(d *operate.Desk) api.Errno { return d.Type([]int{'x'}) },
		} {
			for _, part := range []int{0, 2} {
				d, _ := operate.New(api.UTF8, b, api.MaxBytes, api.LF, 5)
				d.Bank.Yank('b', byLines("abc\n"))
				n = d.Book.Text().Len()
				d.At = n * part / 2
				begun := time.Now()
				a(d)
				if took := time.Since(begun); took > 3*time.Second {
					t.Errorf("a text of %q: a call took %v", name, took)
				}
			}
		}
	}
}

func text(d *operate.Desk) []int { return d.Book.Text().Atoms(0, d.Book.Text().Len()) }

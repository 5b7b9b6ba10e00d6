package ex_test

import (
	"strings"
	"testing"
	"time"

	"copyist/api"
)

// TestLong: on long texts no line takes long, however many lines wait in a global command.
func TestLong(t *testing.T) {
	texts := map[string]string{
		"empty lines": strings.Repeat("\n", 7000),
		"short lines": strings.Repeat("ab\n", 5000),
		"one line":    strings.Repeat("a ", 32768),
		"lines":       strings.Repeat("some words, and then some more of them\r\n", 1100),
	}
	for name, text := range texts {
		for _, line := range []string{"g/^/d", "g/^/m0", "g/^/m$-1", "g/^/s/^/-/", "g/^/y A", "g/^/d A", "g/^/j", "g/^/>", "g/^/t$", "g/^/$d", "v/q/k a", "g/^/s//x/n", "g/a/s//b/", "%s/[^ ]*/<&>/g", "%s/x*/" + strings.Repeat("long", 60) + "/g", "%j", "%m0", "%t$", "%>", "%<", "%d", "1,$-1m$"} {
			d := deskIn(t, api.UTF8, spell(text), 0, 65536)
			begin := time.Now()
			w, err := runQuietly(d, line)
			if took := time.Since(begin); took > 10*time.Second {
				t.Errorf("%s: %q took %v (%v, %d)", name, line, took, w, err)
			}
		}
	}
}

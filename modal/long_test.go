package modal_test

import (
	"strings"
	"testing"
	"time"

	"copyist/api"
	"copyist/modal"
)

// TestLong: on long texts no key takes long, with whatever count.
func TestLong(t *testing.T) {
	texts := map[string]string{
		"one line":    strings.Repeat("a ", 32000),
		"brackets":    strings.Repeat("(", 32000) + strings.Repeat(")", 32000),
		"empty lines": strings.Repeat("\n", 64000),
		"short lines": strings.Repeat("ab\n", 20000),
		"lines":       strings.Repeat("some words, and then some more of them\r\n", 1500),
		"accents":     strings.Repeat("e\u0301", 21000),
		"flags":       strings.Repeat("\U0001F1E6", 16000),
	}
	for name, text := range texts {
		for _, keys := range []string{
			"9999l$9999h0", "G$gg", "9999w9999b", "9999jk", "%", "}{", "fafbFa;,", "/a⏎9999n", "?a⏎9999n9999N", "9999*", "9999#", "/x*⏎9999n", "/$⏎9999n", "y9999l9999p", "yyP9999p", "9999Ju", "$9999Xu", "9999xu", "9999ddu", "9999~u", "gUGu", "VGUu", "VGrxu", "VGJu", "VGypu", "VG>u", "VG9999pu", "9999ix␛u", "$9999ax␛u", "9999o␛u", "9999oxy␛u", "9999Rz␛u", "$i⌫⌦␗␕␛u", "G$a⌫⌦␗␕x⏎␛u", "I␛A␛", ":%s/a/b/g⏎u", "9999:d⏎u", "ma`a'aHML", "␆␂␄␕␅␙ztzzzb", "G␂␕zt", "cwx␛9999.u", "dd9999.u", "viwiW", "G$daw", "dap",
		} {
			m, err := modal.New(api.UTF8, []byte(text), api.MaxBytes, api.LF, 200, 20)
			if err != api.OK {
				t.Fatal(err)
			}
			for i, k := range strokes(keys) {
				begin := time.Now()
				m.Key(k)
				if took := time.Since(begin); took > 5*time.Second {
					t.Errorf("%s: key %d of %q took %v", name, i, keys, took)
				}
			}
		}
	}
}

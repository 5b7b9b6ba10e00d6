package copyist_test

import (
	"slices"
	"strings"
	"testing"
	"time"

	"copyist/api"
)

// TestLong: on the longest texts no step takes long.
func TestLong(t *testing.T) {
	texts := map[string]string{
		"one line":    strings.Repeat("a ", 32000),
		"empty lines": strings.Repeat("\n", 64000),
		"lines":       strings.Repeat("some words, and then some more of them\r\n", 1500),
		"accents":     strings.Repeat("e\u0301", 21000),
		"no text":     strings.Repeat("\xC3", 65000),
		"wide":        strings.Repeat("\x00a\x00\n", 16000),
	}
	for name, text := range texts {
		s := usual("a", "a", text, "b", "x\n")
		s.Space = api.MaxSpace
		x := alone(t, s)
		steps := []api.Step{
			typed(":w⏎:w n⏎"), typed("Gox␛:w⏎"), typed(":e b⏎:e a⏎:e⏎"), typed(":r b⏎:0r b⏎:$r b⏎"), typed("u:w! b⏎"), typed(":set ic⏎:f q⏎:w⏎"),
			{Kind: api.StepKeys, Keys: slices.Repeat(strokes("lh"), api.MaxKeys/2)}, {Kind: api.StepKeys, Keys: append(strokes("i"), slices.Repeat(strokes("y"), 300)...)}, typed("␛u"),
			seen, looked("a"), {Kind: api.StepReg, N: '0'}, {Kind: api.StepRestart, Name: "a"},
		}
		for i, step := range steps {
			began := time.Now()
			x.e.Do(step)
			if took := time.Since(began); took > 5*time.Second {
				t.Errorf("%s: step %d took %v", name, i, took)
			}
		}
	}
}

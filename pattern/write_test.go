package pattern

import (
	"strings"
	"testing"

	"copyist/api"
)

// However a pattern is made, written out it has not many more steps than it may have parts, and not many more points at which ways are looked for than it has things in one another.
func TestWrittenOut(t *testing.T) {
	for _, src := range []string{
		"", "a", `\(a\|b\)*`, strings.Repeat(`a\{255}`, 16), strings.Repeat(`a\{,255}`, 16), `\%(a\{64}\)\{63}`, `\%(\%(a\{,15}\)\{,15}\)\{,15}`,
		`\%(\)\{,255}`, `\%(\%(\%(\)\{,255}\)\{63}\)\{63}`, `\%(\%(\%(\)*\)\{63}\)\{63}`, `\%(\%(\%(\%(\)\)\{255}\)\{63}\)\{63}`, `\%(\%(\|\)\{,60}\)\{30}`, `\%(\(\)\{,255}\)\{,8}`, strings.Repeat(`\%(`, 40) + "a" + strings.Repeat(`\)*`, 40),
	} {
		var ints []int
		for _, c := range src {
			ints = append(ints, int(c))
		}
		p, at, e := Compile(ints, false)
		if e != api.OK {
			t.Errorf("%q: %d at %d", src, e, at)
			continue
		}
		if n := len(p.steps); n > 3*api.MaxParts+1 {
			t.Errorf("%q has %d steps", src, n)
		}
		if p.meets > 42*len(p.steps) {
			t.Errorf("%q has %d meeting points at %d steps", src, p.meets, len(p.steps))
		}
	}
}

package keys_test

import (
	"math"
	"slices"
	"testing"

	"copyist/api"
	"copyist/keys"
)

func ints(s string) []int {
	var l []int
	for _, c := range s {
		l = append(l, int(c))
	}
	return l
}

// text is keys as a test tells them.
func text(l []int) string {
	var s []rune
	for _, k := range l {
		if k < 0 || k > 0x10FFFF {
			k = 0xFFFD
		}
		s = append(s, rune(k))
	}
	return string(s)
}

func cmd(reg, count, verb, move, arg int) api.Cmd {
	return api.Cmd{Reg: reg, Count: count, Verb: verb, Move: move, Arg: arg}
}

// modesOf are modes of a kind: those of the three, and such as are none of them.
func modesOf(selection bool) []int {
	if selection {
		return []int{api.Visual, api.VisualLine}
	}
	return []int{api.Normal, api.Insert, api.Replace, api.Command, api.Search, api.SearchBack, 8, -1, api.Visual + 1<<32, math.MinInt, math.MaxInt}
}

// farKeys are keys that are bound to nothing, but may be names and arguments.
func farKeys() []int {
	return []int{-7, -1, 1, 10, 127, 128, 255, 0x2603, 0x10FFFF, 0x110000, 'd' + 1<<32, 'd' - 1<<32, 'd' + 1<<16, 'd' + 256, '3' + 1<<32, '"' + 1<<32, 27 + 1<<32, 1 << 32, -'d', -27, math.MinInt, math.MaxInt}
}

// alphabet is every key of a table, every other small one but the escape, and far ones; rising.
func alphabet() []int {
	l := farKeys()
	for k := range 127 {
		if k != api.KeyEscape {
			l = append(l, k)
		}
	}
	slices.Sort(l)
	return slices.Compact(l)
}

// says feeds keys to a new parser, each of which must be answered as the plain reading has it, and tells what the last one is answered.
func says(t *testing.T, mode int, l []int) (api.Cmd, int) {
	t.Helper()
	p := keys.New()
	if p == nil {
		t.Fatal("New() = nil")
	}
	if len(p.Pending()) != 0 {
		t.Fatalf("a new parser has the keys %v", p.Pending())
	}
	return feed(t, p, mode, l)
}

// feed is says for a parser that has no keys.
func feed(t *testing.T, p *keys.Parser, mode int, l []int) (api.Cmd, int) {
	t.Helper()
	kind := plainKinds[mode == api.Visual || mode == api.VisualLine]
	var c api.Cmd
	say := api.KeyMore
	for i, key := range l {
		if say != api.KeyMore {
			t.Fatalf("%q in the mode %d: %d ahead of its last key", text(l), mode, say)
		}
		c, say = p.Feed(mode, key)
		want, wantSay := kind.read(l[:i+1])
		if c != want || say != wantSay {
			t.Fatalf("%v (%q) in the mode %d: %v, %d, want %v, %d", l[:i+1], text(l[:i+1]), mode, c, say, want, wantSay)
		}
		waiting := l[:i+1]
		if say != api.KeyMore {
			waiting = nil
		}
		if got := p.Pending(); !slices.Equal(got, waiting) {
			t.Fatalf("%q in the mode %d: pending %v, want %v", text(l[:i+1]), mode, got, waiting)
		}
	}
	return c, say
}

// spells says that keys, fed to a new parser, are a command with their last one, and not sooner.
func spells(t *testing.T, mode int, l []int, want api.Cmd) {
	t.Helper()
	if c, say := says(t, mode, l); c != want || say != api.KeyDone {
		t.Fatalf("%v (%q) in the mode %d: %v, %d, want %v", l, text(l), mode, c, say, want)
	}
}

// ends says what the last of some keys is answered, which is no command.
func ends(t *testing.T, mode int, l []int, want int) {
	t.Helper()
	if c, say := says(t, mode, l); c != (api.Cmd{}) || say != want {
		t.Fatalf("%v (%q) in the mode %d: %v, %d, want %d", l, text(l), mode, c, say, want)
	}
}

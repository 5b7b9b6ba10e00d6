package keys_test

import (
	"math"
	"strings"
	"testing"

	"copyist/api"
	"copyist/keys"
)

// args are keys that may be an argument: any but the escape.
func args() []int { return append(alphabet(), 28, 26, -27, math.MinInt+27) }

// bound says that a row of a table is a command in all modes of a kind; one that asks for an argument is with each.
func bound(t *testing.T, selection bool, row string, want api.Cmd) {
	t.Helper()
	ahead, asks := strings.CutSuffix(row, anyKey)
	for _, mode := range modesOf(selection) {
		if !asks {
			spells(t, mode, ints(ahead), want)
			continue
		}
		p := keys.New()
		for _, arg := range args() {
			want.Arg = arg
			if c, say := feed(t, p, mode, append(ints(ahead), arg)); c != want || say != api.KeyDone {
				t.Fatalf("%q and the key %d in the mode %d: %v, %d, want %v", ahead, arg, mode, c, say, want)
			}
		}
	}
}

// TestMotions, P1304: each row alone in every mode, and behind every operator in the mode Normal.
func TestMotions(t *testing.T) {
	for row, move := range plainMotions {
		bound(t, false, row, cmd(0, 0, api.VMove, move, 0))
		bound(t, true, row, cmd(0, 0, api.VMove, move, 0))
		for op, verb := range plainOperators {
			bound(t, false, op+row, cmd(0, 0, verb, move, 0))
			bound(t, false, `"x2`+op+row, cmd('x', 2, verb, countedMove(move), 0))
			if move != api.MStart {
				bound(t, false, op+"7"+row, cmd(0, 7, verb, countedMove(move), 0))
			}
		}
	}
}

// countedMove is what a motion is with a count.
func countedMove(move int) int {
	if move == api.MMatch {
		return api.MPercent
	}
	return move
}

// TestPercent, P1304: the count decides, wherever it comes from.
func TestPercent(t *testing.T) {
	for _, mode := range append(modesOf(false), modesOf(true)...) {
		spells(t, mode, ints("%"), cmd(0, 0, api.VMove, api.MMatch, 0))
		spells(t, mode, ints(`"z%`), cmd('z', 0, api.VMove, api.MMatch, 0))
		spells(t, mode, ints("1%"), cmd(0, 1, api.VMove, api.MPercent, 0))
		spells(t, mode, ints(`4"z%`), cmd('z', 4, api.VMove, api.MPercent, 0))
	}
	for op, verb := range plainOperators {
		spells(t, api.Normal, ints(op+"%"), cmd(0, 0, verb, api.MMatch, 0))
		spells(t, api.Normal, ints("3"+op+"%"), cmd(0, 3, verb, api.MPercent, 0))
		spells(t, api.Normal, ints(op+"1%"), cmd(0, 1, verb, api.MPercent, 0))
		spells(t, api.Normal, ints(op+"%"), cmd(0, 0, verb, api.MMatch, 0))
		spells(t, api.Normal, ints("3"+op+"5%"), cmd(0, 15, verb, api.MPercent, 0))
	}
}

// TestObjects, P1305: alone in a selection, and behind an operator in the mode Normal.
func TestObjects(t *testing.T) {
	for row, o := range plainObjects {
		bound(t, true, row, cmd(0, 0, api.VMove, o[0], o[1]))
		bound(t, true, `2"k`+row, cmd('k', 2, api.VMove, o[0], o[1]))
		for op, verb := range plainOperators {
			bound(t, false, op+row, cmd(0, 0, verb, o[0], o[1]))
			bound(t, false, "2"+op+"3"+row, cmd(0, 6, verb, o[0], o[1]))
		}
	}
	// In the mode Normal i and a are commands of their own.
	spells(t, api.Normal, ints("i"), cmd(0, 0, api.VInsert, 0, 0))
	spells(t, api.Normal, ints("a"), cmd(0, 0, api.VAppend, 0, 0))
	for _, key := range alphabet() {
		for _, first := range []int{'i', 'a'} {
			if _, ok := plainObjects[text([]int{first, key})]; ok {
				continue
			}
			ends(t, api.Visual, []int{first, key}, api.KeyBad)
			ends(t, api.Normal, []int{'d', first, key}, api.KeyBad)
			ends(t, api.Normal, []int{'g', 'u', first, key}, api.KeyBad)
		}
	}
}

// TestOperators, P1306: an operator with its own last key, with its own two keys, and with another's.
func TestOperators(t *testing.T) {
	for op, verb := range plainOperators {
		lines := cmd(0, 0, verb, api.MLines, 0)
		last := op[len(op)-1:]
		bound(t, false, op+last, lines)
		ends(t, api.Normal, ints(op), api.KeyMore)
		ends(t, api.Normal, ints(op+"2"), api.KeyMore)
		ends(t, api.Normal, ints(op+"g"), api.KeyMore)
		lines.Count = 12
		bound(t, false, "3"+op+"4"+last, lines)
		bound(t, false, op+"12"+last, lines)
		if len(op) == 2 {
			bound(t, false, "2"+op+"6"+op, lines)
			bound(t, false, "12"+op+op, lines)
		}
		for other := range plainOperators {
			if other == op {
				continue
			}
			ends(t, api.Normal, ints(op+other), api.KeyBad)
			if len(other) == 2 {
				ends(t, api.Normal, ints(op+other[1:]), api.KeyBad)
			}
		}
		// Neither a register nor any other command may follow it.
		ends(t, api.Normal, ints(op+`"`), api.KeyBad)
		ends(t, api.Normal, ints(op+`3"`), api.KeyBad)
		ends(t, api.Normal, ints(op+"x"), api.KeyBad)
		ends(t, api.Normal, ints(op+"5p"), api.KeyBad)
		ends(t, api.Normal, ints(op+"gJ"), api.KeyBad)
		ends(t, api.Normal, ints(op+"g3"), api.KeyBad)
	}
	ends(t, api.Normal, ints("dgd"), api.KeyBad)
	ends(t, api.Normal, ints("g3"), api.KeyBad)
}

// TestNormal, P1307.
func TestNormal(t *testing.T) {
	for row, v := range plainNormal {
		bound(t, false, row, cmd(0, 0, v[0], v[1], 0))
		bound(t, false, `"c4"a5`+row, cmd('a', 20, v[0], v[1], 0))
	}
}

// TestSelection, P1308: its commands come with their first row, with no motion behind it.
func TestSelection(t *testing.T) {
	for row, verb := range plainSelection {
		bound(t, true, row, cmd(0, 0, verb, 0, 0))
		bound(t, true, `5"a4"c`+row, cmd('c', 20, verb, 0, 0))
	}
	for _, s := range []string{"D", "X", "C", "S", "Y", "I", "A", "O", "R", ".", "&", "\x12", "Z", "gv", "\n", "i3", "a0", "g3"} {
		for _, mode := range modesOf(true) {
			ends(t, mode, ints(s), api.KeyBad)
		}
	}
}

// TestAllRows, P1302 to P1309: every row of up to three keys, as far as the keys ahead of its last one wait for it, is what the tables say, and nothing else is bound.
func TestAllRows(t *testing.T) {
	for selection, kind := range plainKinds {
		p := keys.New()
		for _, mode := range modesOf(selection)[:2] {
			grow(t, p, kind, mode, nil, alphabet(), 3)
		}
	}
}

// TestDeepRows: longer ones, of a few keys that have to do with one another.
func TestDeepRows(t *testing.T) {
	for selection, kind := range plainKinds {
		p := keys.New()
		grow(t, p, kind, modesOf(selection)[1], nil, ints(`0123"gUdw%if`), 6)
	}
}

// grow feeds keys and each one more, and goes on with those that wait.
func grow(t *testing.T, p *keys.Parser, kind *plainKind, mode int, ahead, of []int, deep int) {
	for _, key := range of {
		p.Reset()
		for _, k := range ahead {
			p.Feed(mode, k)
		}
		row := append(ahead[:len(ahead):len(ahead)], key)
		want, wantSay := kind.read(row)
		if c, say := p.Feed(mode, key); c != want || say != wantSay {
			t.Fatalf("%v (%q) in the mode %d: %v, %d, want %v, %d", row, text(row), mode, c, say, want, wantSay)
		}
		if waits := len(p.Pending()); waits != 0 && waits != len(row) || (waits == 0) == (wantSay == api.KeyMore) {
			t.Fatalf("%v (%q) in the mode %d: pending %v", row, text(row), mode, p.Pending())
		}
		if wantSay == api.KeyMore && deep > 1 {
			grow(t, p, kind, mode, row, of, deep-1)
		}
	}
}

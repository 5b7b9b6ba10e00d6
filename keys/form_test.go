package keys_test

import (
	"math"
	"math/rand"
	"slices"
	"strconv"
	"strings"
	"testing"

	"copyist/api"
	"copyist/keys"
)

// TestModes, P1302: what is neither of the two selections is taken as Normal.
func TestModes(t *testing.T) {
	for _, mode := range modesOf(false) {
		spells(t, mode, ints("x"), cmd(0, 0, api.VDelete, api.MRight, 0))
		ends(t, mode, ints("d"), api.KeyMore)
		if got := keys.Spell(mode, cmd(0, 0, api.VDelete, 0, 0)); got != nil {
			t.Fatalf("Spell in the mode %d: %v", mode, got)
		}
		if got := keys.Spell(mode, cmd(0, 0, api.VDelete, api.MRight, 0)); !slices.Equal(got, ints("x")) {
			t.Fatalf("Spell in the mode %d: %v", mode, got)
		}
	}
	for _, mode := range modesOf(true) {
		spells(t, mode, ints("x"), cmd(0, 0, api.VDelete, 0, 0))
		spells(t, mode, ints("d"), cmd(0, 0, api.VDelete, 0, 0))
		if got := keys.Spell(mode, cmd(0, 0, api.VDelete, 0, 0)); !slices.Equal(got, ints("d")) {
			t.Fatalf("Spell in the mode %d: %v", mode, got)
		}
	}
}

// TestRegisters, P1303: a name is any int but 0 and 27; the last one counts.
func TestRegisters(t *testing.T) {
	for _, mode := range []int{api.Normal, api.Visual, api.VisualLine} {
		for _, name := range alphabet() {
			if name == 0 {
				continue
			}
			spells(t, mode, []int{'"', name, 'p'}, cmd(name, 0, api.VPut, 0, 0))
			spells(t, mode, []int{'"', 'a', '"', name, 'j'}, cmd(name, 0, api.VMove, api.MDown, 0))
			spells(t, mode, []int{'"', name, '"', 'a', 'j'}, cmd('a', 0, api.VMove, api.MDown, 0))
			spells(t, mode, []int{'2', '"', name, '3', 'j'}, cmd(name, 6, api.VMove, api.MDown, 0))
			spells(t, mode, []int{'"', name, '0'}, cmd(name, 0, api.VMove, api.MStart, 0))
			ends(t, mode, []int{'"', name}, api.KeyMore)
		}
		for _, l := range [][]int{{'"', 0}, {'"', 'a', '"', 0}, {'3', '"', 0}, {'"', '"', '"', 0}} {
			ends(t, mode, l, api.KeyBad)
		}
		ends(t, mode, ints(`"`), api.KeyMore)
		ends(t, mode, ints(`"""`), api.KeyMore)
		spells(t, mode, ints(`"""3p`), cmd('3', 0, api.VPut, 0, 0))
		spells(t, mode, ints(`""p`), cmd('"', 0, api.VPut, 0, 0))
		spells(t, mode, append(slices.Repeat(ints(`"a`), 500), ints(`"bp`)...), cmd('b', 0, api.VPut, 0, 0))
	}
	for op, verb := range plainOperators {
		spells(t, api.Normal, ints(`"q`+op+"w"), cmd('q', 0, verb, api.MWord, 0))
	}
}

// TestNumbers, P1303: their digits, zeros among them, MaxCount and what is above it.
func TestNumbers(t *testing.T) {
	for _, mode := range []int{api.Normal, api.Visual, api.VisualLine} {
		for _, n := range []int{1, 2, 9, 10, 11, 19, 20, 99, 100, 101, 999, 1000, 1001, 9990, 9998, 9999, 10000, 10001, 65536, 99990, 100000, math.MaxInt32, math.MaxInt} {
			spells(t, mode, ints(strconv.Itoa(n)+"j"), cmd(0, min(n, api.MaxCount), api.VMove, api.MDown, 0))
			spells(t, mode, ints(`"a`+strconv.Itoa(n)+"p"), cmd('a', min(n, api.MaxCount), api.VPut, 0, 0))
		}
		for _, s := range []string{"18446744073709551617", "9223372036854775808", "36893488147419103232", "1" + strings.Repeat("0", 300), strings.Repeat("9", 1000)} {
			spells(t, mode, ints(s+"j"), cmd(0, api.MaxCount, api.VMove, api.MDown, 0))
			spells(t, mode, ints(`2"b`+s+"j"), cmd('b', api.MaxCount, api.VMove, api.MDown, 0))
		}
		// A 0 belongs to a number only right behind one of its digits.
		spells(t, mode, ints("0"), cmd(0, 0, api.VMove, api.MStart, 0))
		spells(t, mode, ints("100j"), cmd(0, 100, api.VMove, api.MDown, 0))
		spells(t, mode, ints(`"50`), cmd('5', 0, api.VMove, api.MStart, 0))
		spells(t, mode, ints(`3"50`), cmd('5', 3, api.VMove, api.MStart, 0))
		spells(t, mode, ints(`30"50`), cmd('5', 30, api.VMove, api.MStart, 0))
		spells(t, mode, ints(`"550j`), cmd('5', 50, api.VMove, api.MDown, 0))
		spells(t, mode, ints(`"0j`), cmd('0', 0, api.VMove, api.MDown, 0))
		spells(t, mode, ints(`"00`), cmd('0', 0, api.VMove, api.MStart, 0))
		ends(t, mode, ints("30"), api.KeyMore)
		ends(t, mode, ints(`"a10"b20`), api.KeyMore)
	}
	p := keys.New() // a 0 behind a number of the last command is none of its digits
	for _, s := range []string{"3j", "0", "5x", "0", "f3", "0"} {
		feed(t, p, api.Normal, ints(s))
	}
}

// TestProducts, P1303: all numbers count, wherever they stand.
func TestProducts(t *testing.T) {
	for _, e := range []struct {
		keys  string
		count int
	}{
		{"2d3w", 6}, {`2"a3d4w`, 24}, {`"a2"b3"c4"d5d6w`, 720}, {"d10w", 10}, {"d105w", 105}, {"10d10w", 100},
		{"99d101w", 9999}, {"100d100w", 9999}, {"3d3333w", 9999}, {"9d1111w", 9999}, {"2d4999w", 9998}, {"2d5000w", 9999},
		{"9999d9999w", 9999}, {"99999999999d99999999999w", 9999}, {`1"a1"a1d1w`, 1}, {`9999"a9999"a9999d9999w`, 9999},
		{"1d9999w", 9999}, {"9999d1w", 9999}, {strings.Repeat(`9999"a`, 40) + "dw", 9999}, {strings.Repeat(`2"a`, 13) + "dw", 8192}, {strings.Repeat(`2"a`, 14) + "dw", 9999},
		{strings.Repeat(`2"a`, 64) + "dw", 9999}, {strings.Repeat(`1"a`, 200) + "7dw", 7},
	} {
		reg := 0
		if i := strings.LastIndexByte(e.keys, '"'); i >= 0 {
			reg = int(e.keys[i+1])
		}
		spells(t, api.Normal, ints(e.keys), cmd(reg, e.count, api.VDelete, api.MWord, 0))
	}
	spells(t, api.Normal, ints("3d0"), cmd(0, 3, api.VDelete, api.MStart, 0))
	spells(t, api.Normal, ints("gU0"), cmd(0, 0, api.VUpper, api.MStart, 0))
	spells(t, api.Normal, ints("3gU20U"), cmd(0, 60, api.VUpper, api.MLines, 0))
	spells(t, api.Normal, ints("d2f2"), cmd(0, 2, api.VDelete, api.MFind, '2'))
	spells(t, api.Visual, ints(`2"a3d`), cmd('a', 6, api.VDelete, 0, 0))
	ends(t, api.Normal, ints("d30"), api.KeyMore)
	// In a selection nothing follows an operator, so no number does.
	p := keys.New()
	if c, say := p.Feed(api.Visual, 'd'); say != api.KeyDone || c.Count != 0 {
		t.Fatalf("d in a selection: %v, %d", c, say)
	}
	feed(t, p, api.Visual, ints("3w"))
}

// TestRandomRows, P1303 to P1309: long rows of many prefixes, and what comes behind them, one after the other to one parser.
func TestRandomRows(t *testing.T) {
	r := rand.New(rand.NewSource(5))
	parts := []string{"0", "1", "9", "20", "305", `"a`, `"0`, `"7`, `""`, "d", "gU", "g", "c", ">", "i", "a", "w", "p", "%", "f", "q", "m", "zz", "ZQ", "u", "U", "~", "\r", "\n", "Z", "J", "B"}
	for selection, kind := range plainKinds {
		p := keys.New()
		var row []int
		for range 200000 {
			for _, key := range ints(parts[r.Intn(len(parts))]) {
				if key == 'd' && r.Intn(20) == 0 {
					key = farKeys()[r.Intn(len(farKeys()))]
				}
				row = append(row, key)
				modes := modesOf(selection)
				want, wantSay := kind.read(row)
				if c, say := p.Feed(modes[r.Intn(len(modes))], key); c != want || say != wantSay {
					t.Fatalf("%v (%q): %v, %d, want %v, %d", row, text(row), c, say, want, wantSay)
				}
				if wantSay != api.KeyMore {
					row = nil
				}
			}
			if got := p.Pending(); !slices.Equal(got, row) {
				t.Fatalf("%v (%q): pending %v", row, text(row), got)
			}
		}
	}
}

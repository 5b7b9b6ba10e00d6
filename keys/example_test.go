package keys_test

import (
	"slices"
	"testing"

	"copyist/api"
	"copyist/keys"
)

// TestExamples, P1303 to P1309: the chapter's table, row by row. It is not held against the plain reading.
func TestExamples(t *testing.T) {
	const normal, visual = api.Normal, api.Visual
	none := api.Cmd{}
	for _, e := range []struct {
		mode int
		keys []int
		want api.Cmd
		say  int
	}{
		{normal, ints("dw"), cmd(0, 0, api.VDelete, api.MWord, 0), api.KeyDone},
		{normal, ints("2d3w"), cmd(0, 6, api.VDelete, api.MWord, 0), api.KeyDone},
		{normal, ints(`"a3"b2yy`), cmd(98, 6, api.VYank, api.MLines, 0), api.KeyDone},
		{normal, ints("10j"), cmd(0, 10, api.VMove, api.MDown, 0), api.KeyDone},
		{normal, ints("0"), cmd(0, 0, api.VMove, api.MStart, 0), api.KeyDone},
		{normal, ints("d0"), cmd(0, 0, api.VDelete, api.MStart, 0), api.KeyDone},
		{normal, ints("99999x"), cmd(0, 9999, api.VDelete, api.MRight, 0), api.KeyDone},
		{normal, ints("f;"), cmd(0, 0, api.VMove, api.MFind, 59), api.KeyDone},
		{normal, []int{'f', 0x2603}, cmd(0, 0, api.VMove, api.MFind, 0x2603), api.KeyDone},
		{normal, []int{'f', 27}, none, api.KeyStop},
		{normal, ints("%"), cmd(0, 0, api.VMove, api.MMatch, 0), api.KeyDone},
		{normal, ints("50%"), cmd(0, 50, api.VMove, api.MPercent, 0), api.KeyDone},
		{normal, ints("d2%"), cmd(0, 2, api.VDelete, api.MPercent, 0), api.KeyDone},
		{normal, ints("gUiw"), cmd(0, 0, api.VUpper, api.OWord, 0), api.KeyDone},
		{normal, ints("gUgU"), cmd(0, 0, api.VUpper, api.MLines, 0), api.KeyDone},
		{normal, ints("gUU"), cmd(0, 0, api.VUpper, api.MLines, 0), api.KeyDone},
		{normal, ints("gUgg"), cmd(0, 0, api.VUpper, api.MTopRow, 0), api.KeyDone},
		{normal, ints("gUu"), none, api.KeyBad},
		{normal, ints("di)"), cmd(0, 0, api.VDelete, api.OBlock, 40), api.KeyDone},
		{normal, ints("caB"), cmd(0, 0, api.VChange, api.OABlock, 123), api.KeyDone},
		{normal, ints("diq"), none, api.KeyBad},
		{normal, ints("i"), cmd(0, 0, api.VInsert, 0, 0), api.KeyDone},
		{normal, ints("qa"), cmd(0, 0, api.VRecord, 0, 97), api.KeyDone},
		{normal, []int{'q', 27}, none, api.KeyStop},
		{normal, ints("@@"), cmd(0, 0, api.VPlay, 0, 64), api.KeyDone},
		{normal, []int{'m', -5}, cmd(0, 0, api.VMark, 0, -5), api.KeyDone},
		{normal, ints(`d"`), none, api.KeyBad},
		{normal, []int{'"', 0}, none, api.KeyBad},
		{normal, ints("Zx"), none, api.KeyBad},
		{normal, []int{10}, none, api.KeyBad},
		{visual, ints("iw"), cmd(0, 0, api.VMove, api.OWord, 0), api.KeyDone},
		{visual, ints("3ip"), cmd(0, 3, api.VMove, api.OPara, 0), api.KeyDone},
		{visual, ints("u"), cmd(0, 0, api.VLower, 0, 0), api.KeyDone},
		{visual, ints("gu"), cmd(0, 0, api.VLower, 0, 0), api.KeyDone},
		{visual, ints("D"), none, api.KeyBad},
		{visual, ints("O"), none, api.KeyBad},
		{visual, ints("2>"), cmd(0, 2, api.VRight, 0, 0), api.KeyDone},
		{visual, ints("d"), cmd(0, 0, api.VDelete, 0, 0), api.KeyDone},
	} {
		p := keys.New()
		for i, key := range e.keys {
			want, say := none, api.KeyMore
			if i == len(e.keys)-1 {
				want, say = e.want, e.say
			}
			if c, s := p.Feed(e.mode, key); c != want || s != say {
				t.Errorf("%v (%q) at %d: %v, %d, want %v, %d", e.keys, text(e.keys), i, c, s, want, say)
			}
		}
	}
	p := keys.New()
	if c, say := p.Feed(normal, 'd'); c != none || say != api.KeyMore {
		t.Errorf("d: %v, %d", c, say)
	}
	if c, say := p.Feed(visual, 'w'); c != cmd(0, 0, api.VMove, api.MWord, 0) || say != api.KeyDone {
		t.Errorf("d, and w in a selection: %v, %d", c, say)
	}
}

// TestSpellExamples, P1311: the chapter's table of spellings, and what it says behind them.
func TestSpellExamples(t *testing.T) {
	for _, e := range []struct {
		cmd  api.Cmd
		want []int
	}{
		{cmd(97, 6, api.VDelete, api.MWord, 0), ints(`"a6dw`)},
		{cmd(0, 0, api.VDelete, api.MRight, 0), ints("x")},
		{cmd(0, 2, api.VMove, api.MLeft, 0), []int{'2', 8}},
		{cmd(0, 0, api.VMove, api.MLeft, 0), []int{8}},
		{cmd(0, 0, api.VUpper, api.MLines, 0), ints("gUU")},
		{cmd(0, 0, api.VChange, api.OBlock, 123), ints("ciB")},
		{cmd(97, 3, api.VMove, api.MStart, 0), ints(`3"a0`)},
		{cmd(0, 3, api.VMove, api.MStart, 0), nil},
		{cmd(0, 3, api.VDelete, api.MStart, 0), ints("3d0")},
		{cmd(0, 0, api.VMove, api.MPercent, 0), nil},
		{cmd(0, 5, api.VMove, api.MMatch, 0), nil},
		{cmd(0, 10000, api.VMove, api.MLeft, 0), nil},
		{cmd(0, 0, api.VMove, api.OWord, 0), nil},
	} {
		if got := keys.Spell(api.Normal, e.cmd); !slices.Equal(got, e.want) {
			t.Errorf("Spell(Normal, %v) = %v (%q), want %v", e.cmd, got, text(got), e.want)
		}
	}
}

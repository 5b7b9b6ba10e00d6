package keys_test

import (
	"math"
	"slices"
	"testing"

	"copyist/api"
	"copyist/keys"
)

// isBefore tells whether keys are shorter than others, or as long and less.
func isBefore(a, b []int) bool {
	return len(a) < len(b) || len(a) == len(b) && slices.Compare(a, b) < 0
}

// spelled says that Spell's keys, fed to a new parser, give just that command, and answers them.
func spelled(t *testing.T, mode int, c api.Cmd) []int {
	t.Helper()
	l := keys.Spell(mode, c)
	if len(l) == 0 {
		t.Fatalf("Spell(%d, %v) = %v", mode, c, l)
	}
	spells(t, mode, l, c)
	return l
}

// unspelled says that no keys spell a command.
func unspelled(t *testing.T, mode int, c api.Cmd) {
	t.Helper()
	if l := keys.Spell(mode, c); l != nil {
		t.Fatalf("Spell(%d, %v) = %v (%q)", mode, c, l, text(l))
	}
}

// least goes through all rows of up to so many keys, and tells of each command that some of them spell the shortest and least.
func least(kind *plainKind, of []int, deep int) map[api.Cmd][]int {
	best := map[api.Cmd][]int{}
	ahead := [][]int{nil}
	for range deep {
		var next [][]int
		for _, a := range ahead {
			for _, key := range of {
				row := append(slices.Clone(a), key)
				switch c, say := kind.read(row); {
				case say == api.KeyMore:
					next = append(next, row)
				case say == api.KeyDone && (best[c] == nil || isBefore(row, best[c])):
					best[c] = row
				}
			}
		}
		ahead = next
	}
	return best
}

// spellsBest says that Spell finds each command's keys, none shorter or less than which were found.
func spellsBest(t *testing.T, selection bool, best map[api.Cmd][]int) {
	t.Helper()
	for c, row := range best {
		for _, mode := range modesOf(selection)[:2] {
			if l := spelled(t, mode, c); isBefore(row, l) {
				t.Fatalf("Spell(%d, %v) = %v (%q), but %v (%q) is better", mode, c, l, text(l), row, text(row))
			}
		}
	}
}

// TestSpellAll, P1311: of every command that up to three keys spell, or more of a few keys.
func TestSpellAll(t *testing.T) {
	small := slices.DeleteFunc(alphabet(), func(key int) bool { return key < 0 && key != -7 || key > 126 && key != 0x2603 })
	for selection, kind := range plainKinds {
		spellsBest(t, selection, least(kind, small, 2))
		spellsBest(t, selection, least(kind, ints("\b\r +0129\"abdcyxg<>UuiwBGhlm%{(p"), 3))
		spellsBest(t, selection, least(kind, ints("0129\"d>%f"), 5))
		spellsBest(t, selection, least(kind, ints("1234689\"d0j"), 4))
		spellsBest(t, selection, least(kind, ints("03\"gU%iw"), 6))
	}
}

// TestSpellRows, P1311: every row of every table.
func TestSpellRows(t *testing.T) {
	for selection, kind := range plainKinds {
		best := map[api.Cmd][]int{}
		add := func(c api.Cmd, row []int) {
			if best[c] == nil || isBefore(row, best[c]) {
				best[c] = row
			}
		}
		for _, prefix := range []string{"", "3", `"a`, `"a12`, `"30`, `3"a`, `"09999`} {
			for _, l := range wholeRows(kind) {
				row := append(ints(prefix), l...)
				if c, say := kind.read(row); say == api.KeyDone {
					add(c, row)
				}
			}
		}
		if len(best) < 500 {
			t.Fatalf("%d commands", len(best))
		}
		for c, row := range best {
			mode := modesOf(selection)[0]
			if l := spelled(t, mode, c); isBefore(row, l) {
				t.Fatalf("Spell(%d, %v) = %v, but %v is better", mode, c, l, row)
			}
		}
	}
}

// wholeRows are all rows of a kind of mode; where an argument is read, with several.
func wholeRows(kind *plainKind) [][]int {
	var all [][]int
	for _, table := range []map[string]api.Cmd{kind.rows, kind.asks} {
		for dots := range table {
			all = append(all, undotted(dots))
		}
	}
	for dots := range kind.asks {
		for _, arg := range []int{0, '0', '"', 'x', -5, 26, 28, math.MaxInt, math.MinInt} {
			all = append(all, append(undotted(dots), arg))
		}
	}
	return all
}

func undotted(s string) []int {
	l := []int{}
	n, minus := 0, false
	for _, c := range s {
		switch c {
		case '-':
			minus = true
		case '.':
			if minus {
				n = -n
			}
			l = append(l, n)
			n, minus = 0, false
		default:
			n = n*10 + int(c-'0')
		}
	}
	return l
}

// TestSpellCounts, P1311: a count is one number, ahead of all but the register; only a lone MStart has it elsewhere.
func TestSpellCounts(t *testing.T) {
	for count := range api.MaxCount + 1 {
		number := digitsOf(count)
		for _, e := range []struct {
			mode int
			cmd  api.Cmd
			want []int
		}{
			{api.Normal, cmd(0, count, api.VMove, api.MDown, 0), slices.Concat(number, ints("j"))},
			{api.Visual, cmd('k', count, api.VPut, 0, 0), slices.Concat(ints(`"k`), number, ints("p"))},
		} {
			if l := keys.Spell(e.mode, e.cmd); !slices.Equal(l, e.want) {
				t.Fatalf("Spell(%d, %v) = %v, want %v", e.mode, e.cmd, l, e.want)
			}
		}
		if count%97 > 1 && count > 120 && count < 9990 {
			continue
		}
		for _, e := range []struct {
			cmd  api.Cmd
			want []int
		}{
			{cmd(0, count, api.VDelete, api.MWord, 0), slices.Concat(number, ints("dw"))},
			{cmd('0', count, api.VLeft, api.MStart, 0), slices.Concat(ints(`"0`), number, ints("<0"))},
			{cmd('7', count, api.VMove, api.MStart, 0), slices.Concat(number, ints(`"70`))},
			{cmd(-3, count, api.VUpper, api.MTill, '1'), slices.Concat([]int{'"', -3}, number, ints("gUt1"))},
		} {
			if l := spelled(t, api.Normal, e.cmd); !slices.Equal(l, e.want) {
				t.Fatalf("Spell(%v) = %v, want %v", e.cmd, l, e.want)
			}
		}
		for _, mode := range []int{api.Normal, api.Visual, api.VisualLine} {
			alone := cmd(0, count, api.VMove, api.MStart, 0)
			percent, match := cmd(0, count, api.VMove, api.MPercent, 0), cmd(0, count, api.VMove, api.MMatch, 0)
			if count == 0 {
				spelled(t, mode, alone)
				spelled(t, mode, match)
				unspelled(t, mode, percent)
				continue
			}
			unspelled(t, mode, alone)
			unspelled(t, mode, match)
			spelled(t, mode, percent)
		}
	}
	for _, count := range []int{-1, -2, -9999, math.MinInt, api.MaxCount + 1, 10001, 99999, math.MaxInt, 1 << 32, 1<<32 + 5} {
		for _, mode := range []int{api.Normal, api.Visual} {
			unspelled(t, mode, cmd(0, count, api.VMove, api.MDown, 0))
			unspelled(t, mode, cmd('a', count, api.VPut, 0, 0))
			unspelled(t, mode, cmd(0, count, api.VMove, api.MPercent, 0))
			unspelled(t, mode, cmd(0, count, api.VMove, api.MMatch, 0))
			unspelled(t, mode, cmd('a', count, api.VMove, api.MStart, 0))
		}
		unspelled(t, api.Normal, cmd(0, count, api.VDelete, api.MWord, 0))
	}
}

// digitsOf are the keys of a number; of 0 none.
func digitsOf(n int) []int {
	var l []int
	for ; n > 0; n /= 10 {
		l = slices.Insert(l, 0, '0'+n%10)
	}
	return l
}

// TestSpellNames, P1311: registers and arguments are any int but 27; a register that is 0 is none.
func TestSpellNames(t *testing.T) {
	for _, n := range append(args(), 0) {
		for _, mode := range []int{api.Normal, api.Visual, api.VisualLine} {
			for _, reg := range []int{0, 'a', n} {
				for _, count := range []int{0, 12} {
					for _, verb := range []int{api.VOver, api.VRecord, api.VPlay, api.VMark} {
						spelled(t, mode, cmd(reg, count, verb, 0, n))
					}
					spelled(t, mode, cmd(reg, count, api.VMove, api.MMark, n))
					spelled(t, mode, cmd(reg, count, api.VPut, 0, 0))
				}
			}
			if n != 0 {
				for _, c := range []api.Cmd{cmd(0, 0, api.VPut, 0, n), cmd(0, 0, api.VMove, api.MDown, n), cmd(0, 3, api.VMove, api.MPercent, n), cmd('a', 0, api.VMove, api.MStart, n), cmd(0, 0, api.VCommand, 0, n)} {
					unspelled(t, mode, c)
				}
				unspelled(t, api.Normal, cmd(0, 0, api.VDelete, api.MRight, n))
				unspelled(t, api.Normal, cmd(0, 0, api.VDelete, api.MLines, n))
				unspelled(t, api.Normal, cmd(0, 0, api.VDelete, api.OWord, n))
				unspelled(t, api.Visual, cmd(0, 0, api.VDelete, 0, n))
			}
		}
		spelled(t, api.Normal, cmd(n, 5, api.VChange, api.MFindBack, n))
		blockOf := map[int]bool{40: true, 91: true, 123: true, 60: true}
		quoteOf := map[int]bool{34: true, 39: true, 96: true}
		for _, move := range []int{api.OBlock, api.OABlock, api.OQuote, api.OAQuote} {
			on, in := cmd(0, 0, api.VYank, move, n), cmd(0, 0, api.VMove, move, n)
			if move < api.OBlock && quoteOf[n] || move >= api.OBlock && blockOf[n] {
				spelled(t, api.Normal, on)
				spelled(t, api.Visual, in)
			} else {
				unspelled(t, api.Normal, on)
				unspelled(t, api.Visual, in)
			}
		}
	}
	for _, mode := range []int{api.Normal, api.Visual, api.VisualLine} {
		for _, verb := range []int{api.VOver, api.VRecord, api.VPlay, api.VMark} {
			unspelled(t, mode, cmd(0, 0, verb, 0, 27))
			unspelled(t, mode, cmd(27, 0, verb, 0, 'a'))
		}
		unspelled(t, mode, cmd(0, 0, api.VMove, api.MFind, 27))
		unspelled(t, mode, cmd(27, 0, api.VPut, 0, 0))
		unspelled(t, mode, cmd(27, 3, api.VMove, api.MStart, 0))
		unspelled(t, mode, cmd(27, 0, api.VMove, api.MDown, 0))
	}
	unspelled(t, api.Normal, cmd(0, 0, api.VDelete, api.MTill, 27))
	unspelled(t, api.Normal, cmd(27, 0, api.VDelete, api.MWord, 0))
}

// TestSpellNothing, P1311: nil for every command that no row of the mode is bound to, whatever numbers it has.
func TestSpellNothing(t *testing.T) {
	far := []int{-1, -3, 71, 1000, math.MinInt, math.MaxInt, 1 << 32, 2 + 1<<32, 1<<32 + api.MWord}
	for selection, kind := range plainKinds {
		bound := map[[2]int]bool{}
		for _, table := range []map[string]api.Cmd{kind.rows, kind.asks} {
			for _, c := range table {
				bound[[2]int{c.Verb, c.Move}] = true
			}
		}
		mode := modesOf(selection)[0]
		check := func(verb, move int) {
			for _, c := range []api.Cmd{cmd(0, 0, verb, move, 0), cmd('a', 3, verb, move, 0), cmd(0, 0, verb, move, 40), cmd(0, 3, verb, move, 34)} {
				if l := keys.Spell(mode, c); l != nil {
					spells(t, mode, l, c)
				}
				if !bound[[2]int{verb, move}] && !(bound[[2]int{verb, api.MMatch}] && move == api.MPercent && c.Count > 0) {
					unspelled(t, mode, c)
				}
			}
		}
		for verb := -2; verb < 50; verb++ {
			for move := -2; move < 75; move++ {
				check(verb, move)
			}
			for _, n := range far {
				check(verb, n)
				check(n, verb)
			}
		}
		unspelled(t, mode, api.Cmd{})
	}
}

// TestSpellOwn, P1311: the answer is new memory.
func TestSpellOwn(t *testing.T) {
	for _, c := range []api.Cmd{cmd(0, 0, api.VMove, api.MLeft, 0), cmd('a', 12, api.VDelete, api.MFind, 'x'), cmd(0, 0, api.VUpper, api.MLines, 0)} {
		a, b := keys.Spell(api.Normal, c), keys.Spell(api.Normal, c)
		was := slices.Clone(b)
		for i := range a[:cap(a)] {
			a[:cap(a)][i] = -999
		}
		if !slices.Equal(b, was) || !slices.Equal(keys.Spell(api.Normal, c), was) {
			t.Fatalf("Spell(%v) shares its answer", c)
		}
	}
}

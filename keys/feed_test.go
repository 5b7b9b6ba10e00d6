package keys_test

import (
	"slices"
	"testing"
	"time"

	"copyist/api"
	"copyist/keys"
)

// waits are rows of keys of a kind of mode that wait for more, one of each sort.
func waits(selection bool) [][]int {
	rows := []string{"3", "30", `"`, `"a`, `"a2`, `2"`, `2"a`, `2"a3`, "g", "3g", "z", "f", "3f", "'", "`", "q", "r", "@", "m", `""`, `"aq`}
	if selection {
		rows = append(rows, "i", "a", "2i", `"xa`)
	} else {
		rows = append(rows, "d", "gU", "gUg", "gU2", "gU2g", "di", "d3", "d30", "d3i", "dg", "df", "d2t", "y'", "2d", `"ad`, "Z", "<", ">a", "g~", "gui", "cT")
	}
	var all [][]int
	for _, s := range rows {
		all = append(all, ints(s))
	}
	return all
}

// TestEscape, P1309: an escape stops wherever it comes, and leaves nothing behind.
func TestEscape(t *testing.T) {
	for _, selection := range []bool{false, true} {
		for _, mode := range modesOf(selection) {
			for _, l := range append(waits(selection), nil) {
				p := keys.New()
				feed(t, p, mode, l)
				for range 2 { // the second finds nothing pending
					if c, say := p.Feed(mode, api.KeyEscape); c != (api.Cmd{}) || say != api.KeyStop {
						t.Fatalf("%q and an escape in the mode %d: %v, %d", text(l), mode, c, say)
					}
					if len(p.Pending()) != 0 {
						t.Fatalf("%q and an escape: pending %v", text(l), p.Pending())
					}
				}
				feed(t, p, mode, ints("0"))
				feed(t, p, mode, ints("w"))
				feed(t, p, mode, ints("%"))
			}
		}
	}
}

// TestBad, P1309: a key that nothing goes on with gives up what is pending, and is not read anew.
func TestBad(t *testing.T) {
	for _, selection := range []bool{false, true} {
		kind := plainKinds[selection]
		for _, mode := range modesOf(selection) {
			p := keys.New()
			for _, l := range waits(selection) {
				for _, key := range alphabet() {
					if _, say := kind.read(append(slices.Clone(l), key)); say != api.KeyBad {
						continue
					}
					feed(t, p, mode, append(slices.Clone(l), key))
					feed(t, p, mode, ints("0"))
					feed(t, p, mode, ints("%"))
				}
			}
		}
	}
	p := keys.New()
	feed(t, p, api.Normal, ints("dx")) // x is no command here
	feed(t, p, api.Normal, ints("x"))
}

// TestOtherKind, P1309: keys that came in the other kind of mode are given up first.
func TestOtherKind(t *testing.T) {
	for _, selection := range []bool{false, true} {
		for _, mode := range modesOf(selection) {
			for _, other := range modesOf(!selection) {
				for _, l := range waits(selection) {
					for _, next := range []string{"0", "w", "3j", "%", "x", "gg", "rx", "\n", "ZZ", `"ap`, "iw"} {
						if _, say := plainKinds[!selection].read(ints(next)[:1]); len(next) > 1 && say != api.KeyMore {
							continue
						}
						p := keys.New()
						feed(t, p, mode, l)
						feed(t, p, other, ints(next))
						feed(t, p, mode, ints("0"))
					}
				}
			}
		}
	}
	p := keys.New()
	feed(t, p, api.Visual, ints(`3"a`))
	if c, say := p.Feed(api.Normal, api.KeyEscape); c != (api.Cmd{}) || say != api.KeyStop || len(p.Pending()) != 0 {
		t.Fatalf("an escape in the other kind of mode: %v, %d, pending %v", c, say, p.Pending())
	}
	// There and back again: nothing of the first keys is left.
	p.Feed(api.Normal, '4')
	p.Feed(api.Visual, '5')
	if c, say := p.Feed(api.Normal, 'j'); c != cmd(0, 0, api.VMove, api.MDown, 0) || say != api.KeyDone {
		t.Fatalf("4, in a selection 5, then j: %v, %d", c, say)
	}
}

// TestSameKind, P1309: keys that came in another mode of the same kind stay.
func TestSameKind(t *testing.T) {
	for _, selection := range []bool{false, true} {
		kind, modes := plainKinds[selection], modesOf(selection)
		for _, l := range waits(selection) {
			for _, key := range ints("w03%j\"aU\n") {
				for i := range modes {
					p := keys.New()
					for n, k := range l {
						p.Feed(modes[(i+n)%len(modes)], k)
					}
					row := append(slices.Clone(l), key)
					want, wantSay := kind.read(row)
					if c, say := p.Feed(modes[(i+len(l))%len(modes)], key); c != want || say != wantSay {
						t.Fatalf("%q in modes of one kind: %v, %d, want %v, %d", text(row), c, say, want, wantSay)
					}
				}
			}
		}
	}
}

// TestPending, P1310: the keys in their order, as new memory, at every place.
func TestPending(t *testing.T) {
	for _, selection := range []bool{false, true} {
		for _, l := range waits(selection) {
			p := keys.New()
			mode := modesOf(selection)[0]
			for i, key := range l {
				p.Feed(mode, key)
				got := p.Pending()
				if !slices.Equal(got, l[:i+1]) {
					t.Fatalf("pending %v, want %v", got, l[:i+1])
				}
				other := p.Pending()
				for n := range got[:cap(got)] {
					got[:cap(got)][n] = 'x'
				}
				_ = append(got, 'y', 'z')
				if !slices.Equal(other, l[:i+1]) || !slices.Equal(p.Pending(), l[:i+1]) {
					t.Fatal("Pending answers memory that it keeps")
				}
			}
			was := p.Pending()
			want, wantSay := plainKinds[selection].read(append(slices.Clone(l), 'w'))
			if c, say := p.Feed(mode, 'w'); c != want || say != wantSay {
				t.Fatalf("%q and w: %v, %d", text(l), c, say)
			}
			if !slices.Equal(was, l) {
				t.Fatal("an answer of Pending has changed")
			}
		}
	}
}

// TestReset, P1310: Reset leaves a parser as New makes one.
func TestReset(t *testing.T) {
	for _, selection := range []bool{false, true} {
		for _, mode := range modesOf(selection) {
			for _, l := range append(waits(selection), nil) {
				p := keys.New()
				feed(t, p, mode, l)
				for range 2 {
					p.Reset()
					if len(p.Pending()) != 0 {
						t.Fatalf("behind Reset: pending %v", p.Pending())
					}
				}
				feed(t, p, mode, ints("0"))
				feed(t, p, mode, ints("%"))
				feed(t, p, modesOf(!selection)[0], ints("w"))
			}
		}
	}
}

// TestTwoParsers, P1310: two parsers, fed in turns, have nothing in common.
func TestTwoParsers(t *testing.T) {
	p, q := keys.New(), keys.New()
	for _, a := range waits(false) {
		for _, b := range waits(true) {
			for i := range max(len(a), len(b)) {
				if i < len(a) {
					p.Feed(api.Normal, a[i])
				}
				if i < len(b) {
					q.Feed(api.Visual, b[i])
				}
			}
			if !slices.Equal(p.Pending(), a) || !slices.Equal(q.Pending(), b) {
				t.Fatalf("pending %v, %v, want %v, %v", p.Pending(), q.Pending(), a, b)
			}
			p.Reset()
			if !slices.Equal(q.Pending(), b) {
				t.Fatal("Reset of the other parser")
			}
			want, wantSay := plainKinds[true].read(append(slices.Clone(b), 'w'))
			if c, say := q.Feed(api.Visual, 'w'); c != want || say != wantSay {
				t.Fatalf("%q and w: %v, %d", text(b), c, say)
			}
			q.Reset()
		}
	}
}

// TestManyPending: a key does not take longer because many are pending.
func TestManyPending(t *testing.T) {
	begun := time.Now()
	p := keys.New()
	const many = 1 << 20
	for i := range many {
		key := '0' + (i+1)%10
		if _, say := p.Feed(api.Normal, key); say != api.KeyMore {
			t.Fatalf("the digit %d: %d", i, say)
		}
	}
	for range many {
		p.Feed(api.Normal, '"')
		p.Feed(api.Normal, 'a')
	}
	p.Feed(api.Normal, 'd')
	for range many {
		p.Feed(api.Normal, '1')
	}
	if got := len(p.Pending()); got != 4*many+1 {
		t.Fatalf("%d keys are pending", got)
	}
	if c, say := p.Feed(api.Normal, 'w'); c != cmd('a', api.MaxCount, api.VDelete, api.MWord, 0) || say != api.KeyDone {
		t.Fatalf("%v, %d", c, say)
	}
	if took := time.Since(begun); took > 20*time.Second {
		t.Fatalf("it took %v", took)
	}
}

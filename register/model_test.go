package register_test

import (
	"math/rand"
	"slices"
	"testing"

	"copyist/api"
	"copyist/register"
)

// deed is one call that changes a bank: y Yank, d Delete, s Set.
type deed struct {
	call rune
	name int
	kind int
	text string
}

func (d deed) do(b *register.Bank) api.Errno {
	switch d.call {
	case 'y':
		return b.Yank(d.name, api.Reg{Kind: d.kind, Text: spell(d.text)})
	case 'd':
		return b.Delete(d.name, api.Reg{Kind: d.kind, Text: spell(d.text)})
	}
	return b.Set(d.name, spell(d.text))
}

func (d deed) plainly(p *plain) api.Errno {
	switch d.call {
	case 'y':
		return p.yank(d.name, d.kind, d.text)
	case 'd':
		return p.delete(d.name, d.kind, d.text)
	}
	return p.set(d.name, d.text)
}

// agree holds all that a bank tells of some names against the plain reading.
func agree(t *testing.T, done []deed, b *register.Bank, p *plain, names []int) {
	t.Helper()
	for _, name := range names {
		r, err := b.Get(name)
		want, wantErr := p.get(name)
		if err != wantErr || !same(r, want) {
			t.Fatalf("behind %v: Get(%d) = %v, %d, want %v, %d", done, name, r, err, want, wantErr)
		}
	}
	if got, want := b.Names(), p.names(); !slices.Equal(got, want) {
		t.Fatalf("behind %v: Names() = %v, want %v", done, got, want)
	}
}

// fewDeeds are calls on registers that meet: enough of them for every pairing.
func fewDeeds() []deed {
	var all []deed
	for _, name := range []int{'a', 'A', 0} {
		for _, text := range []string{"", "x", "yr", "zrn"} {
			all = append(all, deed{'y', name, api.ByChars, text}, deed{'y', name, api.ByLines, text})
		}
	}
	for _, text := range []string{"", "d", "en"} {
		all = append(all, deed{'d', 0, api.ByChars, text}, deed{'d', 0, api.ByLines, text})
	}
	for _, name := range []int{'a', 'A', '1', '-'} {
		all = append(all, deed{'s', name, 0, ""}, deed{'s', name, 0, "s"})
	}
	return append(all, deed{'d', 'A', api.ByLines, "fr"}, deed{'y', '2', api.ByChars, "g"}, deed{'y', '_', api.ByLines, "h"}, deed{'y', ':', api.ByLines, "i"})
}

// TestRows: every row of three such calls.
func TestRows(t *testing.T) {
	t.Parallel()
	all := fewDeeds()
	names := []int{'a', 'A', 0, '0', '1', '2', '3', '-', '_', ':'}
	for i := range all {
		for j := range all {
			for k := range all {
				b, p := register.New(), newPlain()
				done := []deed{all[i], all[j], all[k]}
				for _, d := range done {
					if err, want := d.do(b), d.plainly(p); err != want {
						t.Fatalf("%v: %d, want %d", done, err, want)
					}
				}
				agree(t, done, b, p, names)
			}
		}
	}
}

// TestAtRandom: long rows of calls on all names, copies too, each of which goes on for itself.
func TestAtRandom(t *testing.T) {
	t.Parallel()
	rnd := rand.New(rand.NewSource(11))
	all := slices.Concat(writable(), keeps, []int{0, 0, 0, 0, 0, 0, 0, 0, '"', '_', -1, '?', 128, 'a', 'a', 'A', 'A', 'A', 'b', 'B', 'B', '1', '1', '9'})
	texts := []string{"", "x", "n", "r", "rn", "xn", "xr", "xrn", "xny", "nr", "xyz"}
	asked := slices.Concat(writable(), keeps, []int{0, '"', '_', '?'})
	type pair struct {
		b *register.Bank
		p *plain
	}
	for range 60 {
		pairs := []pair{{register.New(), newPlain()}}
		for range 200 {
			at := rnd.Intn(len(pairs))
			x := pairs[at]
			d := deed{rune("yds"[rnd.Intn(3)]), all[rnd.Intn(len(all))], rnd.Intn(2), texts[rnd.Intn(len(texts))]}
			if rnd.Intn(20) == 0 {
				d.kind = 7
			}
			if err, want := d.do(x.b), d.plainly(x.p); err != want {
				t.Fatalf("%v: %d, want %d", d, err, want)
			}
			agree(t, []deed{d}, x.b, x.p, asked)
			if rnd.Intn(20) == 0 {
				p := *x.p
				y := pair{x.b.Copy(), &p}
				if len(pairs) < 4 {
					pairs = append(pairs, y)
				} else {
					pairs[rnd.Intn(4)] = y
				}
			}
		}
		for _, x := range pairs {
			agree(t, nil, x.b, x.p, asked)
		}
	}
}

package copyist_test

import (
	"math/rand"
	"slices"
	"strings"
	"testing"

	"copyist/api"
	"copyist/codec"
)

// ledger is what each file may hold behind a power loss.
type ledger map[string][]string

// missing stands for no file at all.
const missing = "(no file)"

// checks holds the disk against the ledger: every file holds one of what it may, whole, and there is no left-over.
func (l ledger) checks(t *testing.T, x solo, seed int64, tidy bool) {
	t.Helper()
	names := x.e.Do(api.Step{Kind: api.StepNames})
	if names.Err != api.OK {
		t.Fatalf("seed %d: the names: %d", seed, names.Err)
	}
	for _, name := range names.Names {
		if strings.HasSuffix(name, "~") {
			if tidy {
				t.Fatalf("seed %d: the left-over %s", seed, name)
			}
			continue
		}
		if got := x.file(name); !slices.Contains(l[name], got) {
			t.Fatalf("seed %d: %s holds %.50q, want one of %.200q", seed, name, got, l[name])
		}
	}
	for name, may := range l {
		if !slices.Contains(may, missing) && !slices.Contains(names.Names, name) {
			t.Fatalf("seed %d: %s is gone", seed, name)
		}
	}
}

// settles makes what stands on the disk all that there may be.
func (l ledger) settles(x solo) {
	for name := range l {
		l[name] = []string{missing}
		if a := x.e.Do(looked(name)); a.Err == api.OK {
			l[name] = []string{string(a.Data)}
		}
	}
}

// TestAtomic, W4: whatever goes wrong at any step of any save, whatever a power loss leaves.
func TestAtomic(t *testing.T) {
	saved, lost, lied := 0, 0, 0
	for seed := range int64(2500) {
		r := rand.New(rand.NewSource(seed))
		p := picker{r}
		mark := p.pick("", mark8, mark16)
		l := ledger{"a": {mark + "old\x00"}, "b": {"beside"}, "n": {missing}, "m": {missing}}
		x := alone(t, usual("a", "a", mark+"old\x00", "b", "beside"))
		for range 12 {
			x.keys(p.pick("ylp", "x", "Anew␛", "iq␛", "yyp", "dd", "u"))
			if r.Intn(3) > 0 {
				x.e.Do(api.Step{Kind: api.StepFaults, Faults: p.faults()})
			}
			ok, down := l.saves(t, x, p)
			saved += ok
			if down {
				lost++
				name := p.pick("a", "a", "a", "b")
				if a := x.e.Do(api.Step{Kind: api.StepRestart, Name: name, Cut: p.cut()}); a.Err != api.OK {
					t.Fatalf("seed %d: restart: %d", seed, a.Err)
				}
				l.checks(t, x, seed, true)
				l.settles(x)
				continue
			}
			x.e.Do(api.Step{Kind: api.StepFaults})
			l.checks(t, x, seed, false)
			if r.Intn(6) == 0 {
				name, data := p.pick("a", "b", "n"), p.pick("theirs", "", "x")
				x.e.Do(api.Step{Kind: api.StepPoke, Name: name, Data: []byte(data)})
				l[name] = []string{data}
			}
			if r.Intn(5) == 0 {
				lied++
				x.e.Do(api.Step{Kind: api.StepRestart, Name: "a", Cut: p.cut()})
				l.checks(t, x, seed, true)
				l.settles(x)
			}
		}
	}
	if saved < 5000 || lost < 1000 || lied < 1000 {
		t.Errorf("%d saves, %d power losses within one, %d behind one", saved, lost, lied)
	}
}

// saves does one save, and reckons with it: how many went well, and whether the disk is down then.
func (l ledger) saves(t *testing.T, x solo, p picker) (ok int, down bool) {
	t.Helper()
	ahead := x.see()
	text, _, err := codec.Encode(ahead.Enc, ahead.Sight.Text)
	if err != api.OK {
		t.Fatal(err)
	}
	whole := string(codec.Mark(ahead.Enc)[:ahead.Mark]) + string(text)
	line := p.pick("w", "w", "w", "w!", "w!", "w b", "w! b", "w n", "w! m", "w! a")
	name := ahead.Name
	if i := strings.IndexByte(line, ' '); i >= 0 {
		name = line[i+1:]
	}
	a := x.keys(":" + line + "⏎")
	now := x.see()
	switch a.Err {
	case api.OK:
		l[name] = []string{whole}
		if now.Sight.Dirty && name == now.Name {
			t.Fatalf("%s went well, and the text is dirty", line)
		}
		return 1, false
	case api.ErrChanged, api.ErrExists: // nothing was begun
	default:
		l[name] = append(l[name], whole)
	}
	if !same(now, ahead) {
		t.Fatalf("%s failed, and yet %+v, was %+v", line, now, ahead)
	}
	return 0, x.e.Do(api.Step{Kind: api.StepNames}).Err == api.ErrDown
}

// TestNextSucceeds, W4: behind saves that failed without power loss the next one without errors succeeds, where no other hand has written the file.
func TestNextSucceeds(t *testing.T) {
	for seed := range int64(1500) {
		r := rand.New(rand.NewSource(seed))
		p := picker{r}
		s := usual(p.pick("a", "n"), "a", mark8+"abc", "b", "beside")
		s.Enc, s.Space = api.UTF8, 9+6+30
		if r.Intn(3) == 0 {
			for i := range 12 { // with the text's own one less than there may be
				s.Files = append(s.Files, api.File{Name: "f" + string(rune('a'+i))})
			}
		}
		x := alone(t, s)
		failed := 0
		for i := range 6 {
			x.keys("A" + string(rune('0'+i)) + "␛")
			faults := p.faults()
			for i := range faults {
				faults[i].Kind = min(faults[i].Kind, api.FaultLie)
			}
			x.e.Do(api.Step{Kind: api.StepFaults, Faults: faults})
			for range 1 + r.Intn(3) {
				if x.keys(":w⏎").Err != api.OK {
					failed++
				}
			}
			ahead := x.see()
			x.e.Do(api.Step{Kind: api.StepFaults})
			if a := x.keys(":w⏎"); a.Err != api.OK {
				t.Fatalf("seed %d: behind %d that failed: %d", seed, failed, a.Err)
			}
			text, _, _ := codec.Encode(ahead.Enc, ahead.Sight.Text)
			if got := x.file(s.Name); !strings.HasSuffix(got, string(text)) || x.see().Sight.Dirty {
				t.Fatalf("seed %d: %q", seed, got)
			}
		}
	}
}

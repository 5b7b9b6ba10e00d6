package copyist_test

import (
	"math"
	"slices"
	"testing"

	"copyist/api"
)

// TestSteps, P1903: every kind of step, with every field of its answer: same looks at all of them.
func TestSteps(t *testing.T) {
	x := begin(t, usual("a", "a", mark8+"a b\nc", "b", "other"))
	full := api.Step{N: 'x', Keys: strokes("x"), Name: "b", Data: []byte("data"), Faults: []api.Fault{fault(9, api.FaultRefuse)}, Cut: api.Cut{Names: 1}}
	step := func(kind int) api.Step {
		s := full
		s.Kind = kind
		return s
	}
	for _, c := range []struct {
		step api.Step
		want api.Answer
	}{
		{step(api.StepKey), api.Answer{}},
		{step(api.StepKeys), api.Answer{N: 1}},
		{step(api.StepSee), api.Answer{Name: "a", Enc: api.UTF8, Mark: 3, Sight: api.Sight{Text: spell("b\nc"), Tags: []int{2, 3, 4}, Anchor: -1, Dirty: true, Percent: 50, Set: api.Settings{Native: api.LF}}}},
		{api.Step{Kind: api.StepReg, N: '-'}, api.Answer{Reg: api.Reg{Text: spell(" ")}}},
		{step(api.StepReg), api.Answer{Err: api.ErrEmpty}},
		{step(api.StepFile), api.Answer{Data: []byte("other")}},
		{step(api.StepNames), api.Answer{Names: []string{"a", "b"}}},
		{step(api.StepFaults), api.Answer{}},
		{step(api.StepPoke), api.Answer{}},
		{step(api.StepFile), api.Answer{Data: []byte("data")}},
		{step(api.StepRestart), api.Answer{}},
		{step(api.StepSee), api.Answer{Name: "b", Enc: api.UTF8, Sight: api.Sight{Text: spell("data"), Tags: []int{0, 1, 2, 3}, Anchor: -1, Percent: 100, Set: api.Settings{Native: api.LF}}}},
	} {
		if a := x.do(c.step); !same(a, c.want) {
			t.Errorf("step %+v:\n got %+v\nwant %+v", c.step, a, c.want)
		}
	}
	x.ends()
}

// TestNoStep, P1903: any other kind, whatever else stands in the step.
func TestNoStep(t *testing.T) {
	x := begin(t, usual("a", "a", "abc"))
	ahead := x.state()
	for _, kind := range []int{0, -1, 10, 11, math.MinInt, math.MaxInt} {
		if a := x.do(api.Step{Kind: kind, N: 'x', Keys: strokes("x"), Name: "a", Data: []byte("x")}); !same(a, api.Answer{Err: api.ErrArg}) {
			t.Errorf("kind %d: %+v", kind, a)
		}
	}
	if !x.state().equal(ahead) {
		t.Error("something has changed")
	}
	x.does(":q⏎")
	if a := x.do(api.Step{Kind: 10}); !same(a, api.Answer{Err: api.ErrArg}) {
		t.Errorf("behind the end: %+v", a)
	}
	x.files("a", "abc").ends()
}

// TestKey, P1903, P1904: one key: nothing but its error is told.
func TestKey(t *testing.T) {
	x := begin(t, usual("a", "a", "abc"))
	for _, c := range []struct {
		key  int
		want api.Errno
	}{{'x', api.OK}, {'h', api.ErrMove}, {-7, api.ErrKey}, {'d', api.OK}, {'Q', api.ErrKey}, {math.MaxInt, api.ErrKey}, {math.MinInt, api.ErrKey}, {'i', api.OK}, {0xD800, api.ErrKey}, {0x10FFFF, api.OK}, {27, api.OK}, {':', api.OK}, {'w', api.OK}, {13, api.OK}, {'u', api.OK}, {':', api.OK}, {'q', api.OK}, {13, api.ErrDirty}, {'Z', api.OK}, {'Q', api.OK}, {'Z', api.ErrGone}} {
		if a := x.do(api.Step{Kind: api.StepKey, N: c.key, Keys: strokes("zz"), Name: "z"}); !same(a, api.Answer{Err: c.want}) {
			t.Errorf("key %d: %+v, want %d", c.key, a, c.want)
		}
	}
	x.gone().files("a", "\U0010FFFFbc").ends()
}

// TestKeys, P1903: rows of keys: how many answered OK, and the first error.
func TestKeys(t *testing.T) {
	for _, c := range []struct {
		keys string
		n    int
		err  api.Errno
		text string
	}{
		{"", 0, api.OK, "abc"}, {"x", 1, api.OK, "bc"}, {"xxx", 3, api.OK, ""}, {"hxx", 0, api.ErrMove, "abc"}, {"xhx", 1, api.ErrMove, "bc"}, {"xxh", 2, api.ErrMove, "c"},
		{"xQx", 1, api.ErrKey, "bc"}, {":w z~⏎x", 5, api.ErrName, "abc"}, {"iab␛x", 5, api.OK, "aabc"}, {"ia␖␊b␛", 3, api.ErrKey, "aabc"},
	} {
		x := begin(t, usual("a", "a", "abc"))
		if a := x.keys(c.keys); !same(a, api.Answer{N: c.n, Err: c.err}) {
			t.Errorf("%q: %+v", c.keys, a)
		}
		if got := show(x.see().Sight.Text); got != c.text {
			t.Errorf("%q: the text %q, want %q", c.keys, got, c.text)
		}
	}
}

// TestLongRows, P1903: MaxKeys keys, and one more.
func TestLongRows(t *testing.T) {
	row := slices.Repeat(strokes("~"), api.MaxKeys+1)
	x := begin(t, usual("a", "a", "aaaa")).does("0")
	if a := x.do(api.Step{Kind: api.StepKeys, Keys: row}); !same(a, api.Answer{Err: api.ErrLong}) {
		t.Errorf("%+v", a)
	}
	x.sees("aaaa", 0)
	if a := x.do(api.Step{Kind: api.StepKeys, Keys: row[:api.MaxKeys]}); !same(a, api.Answer{N: api.MaxKeys}) {
		t.Errorf("%+v", a)
	}
	x.sees("AAAA", 3)
	row[api.MaxKeys-1] = -1
	if a := x.do(api.Step{Kind: api.StepKeys, Keys: row[:api.MaxKeys]}); !same(a, api.Answer{N: api.MaxKeys - 1, Err: api.ErrKey}) {
		t.Errorf("%+v", a)
	}
	// behind the end ErrLong goes ahead of ErrGone
	x.does(":q!⏎")
	if a := x.do(api.Step{Kind: api.StepKeys, Keys: row}); !same(a, api.Answer{Err: api.ErrLong}) {
		t.Errorf("behind the end: %+v", a)
	}
	for n := range 2 {
		if a := x.do(api.Step{Kind: api.StepKeys, Keys: row[:n*api.MaxKeys]}); !same(a, api.Answer{Err: api.ErrGone}) {
			t.Errorf("behind the end: %+v", a)
		}
	}
}

// TestRowsThatEnd, P1903: behind the key that ends the session the further keys answer ErrGone.
func TestRowsThatEnd(t *testing.T) {
	for _, c := range []struct {
		keys string
		n    int
		err  api.Errno
	}{
		{":q⏎", 3, api.OK}, {":q⏎l", 3, api.ErrGone}, {"xZQxx", 3, api.ErrGone}, {"ZZ", 2, api.OK}, {"xZZ", 3, api.OK}, {"xZZ:", 3, api.ErrGone}, {"x:wq⏎Q", 5, api.ErrGone}, {":x⏎" + "␛␛", 3, api.ErrGone}, {"x:q⏎l", 3, api.ErrDirty},
	} {
		x := begin(t, usual("a", "a", "abc"))
		if a := x.keys(c.keys); !same(a, api.Answer{N: c.n, Err: c.err}) {
			t.Errorf("%q: %+v", c.keys, a)
		}
		if c.err != api.ErrDirty {
			x.gone()
		}
		x.ends()
	}
}

// TestSee, P1903: the text's name, its encoding, the mark that the file had when it was opened.
func TestSee(t *testing.T) {
	for _, c := range []struct {
		enc        int
		data       string
		chosen, at int
	}{{api.Auto, "a", api.UTF8, 0}, {api.Auto, mark8, api.UTF8, 3}, {api.Auto, mark16 + "a\x00", api.UTF16LE, 2}, {api.Auto, mark61 + "\x00a", api.UTF16BE, 2}, {api.Auto, "a\xE9", api.Latin1, 0}, {api.Latin1, mark8 + "a", api.Latin1, 0}, {api.UTF8, mark16 + "a", api.UTF8, 0}, {api.UTF16BE, mark61, api.UTF16BE, 2}, {api.UTF16LE, mark61, api.UTF16LE, 0}} {
		x := begin(t, in(c.enc, usual("a", "a", c.data))).named("a", c.chosen, c.at)
		// not what another hand has put since, nor what has come of the text
		x.poke("a", "theirs").named("a", c.chosen, c.at).answers("Ax␛:w⏎", api.ErrChanged).named("a", c.chosen, c.at)
		x.does(":w!⏎").named("a", c.chosen, c.at).does(":f n⏎").named("n", c.chosen, c.at).does(":w⏎").named("n", c.chosen, c.at).ends()
	}
	// opened anew, it has the mark that is there then
	begin(t, usual("a", "a", "a")).poke("a", mark8+"b").named("a", api.UTF8, 0).does(":e⏎").named("a", api.UTF8, 3).sees("b", 0).ends()
	// See changes nothing
	x := begin(t, usual("a", "a", "abc")).does("2\"ad")
	if !same(x.see(), x.see()) || !slices.Equal(x.see().Sight.Pending, strokes("2\"ad")) {
		t.Errorf("%+v", x.see())
	}
}

// TestReg, P1903: the register, or the bank's error.
func TestReg(t *testing.T) {
	x := begin(t, usual("a", "a", "a\nb")).does("yy\"byl\"Byy")
	for _, c := range []struct {
		name int
		want api.Answer
	}{
		{'0', api.Answer{Reg: api.Reg{Kind: api.ByLines, Text: spell("a\n")}}},
		{'b', api.Answer{Reg: api.Reg{Kind: api.ByLines, Text: spell("a\na\n")}}},
		{'B', api.Answer{Reg: api.Reg{Kind: api.ByLines, Text: spell("a\na\n")}}},
		{'"', api.Answer{Reg: api.Reg{Kind: api.ByLines, Text: spell("a\na\n")}}},
		{0, api.Answer{Reg: api.Reg{Kind: api.ByLines, Text: spell("a\na\n")}}},
		{'c', api.Answer{Err: api.ErrEmpty}}, {'_', api.Answer{Err: api.ErrEmpty}}, {'!', api.Answer{Err: api.ErrReg}}, {-1, api.Answer{Err: api.ErrReg}}, {math.MinInt, api.Answer{Err: api.ErrReg}}, {math.MaxInt, api.Answer{Err: api.ErrReg}},
	} {
		if a := x.do(api.Step{Kind: api.StepReg, N: c.name}); !same(a, c.want) {
			t.Errorf("the register %d: %+v", c.name, a)
		}
	}
}

package copyist_test

import (
	"math/rand"
	"strings"
	"testing"

	"copyist/api"
)

type picker struct{ *rand.Rand }

func (r picker) pick(list ...string) string { return list[r.Intn(len(list))] }

func (r picker) name() string {
	return r.pick("a", "a", "a", "b", "b", "c", "n", "m", "", "", "a~", "x/y", strings.Repeat("l", 31), strings.Repeat("l", 32))
}

// bytes are of any kind: texts in all encodings, with marks and without, and no texts at all.
func (r picker) bytes() string {
	s := ""
	switch r.Intn(6) {
	case 0:
		s = mark8
	case 1:
		s = r.pick(mark16, mark61)
	}
	for range r.Intn(12) {
		s += r.pick("a", "b", "foo bar", "\n", "\n", "\r\n", "\r", "a\x00", "\x00b", "\n\x00", "\xC3\xA9", "\xC3", "\xE9", "e\u0301", "\x00\xD8", " ", "\t", "(x)", "\U0001F1E6")
	}
	if r.Intn(30) == 0 {
		s += letters(r.Intn(3000))
	}
	return s
}

func (r picker) setup() api.Setup {
	s := usual(r.pick("a", "a", "a", "a", "b", "", "n"), "a", r.bytes(), "b", r.bytes())
	if r.Intn(3) == 0 {
		s.Files = append(s.Files, api.File{Name: r.pick("c", "a~", "c~"), Data: []byte(r.bytes())})
	}
	s.Enc = []int{0, 0, 0, 1, 2, 3, 4}[r.Intn(7)]
	s.Native, s.Height, s.Depth = 1+r.Intn(3), 1+r.Intn(12), 1+r.Intn(20)
	if r.Intn(4) == 0 {
		s.Limit = 3100 + r.Intn(50)
	}
	s.Space = 20000
	if r.Intn(5) == 0 {
		s.Space = 6500 + r.Intn(3000)
	}
	return s
}

// line is a command line, most often one that asks for a file or an end.
func (r picker) line() string {
	bang := r.pick("", "", "", "!")
	name := ""
	if r.Intn(3) > 0 {
		name = " " + r.name()
	}
	switch r.Intn(14) {
	case 0, 1, 2, 3:
		return "w" + bang + name
	case 4, 5:
		return "e" + bang + name
	case 6:
		return r.pick("", "0", "1", "2", "$", "/a/", "%", "9") + "r" + name
	case 7:
		return "f" + name
	case 8:
		return r.pick("q", "q", "wq", "x", "q!") + r.pick(name, "", "")
	case 9, 10:
		return r.pick("set ic", "set noic", "set nows", "set ws", "set br=crlf", "set br=lf", "set br=cr")
	}
	return r.pick("d", "%s/a/b/", "s/b/ca/g", "s//x/", "&", "1", "$", "u", "red", "m0", "t.", "pu", "pu a", "g/a/s//bb/", "k a", ">", "zz", "99d")
}

func (r picker) keys() string {
	s := ""
	for range 1 + r.Intn(3) {
		s += r.oneCommand()
	}
	return s
}

func (r picker) oneCommand() string {
	switch r.Intn(10) {
	case 0, 1, 2, 3:
		return ":" + r.line() + r.pick("⏎", "⏎", "⏎", "⏎", "⏎", "␛", "⌫⏎")
	case 4:
		return r.pick("i", "a", "o", "O", "A", "R", "cw", "cc") + r.pick("x", "y z", "é", "€", "a⏎b", "⌫", "\U0010FFFF", "␖␛", "") + r.pick("␛", "␛", "␛", "␛", "")
	case 5:
		return r.pick("x", "dd", "dw", "p", "P", "yy", "\"ayy", "\"ap", "J", "~", ">>", "D", "3x", "yl", "rx")
	case 6:
		return r.pick("u", "u", "␒", ".", ".", "2u", "n", "N", "&", "*", "/a⏎", "?b⏎", "/o⏎")
	case 7:
		return r.pick("j", "k", "l", "w", "$", "G", "gg", "0", "}", "fb", ";", "ma", "`a", "``", "L", "␆", "zt")
	case 8:
		return r.pick("qa", "q", "qb", "@a", "@b", "@@", "2@a", "vj", "vld", "Vy", "v␛", "gv", "viwp", "V:w⏎")
	}
	return r.pick("ZZ", "ZQ", "Q", "\x00", "␊", "d", "2", "␛", "␛␛", "\"a", "ZZ")
}

func (r picker) cut() api.Cut {
	return api.Cut{Names: r.Intn(6) - 1, Bytes: []int{r.Intn(9) - 1, r.Intn(2000), r.Intn(5)}[:r.Intn(4)]}
}

func (r picker) faults() []api.Fault {
	all := []api.Fault{}
	for range r.Intn(4) {
		kind := r.Intn(7)
		if kind >= api.FaultAhead && r.Intn(2) > 0 {
			kind = 1 + r.Intn(3)
		}
		all = append(all, api.Fault{Step: r.Intn(12), Kind: kind, Part: r.Intn(30) - 2, Cut: r.cut()})
	}
	return all
}

func (r picker) step() api.Step {
	switch n := r.Intn(40); {
	case n < 22:
		return typed(r.keys())
	case n < 24:
		return api.Step{Kind: api.StepKey, N: []int{'x', 'j', ':', 'q', 13, 27, 'Z', -1, 1 << 40, 0x301}[r.Intn(10)]}
	case n < 26:
		return api.Step{Kind: api.StepReg, N: []int{'a', 'b', '"', '0', '1', '-', '.', ':', '/', '!', '_', 0, -9}[r.Intn(13)]}
	case n < 29:
		return api.Step{Kind: api.StepFile, Name: r.name()}
	case n < 31:
		return api.Step{Kind: api.StepNames}
	case n < 33:
		return api.Step{Kind: api.StepFaults, Faults: r.faults()}
	case n < 35:
		return api.Step{Kind: api.StepRestart, Name: r.pick("a", "a", "b", "n", r.name()), Cut: r.cut()}
	case n < 37:
		return api.Step{Kind: api.StepPoke, Name: r.name(), Data: []byte(r.bytes())}
	case n < 38:
		return api.Step{Kind: r.Intn(13) - 1}
	}
	return seen
}

// TestRandom, P1902 to P1905, W2: scripts of all steps, held against the plain reading behind each.
func TestRandom(t *testing.T) {
	good, all, ended := 0, 0, 0
	for seed := range int64(4000) {
		r := picker{rand.New(rand.NewSource(seed))}
		x := begin(t, r.setup())
		for range 30 {
			a := x.do(r.step())
			all++
			if a.Err == api.OK {
				good++
			}
			if a.Err == api.ErrGone {
				ended++
			}
			x.do(seen)
			if a.Err == api.ErrGone || r.Intn(60) == 0 {
				x.do(api.Step{Kind: api.StepRestart, Name: r.pick("a", "b", "n"), Cut: r.cut()})
			}
		}
		x.ends()
	}
	if good*10 < all*5 || ended == 0 {
		t.Errorf("only %d steps of %d were good, %d behind an end", good, all, ended)
	}
}

package keys_test

import (
	"math/big"
	"slices"
	"strconv"
	"strings"

	"copyist/api"
)

// The chapter's tables, written down once more: what the calls say is held against them.

// anyKey stands in a row of keys for the argument.
const anyKey = "?arg"

var plainMotions = map[string]int{
	"h": api.MLeft, "\b": api.MLeft, "l": api.MRight, " ": api.MRight, "0": api.MStart,
	"^": api.MFirst, "$": api.MEnd, "|": api.MBar,
	"j": api.MDown, "k": api.MUp, "+": api.MNextRow, "\r": api.MNextRow,
	"-": api.MPrevRow, "_": api.MHere, "G": api.MGoto,
	"gg": api.MTopRow, "w": api.MWord, "b": api.MBack,
	"e": api.MWordEnd, "ge": api.MBackEnd, "W": api.MBigWord,
	"B": api.MBigBack, "E": api.MBigEnd, "gE": api.MBigBackEnd,
	"}": api.MParaNext, "{": api.MParaPrev, ";": api.MAgain,
	",": api.MReverse, "/": api.MSearch, "?": api.MSearchBack,
	"n": api.MNext, "N": api.MPrev, "*": api.MStar,
	"#": api.MHash, "H": api.MHigh, "M": api.MMiddle,
	"L": api.MLow, "%": api.MMatch,
	"f" + anyKey: api.MFind, "F" + anyKey: api.MFindBack, "t" + anyKey: api.MTill, "T" + anyKey: api.MTillBack,
	"`" + anyKey: api.MMark, "'" + anyKey: api.MMarkLine,
}

var plainObjects = map[string][2]int{
	"iw": {api.OWord, 0}, "aw": {api.OAWord, 0}, "iW": {api.OBigWord, 0}, "aW": {api.OABigWord, 0},
	`i"`: {api.OQuote, 34}, "i'": {api.OQuote, 39}, "i`": {api.OQuote, 96},
	`a"`: {api.OAQuote, 34}, "a'": {api.OAQuote, 39}, "a`": {api.OAQuote, 96},
	"i(": {api.OBlock, 40}, "i)": {api.OBlock, 40}, "ib": {api.OBlock, 40},
	"a(": {api.OABlock, 40}, "a)": {api.OABlock, 40}, "ab": {api.OABlock, 40},
	"i[": {api.OBlock, 91}, "i]": {api.OBlock, 91}, "a[": {api.OABlock, 91}, "a]": {api.OABlock, 91},
	"i{": {api.OBlock, 123}, "i}": {api.OBlock, 123}, "iB": {api.OBlock, 123},
	"a{": {api.OABlock, 123}, "a}": {api.OABlock, 123}, "aB": {api.OABlock, 123},
	"i<": {api.OBlock, 60}, "i>": {api.OBlock, 60}, "a<": {api.OABlock, 60}, "a>": {api.OABlock, 60},
	"ip": {api.OPara, 0}, "ap": {api.OAPara, 0},
}

var plainOperators = map[string]int{
	"d": api.VDelete, "c": api.VChange, "y": api.VYank, ">": api.VRight, "<": api.VLeft,
	"gU": api.VUpper, "gu": api.VLower, "g~": api.VFlip,
}

var plainNormal = map[string][2]int{
	"x": {api.VDelete, api.MRight}, "X": {api.VDelete, api.MLeft}, "D": {api.VDelete, api.MEnd},
	"s": {api.VChange, api.MRight}, "S": {api.VChange, api.MLines}, "C": {api.VChange, api.MEnd},
	"Y": {api.VYank, api.MLines}, "i": {api.VInsert, 0}, "a": {api.VAppend, 0},
	"I": {api.VInsertFirst, 0}, "A": {api.VAppendEnd, 0}, "o": {api.VOpen, 0},
	"O": {api.VOpenUp, 0}, "R": {api.VReplace, 0}, "p": {api.VPut, 0},
	"P": {api.VPutUp, 0}, "J": {api.VJoin, 0}, "gJ": {api.VJoinBare, 0},
	"~": {api.VFlipChar, 0}, "u": {api.VUndo, 0}, "\x12": {api.VRedo, 0},
	".": {api.VDot, 0}, "v": {api.VVisual, 0}, "V": {api.VVisualLine, 0},
	":": {api.VCommand, 0}, "&": {api.VSubAgain, 0}, "gv": {api.VReselect, 0},
	"ZZ": {api.VSaveQuit, 0}, "ZQ": {api.VQuit, 0}, "zt": {api.VTop, 0},
	"zz": {api.VMiddle, 0}, "zb": {api.VBottom, 0}, "\x06": {api.VPageDown, 0},
	"\x02": {api.VPageUp, 0}, "\x04": {api.VHalfDown, 0}, "\x15": {api.VHalfUp, 0},
	"\x05": {api.VRowDown, 0}, "\x19": {api.VRowUp, 0},
	"r" + anyKey: {api.VOver, 0}, "q" + anyKey: {api.VRecord, 0}, "@" + anyKey: {api.VPlay, 0}, "m" + anyKey: {api.VMark, 0},
}

var plainSelection = map[string]int{
	"d": api.VDelete, "x": api.VDelete, "c": api.VChange, "s": api.VChange, "y": api.VYank, ">": api.VRight, "<": api.VLeft,
	"U": api.VUpper, "gU": api.VUpper, "u": api.VLower, "gu": api.VLower, "~": api.VFlip, "g~": api.VFlip,
	"J": api.VJoin, "gJ": api.VJoinBare, "p": api.VPut, "P": api.VPutUp, "o": api.VSwap, "v": api.VVisual, "V": api.VVisualLine,
	":": api.VCommand, "zt": api.VTop, "zz": api.VMiddle, "zb": api.VBottom,
	"\x06": api.VPageDown, "\x02": api.VPageUp, "\x04": api.VHalfDown, "\x15": api.VHalfUp, "\x05": api.VRowDown, "\x19": api.VRowUp,
	"r" + anyKey: api.VOver, "q" + anyKey: api.VRecord, "@" + anyKey: api.VPlay, "m" + anyKey: api.VMark,
}

// plainKind is all rows of a kind of mode, whole: each operator with each thing that may follow it.
type plainKind struct {
	selection bool
	rows      map[string]api.Cmd // by keys with a point behind each; where an argument is read, its Arg is 0
	asks      map[string]api.Cmd // those that an argument follows, by the keys ahead of it
	begins    map[string]bool    // what some row begins with, and is longer
}

var plainKinds = map[bool]*plainKind{false: newPlainKind(false), true: newPlainKind(true)}

func newPlainKind(selection bool) *plainKind {
	k := &plainKind{selection, map[string]api.Cmd{}, map[string]api.Cmd{}, map[string]bool{}}
	for keys, move := range plainMotions {
		k.add(keys, api.Cmd{Verb: api.VMove, Move: move})
	}
	if selection {
		for keys, o := range plainObjects {
			k.add(keys, api.Cmd{Verb: api.VMove, Move: o[0], Arg: o[1]})
		}
		for keys, verb := range plainSelection {
			k.add(keys, api.Cmd{Verb: verb})
		}
		return k
	}
	for keys, v := range plainNormal {
		k.add(keys, api.Cmd{Verb: v[0], Move: v[1]})
	}
	for op, verb := range plainOperators {
		for keys, move := range plainMotions {
			k.add(op+keys, api.Cmd{Verb: verb, Move: move})
		}
		for keys, o := range plainObjects {
			k.add(op+keys, api.Cmd{Verb: verb, Move: o[0], Arg: o[1]})
		}
		k.add(op+op[len(op)-1:], api.Cmd{Verb: verb, Move: api.MLines})
		if len(op) == 2 {
			k.add(op+op, api.Cmd{Verb: verb, Move: api.MLines})
		}
	}
	return k
}

func (k *plainKind) add(keys string, c api.Cmd) {
	ahead, asks := strings.CutSuffix(keys, anyKey)
	l := ints(ahead)
	if asks {
		k.asks[dotted(l)] = c
		k.begins[dotted(l)] = true
	} else {
		k.rows[dotted(l)] = c
	}
	for n := range l {
		k.begins[dotted(l[:n])] = true
	}
}

func dotted(l []int) string {
	var b []byte
	for _, k := range l {
		b = append(strconv.AppendInt(b, int64(k), 10), '.')
	}
	return string(b)
}

// number cuts the digits off that keys begin with.
func number(l []int) (value *big.Int, left []int) {
	n := 0
	for n < len(l) && '0' <= l[n] && l[n] <= '9' && (n > 0 || l[n] != '0') {
		n++
	}
	value, _ = new(big.Int).SetString("0"+text(l[:n]), 10)
	return value, l[n:]
}

// read tells what a row of keys is, from its first key on, none of them being the escape.
func (k *plainKind) read(l []int) (api.Cmd, int) {
	reg := 0
	numbers := []*big.Int{}
	for {
		value, left := number(l)
		if len(left) < len(l) {
			numbers = append(numbers, value)
			l = left
		}
		if len(l) == 0 {
			return api.Cmd{}, api.KeyMore
		}
		if l[0] != '"' {
			break
		}
		if len(l) == 1 {
			return api.Cmd{}, api.KeyMore
		}
		if l[1] == 0 {
			return api.Cmd{}, api.KeyBad
		}
		reg, l = l[1], l[2:]
	}
	for op := range plainOperators {
		if k.selection || len(l) <= len(op) || text(l[:len(op)]) != op {
			continue
		}
		value, left := number(l[len(op):])
		if len(left) < len(l)-len(op) {
			numbers = append(numbers, value)
			l = slices.Concat(ints(op), left)
		}
		break
	}
	c, ok := k.rows[dotted(l)]
	if !ok {
		c, ok = k.asks[dotted(l[:len(l)-1])]
		c.Arg = l[len(l)-1]
	}
	switch {
	case ok:
		c.Reg, c.Count = reg, product(numbers)
		if c.Move == api.MMatch && c.Count > 0 {
			c.Move = api.MPercent
		}
		return c, api.KeyDone
	case k.begins[dotted(l)]:
		return api.Cmd{}, api.KeyMore
	}
	return api.Cmd{}, api.KeyBad
}

// product is a count, as the chapter says it.
func product(numbers []*big.Int) int {
	if len(numbers) == 0 {
		return 0
	}
	all, most := big.NewInt(1), big.NewInt(api.MaxCount)
	for _, n := range numbers {
		if n.Cmp(most) > 0 {
			n = most
		}
		all.Mul(all, n)
	}
	if all.Cmp(most) > 0 {
		all = most
	}
	return int(all.Int64())
}

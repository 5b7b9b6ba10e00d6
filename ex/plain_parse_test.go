package ex_test

import (
	"strings"

	"copyist/api"
)

// This file reads a command line a second time, plainly: by the words of the chapter, from place to place, with the places handed on.

var plainVerbs = map[string]int{
	"d": api.XDelete, "delete": api.XDelete, "y": api.XYank, "yank": api.XYank, "pu": api.XPut, "put": api.XPut, "m": api.XMove, "move": api.XMove,
	"t": api.XCopy, "co": api.XCopy, "copy": api.XCopy, "j": api.XJoin, "join": api.XJoin, ">": api.XRight, "<": api.XLeft,
	"s": api.XSub, "substitute": api.XSub, "&": api.XSubAgain, "g": api.XGlobal, "global": api.XGlobal, "v": api.XGlobalNot, "vglobal": api.XGlobalNot,
	"k": api.XMark, "mark": api.XMark, "u": api.XUndo, "undo": api.XUndo, "red": api.XRedo, "redo": api.XRedo, "set": api.XSet, "se": api.XSet,
	"w": api.XWrite, "write": api.XWrite, "e": api.XEdit, "edit": api.XEdit, "wq": api.XWriteQuit, "x": api.XExit, "exit": api.XExit,
	"q": api.XQuit, "quit": api.XQuit, "r": api.XRead, "read": api.XRead, "f": api.XFile, "file": api.XFile,
}

// plainTails says what follows a name: ! force, N not, r register, p register to put, c count, a address, S pattern, R replacement, f flags, _ blanks, L command line, m mark, w words, n file.
var plainTails = map[int]string{
	api.XDelete: "rc", api.XYank: "rc", api.XPut: "!p", api.XMove: "a", api.XCopy: "a", api.XJoin: "!c", api.XRight: "", api.XLeft: "",
	api.XSub: "SRf", api.XSubAgain: "_f", api.XGlobal: "NSL", api.XGlobalNot: "SL", api.XMark: "m", api.XUndo: "", api.XRedo: "", api.XSet: "w",
	api.XWrite: "!n", api.XEdit: "!n", api.XWriteQuit: "!n", api.XExit: "!n", api.XQuit: "!", api.XRead: "n", api.XFile: "n",
}

var plainLoners = map[int]bool{api.XUndo: true, api.XRedo: true, api.XSet: true, api.XWrite: true, api.XEdit: true, api.XWriteQuit: true, api.XExit: true, api.XQuit: true, api.XFile: true}

func within(list string, atom int) bool {
	return atom > 0 && atom < 128 && strings.IndexByte(list, byte(atom)) >= 0
}

const (
	smalls = "abcdefghijklmnopqrstuvwxyz"
	greats = "ABCDEFGHIJKLMNOPQRSTUVWXYZ"
	digits = "0123456789"
)

// upTo is the place of the first atom from p on that is none of a list.
func upTo(src []int, p int, list string) int {
	for p < len(src) && within(list, src[p]) {
		p++
	}
	return p
}

func at(src []int, p, sign int) bool { return p < len(src) && src[p] == sign }

func plainNumber(src []int, p int) (int, int) {
	q := upTo(src, p, digits)
	n := 0
	for _, d := range src[p:q] {
		if n = n*10 + d - '0'; n > 999999999 {
			n = 999999999
		}
	}
	return n, q
}

// plainText reads a text behind its sign; the last answer is false for a backslash at the end.
func plainText(src []int, p, sign int) ([]int, int, bool) {
	var text []int
	for ; p < len(src); p++ {
		switch {
		case src[p] == sign:
			return text, p + 1, true
		case src[p] != '\\':
			text = append(text, src[p])
		case p+1 == len(src):
			return nil, p + 1, false
		case src[p+1] == sign:
			p++
			text = append(text, sign)
		default:
			p++
			text = append(text, '\\', src[p])
		}
	}
	return text, p, true
}

// plainAddress reads an address: there (true, if there is one), and good (false with the place).
func plainAddress(src []int, p int) (a api.Addr, end int, there, good bool) {
	start := p
	switch {
	case p < len(src) && within(digits, src[p]):
		a.Kind = api.ANumber
		a.N, p = plainNumber(src, p)
	case at(src, p, '.'):
		a.Kind, p = api.ADot, p+1
	case at(src, p, '$'):
		a.Kind, p = api.ALast, p+1
	case at(src, p, 39):
		if p+1 == len(src) {
			return api.Addr{}, p + 1, false, false
		}
		a.Kind, a.N, p = api.AMark, src[p+1], p+2
	case at(src, p, '/'), at(src, p, '?'):
		a.Kind = api.ASearch
		if src[p] == '?' {
			a.Kind = api.ASearchBack
		}
		pat, q, ok := plainText(src, p+1, src[p])
		if !ok {
			return api.Addr{}, q, false, false
		}
		a.Pat, p = pat, q
	default:
		a.Kind = api.ADot
	}
	for at(src, p, '+') || at(src, p, '-') {
		sign := 1
		if src[p] == '-' {
			sign = -1
		}
		n, q := plainNumber(src, p+1)
		if q == p+1 {
			n = 1
		}
		a.Off += sign * n
		p = q
	}
	a.Off = max(-999999999, min(a.Off, 999999999))
	return a, p, p > start, true
}

func plainAddrs(src []int, p int) ([]api.Addr, int, bool) {
	const blanks = " \t"
	if at(src, p, '%') {
		p = upTo(src, p+1, blanks)
		return []api.Addr{number(1), last(0)}, p, !at(src, p, ',')
	}
	a, p, there, good := plainAddress(src, p)
	if !good {
		return nil, p, false
	}
	p = upTo(src, p, blanks)
	if !at(src, p, ',') {
		if there {
			return []api.Addr{a}, p, true
		}
		return nil, p, true
	}
	b, p, _, good := plainAddress(src, upTo(src, p+1, blanks))
	if !good {
		return nil, p, false
	}
	p = upTo(src, p, blanks)
	return []api.Addr{a, b}, p, !at(src, p, ',')
}

func plainParse(src []int) (api.Ex, int, api.Errno) {
	if len(src) > 1024 {
		return api.Ex{}, 0, api.ErrLong
	}
	addrs, p, good := plainAddrs(src, upTo(src, 0, " \t"))
	if !good {
		return api.Ex{}, p, api.ErrAddress
	}
	p = upTo(src, p, " \t")
	x := api.Ex{Addrs: addrs}
	if p == len(src) {
		x.Verb = api.XGoto
		return x, 0, api.OK
	}
	start := p
	switch {
	case src[p] == '>':
		p = upTo(src, p, ">")
		x.Verb, x.Count = api.XRight, p-start
	case src[p] == '<':
		p = upTo(src, p, "<")
		x.Verb, x.Count = api.XLeft, p-start
	case src[p] == '&':
		p++
		x.Verb = api.XSubAgain
	default:
		p = upTo(src, p, smalls)
		name := show(src[start:p])
		x.Verb = plainVerbs[name]
		if x.Verb == 0 && len(name) == 2 && name[0] == 'k' {
			x.Verb = api.XMark
			p--
		}
	}
	if x.Verb == 0 {
		return api.Ex{}, start, api.ErrCommand
	}
	if len(addrs) > 0 && plainLoners[x.Verb] {
		return api.Ex{}, start, api.ErrAddress
	}
	if p, good = plainTail(src, p, &x); !good {
		return api.Ex{}, p, api.ErrTail
	}
	if p = upTo(src, p, " \t"); p < len(src) {
		return api.Ex{}, p, api.ErrTail
	}
	return x, 0, api.OK
}

// plainTail reads what follows the name, and tells the place that it has come to, and whether that is no fault.
func plainTail(src []int, p int, x *api.Ex) (int, bool) {
	sign := 0
	good := true
	for _, part := range plainTails[x.Verb] {
		if strings.ContainsRune("rpcam_wn", part) {
			p = upTo(src, p, " \t")
		}
		switch part {
		case '!', 'N':
			if !at(src, p, '!') {
				break
			}
			p++
			if part == 'N' {
				x.Verb = api.XGlobalNot
			} else {
				x.Force = true
			}
		case 'r', 'p':
			list := smalls + greats + "\"-_"
			if part == 'p' {
				list += digits + ".:/"
			}
			if p < len(src) && within(list, src[p]) {
				x.Reg, p = src[p], p+1
			}
		case 'c':
			n, q := plainNumber(src, p)
			if q > p && n == 0 {
				return p, false
			}
			x.Count, p = n, q
		case 'a':
			var there bool
			if x.Dest, p, there, good = plainAddress(src, p); !there || !good {
				return p, false
			}
		case 'S':
			if p == len(src) || !within("/#,;:!@=", src[p]) {
				return p, false
			}
			sign = src[p]
			if x.Pat, p, good = plainText(src, p+1, sign); !good {
				return p, false
			}
		case 'R':
			if x.Rep, p, good = plainText(src, p, sign); !good {
				return p, false
			}
		case 'f':
			bits := map[int]int{'g': api.SubAll, 'i': api.SubIgnore, 'n': api.SubCount}
			for p < len(src) && bits[src[p]] != 0 && x.Flags&bits[src[p]] == 0 {
				x.Flags += bits[src[p]]
				p++
			}
		case 'L', 'w':
			x.Arg, p = src[p:], len(src)
			for part == 'w' && len(x.Arg) > 0 && within(" \t", x.Arg[len(x.Arg)-1]) {
				x.Arg = x.Arg[:len(x.Arg)-1]
			}
		case 'm':
			if p == len(src) || src[p] == 0 {
				return p, false
			}
			x.Reg, p = src[p], p+1
		case 'n':
			q := p
			for q < len(src) && src[q] >= 33 && src[q] <= 126 {
				q++
			}
			x.Arg, p = src[p:q], q
		}
	}
	return p, true
}

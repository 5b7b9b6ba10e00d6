package keys

import (
	"slices"

	"copyist/api"
)

// isSelection tells the kind of a mode: what is no selection is taken as Normal.
func isSelection(mode int) bool { return mode == api.Visual || mode == api.VisualLine }

// normalRows are what a command may begin with in the mode Normal.
func normalRows() []row { return slices.Concat(motions(), operators(), edits(), shared()) }

// selectionRows are the commands in a selection.
func selectionRows() []row { return slices.Concat(motions(), objects(), onSelection(), shared()) }

// targetRows are what may stand behind an operator.
func targetRows() []row { return slices.Concat(motions(), objects(), doubles()) }

func motions() []row {
	return []row{
		moves(api.MLeft, 'h'), moves(api.MLeft, api.KeyBack),
		moves(api.MRight, 'l'), moves(api.MRight, ' '),
		moves(api.MStart, '0'),
		moves(api.MFirst, '^'),
		moves(api.MEnd, '$'),
		moves(api.MBar, '|'),
		moves(api.MDown, 'j'),
		moves(api.MUp, 'k'),
		moves(api.MNextRow, '+'), moves(api.MNextRow, api.KeyReturn),
		moves(api.MPrevRow, '-'),
		moves(api.MHere, '_'),
		moves(api.MGoto, 'G'),
		moves(api.MTopRow, 'g', 'g'),
		moves(api.MWord, 'w'), moves(api.MBigWord, 'W'),
		moves(api.MBack, 'b'), moves(api.MBigBack, 'B'),
		moves(api.MWordEnd, 'e'), moves(api.MBigEnd, 'E'),
		moves(api.MBackEnd, 'g', 'e'), moves(api.MBigBackEnd, 'g', 'E'),
		moves(api.MParaNext, '}'),
		moves(api.MParaPrev, '{'),
		moves(api.MAgain, ';'),
		moves(api.MReverse, ','),
		moves(api.MSearch, '/'),
		moves(api.MSearchBack, '?'),
		moves(api.MNext, 'n'),
		moves(api.MPrev, 'N'),
		moves(api.MStar, '*'),
		moves(api.MHash, '#'),
		moves(api.MHigh, 'H'),
		moves(api.MMiddle, 'M'),
		moves(api.MLow, 'L'),
		moves(api.MMatch, '%'), // with a count it is MPercent
		moves(api.MFind, 'f').before(argument), moves(api.MFindBack, 'F').before(argument),
		moves(api.MTill, 't').before(argument), moves(api.MTillBack, 'T').before(argument),
		moves(api.MMark, '`').before(argument), moves(api.MMarkLine, '\'').before(argument),
	}
}

func objects() []row {
	rows := []row{
		moves(api.OWord, 'i', 'w'), moves(api.OAWord, 'a', 'w'),
		moves(api.OBigWord, 'i', 'W'), moves(api.OABigWord, 'a', 'W'),
		moves(api.OPara, 'i', 'p'), moves(api.OAPara, 'a', 'p'),
	}
	for _, key := range []int{'"', '\'', '`'} {
		rows = append(rows, moves(api.OQuote, 'i', key).with(key), moves(api.OAQuote, 'a', key).with(key))
	}
	rows = append(rows, blocks('(', ')', 'b')...)
	rows = append(rows, blocks('[', ']')...)
	rows = append(rows, blocks('{', '}', 'B')...)
	return append(rows, blocks('<', '>')...)
}

// blocks are the rows of a pair of brackets; the first of its keys, the opening one, is the argument.
func blocks(keys ...int) []row {
	var rows []row
	for _, key := range keys {
		rows = append(rows, moves(api.OBlock, 'i', key).with(keys[0]), moves(api.OABlock, 'a', key).with(keys[0]))
	}
	return rows
}

func operators() []row {
	return []row{
		does(api.VDelete, 'd').before(target),
		does(api.VChange, 'c').before(target),
		does(api.VYank, 'y').before(target),
		does(api.VRight, '>').before(target),
		does(api.VLeft, '<').before(target),
		does(api.VUpper, 'g', 'U').before(target),
		does(api.VLower, 'g', 'u').before(target),
		does(api.VFlip, 'g', '~').before(target),
	}
}

// doubles are the rows by which an operator, and it alone, takes whole lines.
func doubles() []row {
	return []row{
		takes(api.VDelete, api.MLines, 'd'),
		takes(api.VChange, api.MLines, 'c'),
		takes(api.VYank, api.MLines, 'y'),
		takes(api.VRight, api.MLines, '>'),
		takes(api.VLeft, api.MLines, '<'),
		takes(api.VUpper, api.MLines, 'U'), takes(api.VUpper, api.MLines, 'g', 'U'),
		takes(api.VLower, api.MLines, 'u'), takes(api.VLower, api.MLines, 'g', 'u'),
		takes(api.VFlip, api.MLines, '~'), takes(api.VFlip, api.MLines, 'g', '~'),
	}
}

// edits are the other commands of the mode Normal that a selection does not have, or has otherwise.
func edits() []row {
	return []row{
		takes(api.VDelete, api.MRight, 'x'), takes(api.VDelete, api.MLeft, 'X'), takes(api.VDelete, api.MEnd, 'D'),
		takes(api.VChange, api.MRight, 's'), takes(api.VChange, api.MLines, 'S'), takes(api.VChange, api.MEnd, 'C'),
		takes(api.VYank, api.MLines, 'Y'),
		does(api.VInsert, 'i'), does(api.VInsertFirst, 'I'),
		does(api.VAppend, 'a'), does(api.VAppendEnd, 'A'),
		does(api.VOpen, 'o'), does(api.VOpenUp, 'O'),
		does(api.VReplace, 'R'),
		does(api.VFlipChar, '~'),
		does(api.VUndo, 'u'),
		does(api.VRedo, api.KeyCtrlR),
		does(api.VDot, '.'),
		does(api.VSubAgain, '&'),
		does(api.VReselect, 'g', 'v'),
		does(api.VSaveQuit, 'Z', 'Z'),
		does(api.VQuit, 'Z', 'Q'),
	}
}

// onSelection are the other commands of a selection that the mode Normal does not have, or has otherwise.
func onSelection() []row {
	return []row{
		does(api.VDelete, 'd'), does(api.VDelete, 'x'),
		does(api.VChange, 'c'), does(api.VChange, 's'),
		does(api.VYank, 'y'),
		does(api.VRight, '>'),
		does(api.VLeft, '<'),
		does(api.VUpper, 'U'), does(api.VUpper, 'g', 'U'),
		does(api.VLower, 'u'), does(api.VLower, 'g', 'u'),
		does(api.VFlip, '~'), does(api.VFlip, 'g', '~'),
		does(api.VSwap, 'o'),
	}
}

// shared are the other commands that every mode has.
func shared() []row {
	return []row{
		does(api.VPut, 'p'), does(api.VPutUp, 'P'),
		does(api.VJoin, 'J'), does(api.VJoinBare, 'g', 'J'),
		does(api.VVisual, 'v'), does(api.VVisualLine, 'V'),
		does(api.VCommand, ':'),
		does(api.VTop, 'z', 't'), does(api.VMiddle, 'z', 'z'), does(api.VBottom, 'z', 'b'),
		does(api.VPageDown, api.KeyCtrlF), does(api.VPageUp, api.KeyCtrlB),
		does(api.VHalfDown, api.KeyCtrlD), does(api.VHalfUp, api.KeyCtrlU),
		does(api.VRowDown, api.KeyCtrlE), does(api.VRowUp, api.KeyCtrlY),
		does(api.VOver, 'r').before(argument),
		does(api.VRecord, 'q').before(argument),
		does(api.VPlay, '@').before(argument),
		does(api.VMark, 'm').before(argument),
	}
}

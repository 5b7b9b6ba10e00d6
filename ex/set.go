package ex

import (
	"strings"

	"copyist/api"
)

// sets turns settings.
type sets struct{}

func (sets) verb() int { return api.XSet }

func (sets) tail() []part { return []part{words{}} }

func (sets) do(j *job, x api.Ex, _ stretch) api.Errno {
	for _, word := range strings.FieldsFunc(spelled(x.Arg), func(r rune) bool { return isBlank(int(r)) }) {
		if !turn(&j.Set, word) {
			return api.ErrTail
		}
	}
	return api.OK
}

// turn does what one word says, if it says anything.
func turn(set *api.Settings, word string) bool {
	switch word {
	case "ic", "ignorecase":
		set.IgnoreCase = true
	case "noic", "noignorecase":
		set.IgnoreCase = false
	case "ws", "wrapscan":
		set.NoWrap = false
	case "nows", "nowrapscan":
		set.NoWrap = true
	case "br=lf":
		set.Native = api.LF
	case "br=crlf":
		set.Native = api.CRLF
	case "br=cr":
		set.Native = api.CR
	default:
		return false
	}
	return true
}

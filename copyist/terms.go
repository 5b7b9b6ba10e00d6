package copyist

import "copyist/api"

// terms are what each session of an editor is begun with, whatever its file is.
type terms struct {
	enc, limit, native, depth, height int
}

func termsOf(s api.Setup) terms {
	return terms{enc: s.Enc, limit: s.Limit, native: s.Native, depth: s.Depth, height: s.Height}
}

// termsRefused tells why no session can be begun so, on whichever disk.
func termsRefused(s api.Setup) api.Errno {
	switch {
	case s.Enc < api.Auto || s.Enc > api.Latin1:
		return api.ErrEnc
	case s.Limit < 0 || s.Limit > api.MaxBytes,
		s.Native < api.LF || s.Native > api.CR,
		s.Depth < 1 || s.Depth > api.MaxUndo,
		s.Height < 1 || s.Height > api.MaxRows:
		return api.ErrArg
	}
	return api.OK
}

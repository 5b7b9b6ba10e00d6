package save

import (
	"bytes"
	"cmp"

	"copyist/api"
	"copyist/codec"
	"copyist/disk"
)

// Open reads a file, in an encoding or (Auto) in the one that its bytes look like; limit: the bytes that it may have behind the mark.
func Open(d *disk.Disk, name string, enc int, limit int) (*File, api.Loaded, api.Errno) {
	if err := openRefused(name, enc, limit); err != api.OK {
		return nil, api.Loaded{}, err
	}
	found, err := find(d, name)
	if err != nil {
		return nil, api.Loaded{}, number(err)
	}
	f := &File{disk: d, name: name, known: found}
	if found == (api.Stamp{}) {
		return f, api.Loaded{Enc: cmp.Or(enc, api.UTF8), New: true}, api.OK
	}
	b, err := d.Read(name)
	if err != nil {
		return nil, api.Loaded{}, number(err)
	}
	enc, f.mark = marked(enc, b)
	b = b[len(f.mark):]
	if len(b) > limit {
		return nil, api.Loaded{}, api.ErrFull
	}
	return f, api.Loaded{Enc: enc, Mark: len(f.mark), Data: b}, api.OK
}

// openRefused tells why a file isn't even sought.
func openRefused(name string, enc, limit int) api.Errno {
	switch {
	case !Name(name):
		return api.ErrName
	case enc < api.Auto || enc > api.Latin1:
		return api.ErrEnc
	case limit < 0 || limit > api.MaxBytes:
		return api.ErrArg
	}
	return api.OK
}

// marked tells the encoding of bytes, and the mark that they begin with.
func marked(enc int, b []byte) (int, []byte) {
	if enc == api.Auto {
		enc, _ = codec.Guess(b) // by the mark, if there is one
	}
	if mark := codec.Mark(enc); bytes.HasPrefix(b, mark) {
		return enc, mark
	}
	return enc, nil
}

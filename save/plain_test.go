package save_test

import (
	"slices"
	"strings"

	"copyist/api"
	"copyist/codec"
	"copyist/disk"
)

// plain is a second reading of the chapter: a File with its disk, whose calls stand one behind the other.
type plain struct {
	d            *disk.Disk
	name         string
	mark         []byte
	known, tried maybe
}

// maybe is a stamp, or that there is none.
type maybe struct {
	there bool
	stamp api.Stamp
}

const nameBytes = "abcdefghijklmnopqrstuvwxyzABCDEFGHIJKLMNOPQRSTUVWXYZ0123456789._-~"

func plainName(name string) bool {
	for _, b := range []byte(name) {
		if strings.IndexByte(nameBytes, b) < 0 {
			return false
		}
	}
	return len(name) >= 1 && len(name) <= 31 && name[len(name)-1] != '~'
}

func plainOpen(d *disk.Disk, name string, enc, limit int) (*plain, api.Loaded, api.Errno) {
	if !plainName(name) {
		return nil, api.Loaded{}, api.ErrName
	}
	if !slices.Contains([]int{api.Auto, api.UTF8, api.UTF16LE, api.UTF16BE, api.Latin1}, enc) {
		return nil, api.Loaded{}, api.ErrEnc
	}
	if limit < 0 || limit > 65536 {
		return nil, api.Loaded{}, api.ErrArg
	}
	stamp, err := d.Stamp(name)
	if errno(err) == api.ErrMissing {
		if enc == api.Auto {
			enc = api.UTF8
		}
		return &plain{d: d, name: name}, api.Loaded{Enc: enc, New: true}, api.OK
	}
	if err != nil {
		return nil, api.Loaded{}, errno(err)
	}
	b, err := d.Read(name)
	if err != nil {
		return nil, api.Loaded{}, errno(err)
	}
	size := 0
	if enc == api.Auto {
		if enc, size = codec.Detect(b); enc == 0 {
			enc, _ = codec.Guess(b)
		}
	} else if found, n := codec.Detect(b); found == enc {
		size = n
	}
	if len(b)-size > limit {
		return nil, api.Loaded{}, api.ErrFull
	}
	p := &plain{d: d, name: name, mark: slices.Clone(b[:size]), known: maybe{true, stamp}}
	return p, api.Loaded{Enc: enc, Mark: size, Data: b[size:]}, api.OK
}

// found is what stands under a name.
func (p *plain) found(name string) (maybe, api.Errno) {
	stamp, err := p.d.Stamp(name)
	switch errno(err) {
	case api.OK:
		return maybe{true, stamp}, api.OK
	case api.ErrMissing:
		return maybe{}, api.OK
	}
	return maybe{}, errno(err)
}

func (p *plain) save(data string, force bool) api.Errno {
	found, e := p.found(p.name)
	if e != api.OK {
		return e
	}
	if found.there && p.tried.there && found.stamp == p.tried.stamp {
		p.known = p.tried
	}
	if !force && found != p.known {
		return api.ErrChanged
	}
	return p.write(p.name, data, &p.known, &p.tried)
}

func (p *plain) copy(name, data string, force bool) api.Errno {
	if !plainName(name) {
		return api.ErrName
	}
	if name == p.name {
		return p.save(data, force)
	}
	found, e := p.found(name)
	if e != api.OK {
		return e
	}
	if found.there && !force {
		return api.ErrExists
	}
	var known, tried maybe
	return p.write(name, data, &known, &tried)
}

func (p *plain) as(name string) api.Errno {
	if !plainName(name) {
		return api.ErrName
	}
	found, e := p.found(name)
	if e != api.OK {
		return e
	}
	if found.there {
		return api.ErrExists
	}
	*p = plain{d: p.d, name: name, mark: p.mark}
	return api.OK
}

func (p *plain) stamp() api.Stamp {
	if !p.known.there {
		return api.Stamp{0, 0, 0}
	}
	return p.known.stamp
}

// write does the steps 3 to 8.
func (p *plain) write(name, data string, known, tried *maybe) api.Errno {
	beside := name + "~"
	calls := []func() error{func() error {
		err := p.d.Make(beside)
		if errno(err) != api.ErrExists {
			return err
		}
		if err := p.d.Remove(beside); err != nil {
			return err
		}
		return p.d.Make(beside)
	}}
	all := string(p.mark) + data
	for at := 0; at < len(all); at += 1024 {
		part := []byte(all[at:min(at+1024, len(all))])
		calls = append(calls, func() error {
			_, err := p.d.Append(beside, part)
			return err
		})
	}
	calls = append(calls, func() error { return p.d.Sync(beside) }, func() error {
		stamp, err := p.d.Stamp(beside)
		if err == nil {
			*tried = maybe{true, stamp}
		}
		return err
	}, func() error { return p.d.Rename(beside, name) })
	for _, call := range calls {
		if err := call(); err != nil {
			p.d.Remove(beside)
			return errno(err)
		}
	}
	*known = *tried
	return errno(p.d.SyncDir())
}

func plainTidy(d *disk.Disk) api.Errno {
	if d.Down() {
		return api.ErrDown
	}
	count := 0
	for _, name := range d.Names() {
		if name[len(name)-1] == '~' {
			if err := d.Remove(name); err != nil {
				return errno(err)
			}
			count++
		}
	}
	if count == 0 {
		return api.OK
	}
	return errno(d.SyncDir())
}

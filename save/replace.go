package save

import (
	"errors"
	"iter"
	"slices"

	"copyist/api"
	"copyist/disk"
	"copyist/piece"
)

// replace writes a new file beside one, and puts it into its place when all of it lasts; tried is its stamp from the moment on from which it may be there.
func (f *File) replace(name string, t *piece.Text, tried *api.Stamp) (err error) {
	beside := name + leftover
	defer func() {
		if err != nil {
			f.disk.Remove(beside) // it may not be there, and what went wrong first is told
		}
	}()
	if err := begin(f.disk, beside); err != nil {
		return err
	}
	for part := range parts(f.mark, t) {
		if _, err := f.disk.Append(beside, part); err != nil {
			return err
		}
	}
	if err := f.disk.Sync(beside); err != nil {
		return err
	}
	stamp, err := f.disk.Stamp(beside)
	if err != nil {
		return err
	}
	*tried = stamp
	return f.disk.Rename(beside, name)
}

// begin makes an empty file, in the place of what a broken save has left.
func begin(d *disk.Disk, beside string) error {
	err := d.Make(beside)
	if !errors.Is(err, api.ErrExists) {
		return err
	}
	if err := d.Remove(beside); err != nil {
		return err
	}
	return d.Make(beside)
}

// parts goes through the mark and the text's bytes, as much at a time as is written at once.
func parts(mark []byte, t *piece.Text) iter.Seq[[]byte] {
	return func(yield func([]byte) bool) {
		waiting := slices.Clone(mark)
		for b := range t.Chunks(api.Chunk) {
			waiting = append(waiting, b...)
			if len(waiting) < api.Chunk {
				continue
			}
			if !yield(waiting[:api.Chunk]) {
				return
			}
			waiting = slices.Clone(waiting[api.Chunk:])
		}
		if len(waiting) > 0 {
			yield(waiting)
		}
	}
}

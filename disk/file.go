package disk

import (
	"slices"

	"copyist/api"
)

// file is what may stand under a name. The directory that is seen and the one that lasts share it.
type file struct {
	number int
	bytes  []byte
	synced int // so many of the first bytes
	count  int // of its writings
}

// handle is a file as it stands under a name.
type handle struct {
	name string
	*file
}

// write puts bytes behind those that are there.
func (f *file) write(b []byte) {
	if len(b) > 0 {
		f.bytes = append(f.bytes, b...)
		f.count++
	}
}

// become puts bytes in the place of those that are there, for good.
func (f *file) become(b []byte) {
	f.bytes = slices.Clone(b)
	f.count++
	f.sync()
}

func (f *file) sync() { f.synced = len(f.bytes) }

// cut leaves the synced bytes and so many more; what is left is synced.
func (f *file) cut(more int) {
	left := f.synced + within(more, len(f.bytes)-f.synced)
	f.bytes = f.bytes[:left]
	f.sync()
}

func (f *file) copied() []byte { return slices.Clone(f.bytes) }

func (f *file) stamp() api.Stamp { return api.Stamp{f.number, len(f.bytes), f.count} }

// within is n, or the nearest number from 0 to most.
func within(n, most int) int { return min(max(n, 0), most) }

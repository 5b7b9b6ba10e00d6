package disk

import (
	"maps"
	"slices"

	"copyist/api"
)

// directory has the files by their names, no file under two.
type directory map[string]*file

// act is one change of a directory: the name gone is free, and the handle's file has the handle's name. An empty name, a handle without a file: nothing of that kind.
type act struct {
	gone string
	handle
}

func (a act) on(dir directory) {
	delete(dir, a.gone)
	if a.file != nil {
		dir[a.name] = a.file
	}
}

func (dir directory) find(name string) (handle, api.Errno) {
	if !isName(name) {
		return handle{}, api.ErrName
	}
	f := dir[name]
	if f == nil {
		return handle{}, api.ErrMissing
	}
	return handle{name: name, file: f}, api.OK
}

// with does something with the file of a name, if there is one.
func (dir directory) with(name string, do func(h handle) api.Errno) api.Errno {
	h, err := dir.find(name)
	if err != api.OK {
		return err
	}
	return do(h)
}

// handles are all files, by their rising names.
func (dir directory) handles() []handle {
	all := make([]handle, 0, len(dir))
	for _, name := range slices.Sorted(maps.Keys(dir)) {
		all = append(all, handle{name: name, file: dir[name]})
	}
	return all
}

// used is how many bytes all files have.
func (dir directory) used() int {
	n := 0
	for _, f := range dir {
		n += len(f.bytes)
	}
	return n
}

func isName(name string) bool {
	if len(name) < 1 || len(name) > api.MaxName {
		return false
	}
	for i := range len(name) {
		if !isNameByte(name[i]) {
			return false
		}
	}
	return true
}

func isNameByte(c byte) bool {
	switch {
	case c >= 'a' && c <= 'z', c >= 'A' && c <= 'Z', c >= '0' && c <= '9':
		return true
	}
	return c == '.' || c == '_' || c == '-' || c == '~'
}

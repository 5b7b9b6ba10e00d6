package save

import (
	"strings"

	"copyist/api"
	"copyist/disk"
)

// leftover ends the names that are ours: what stands under one was never renamed.
const leftover = "~"

// Name tells whether a name may be a file's; with room for one byte more, that of the name beside.
func Name(name string) bool {
	if name == "" || len(name) > api.MaxName-1 || strings.HasSuffix(name, leftover) {
		return false
	}
	for i := range len(name) {
		if !inName(name[i]) {
			return false
		}
	}
	return true
}

func inName(b byte) bool {
	switch {
	case 'a' <= b && b <= 'z', 'A' <= b && b <= 'Z', '0' <= b && b <= '9':
		return true
	}
	return b == '.' || b == '_' || b == '-' || b == '~'
}

// Tidy takes away what broken saves have left.
func Tidy(d *disk.Disk) api.Errno {
	if d.Down() {
		return api.ErrDown
	}
	removed := false
	for _, name := range d.Names() {
		if !strings.HasSuffix(name, leftover) {
			continue
		}
		if err := d.Remove(name); err != nil {
			return number(err)
		}
		removed = true
	}
	if !removed {
		return api.OK
	}
	return number(d.SyncDir())
}

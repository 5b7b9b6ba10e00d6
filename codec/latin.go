package codec

// latin is the coder of Latin1.
type latin struct{}

func (latin) size(atom int) int {
	if 0 <= atom && atom <= 0xFF {
		return 1
	}
	return 0
}

func (latin) put(out []byte, atom int) []byte { return append(out, byte(atom)) }

func (latin) first(b []byte) (int, int) { return int(b[0]), 1 }

func (latin) last(b []byte) (int, int) { return int(b[len(b)-1]), 1 }

func (latin) waits(b []byte) bool { return false }

func (latin) mark() []byte { return nil }

package save_test

import (
	"slices"
	"strings"
	"testing"

	"copyist/api"
	"copyist/disk"
	"copyist/piece"
	"copyist/save"
)

// mark8, mark16, mark61: the byte order marks of UTF8, UTF16LE, UTF16BE.
const mark8, mark16, mark61 = "\xEF\xBB\xBF", "\xFF\xFE", "\xFE\xFF"

// kinds are those of all faults.
var kinds = []int{api.FaultRefuse, api.FaultPart, api.FaultLie, api.FaultAhead, api.FaultBehind}

// errno takes the number out of an error of the disk, by hand.
func errno(err error) api.Errno {
	if err == nil {
		return api.OK
	}
	return err.(*disk.Fail).Err.(api.Errno)
}

func newDisk(t *testing.T, space int, files ...string) *disk.Disk {
	t.Helper()
	d, err := disk.New(space)
	if err != nil {
		t.Fatal(err)
	}
	putAll(t, d, files...)
	return d
}

// putAll is another hand: names and bytes, one behind the other.
func putAll(t *testing.T, d *disk.Disk, files ...string) {
	t.Helper()
	for i := 0; i+1 < len(files); i += 2 {
		if err := d.Put(files[i], []byte(files[i+1])); err != nil {
			t.Fatal(err)
		}
	}
}

// text is one of any bytes.
func text(t *testing.T, s string) *piece.Text {
	t.Helper()
	return encoded(t, api.UTF8, s)
}

func encoded(t *testing.T, enc int, s string) *piece.Text {
	t.Helper()
	x, e := piece.Open(enc, []byte(s), api.MaxBytes)
	if e != api.OK {
		t.Fatal(e)
	}
	return x
}

// open opens a file that must open; in the encoding that is found.
func open(t *testing.T, d *disk.Disk, name string) *save.File {
	t.Helper()
	f, _, e := save.Open(d, name, api.Auto, api.MaxBytes)
	if f == nil || e != api.OK {
		t.Fatalf("Open(%q): %v, %d", name, f, e)
	}
	return f
}

func is(t *testing.T, what string, got, want api.Errno) {
	t.Helper()
	if got != want {
		t.Fatalf("%s: %d, want %d", what, got, want)
	}
}

// seen are names and bytes, one behind the other.
func seen(t *testing.T, d *disk.Disk) []string {
	t.Helper()
	all := []string{}
	for _, name := range d.Names() {
		b, err := d.Read(name)
		if err != nil {
			t.Fatal(err)
		}
		all = append(all, name, string(b))
	}
	return all
}

func holds(t *testing.T, what string, d *disk.Disk, want ...string) {
	t.Helper()
	if got := seen(t, d); !slices.Equal(got, want) {
		t.Fatalf("%s: the disk holds %s, want %s", what, short(got), want)
	}
}

// short cuts long bytes where they are told.
func short(all []string) []string {
	out := []string{}
	for _, s := range all {
		if len(s) > 40 {
			s = s[:40] + ".."
		}
		out = append(out, s)
	}
	return out
}

func names(t *testing.T, what string, d *disk.Disk, want ...string) {
	t.Helper()
	if got := d.Names(); !slices.Equal(got, want) {
		t.Fatalf("%s: the names are %v, want %v", what, got, want)
	}
}

func steps(t *testing.T, what string, d *disk.Disk, want int) {
	t.Helper()
	if got := d.Steps(); got != want {
		t.Fatalf("%s: %d steps, want %d", what, got, want)
	}
}

// stampOf tells a file's stamp on the disk; all 0, if there is no file.
func stampOf(t *testing.T, d *disk.Disk, name string) api.Stamp {
	t.Helper()
	s, err := d.Stamp(name)
	if e := errno(err); e != api.OK && e != api.ErrMissing {
		t.Fatal(err)
	}
	return s
}

func knows(t *testing.T, what string, f *save.File, want api.Stamp) {
	t.Helper()
	if got := f.Stamp(); got != want {
		t.Fatalf("%s: the stamp %v, want %v", what, got, want)
	}
}

func plan(d *disk.Disk, faults ...api.Fault) { d.Plan(faults) }

func fault(step, kind int) api.Fault { return api.Fault{Step: step, Kind: kind} }

func cutting(step, kind, names int, bytes ...int) api.Fault {
	return api.Fault{Step: step, Kind: kind, Cut: api.Cut{Names: names, Bytes: bytes}}
}

// letters are n bytes, of which a chunk is unlike those next to it.
func letters(n int) string {
	var b strings.Builder
	for i := range n {
		b.WriteByte(byte('a' + i%13 + i/api.Chunk%13))
	}
	return b.String()
}

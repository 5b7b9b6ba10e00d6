package copyist_test

import (
	"testing"

	"copyist/api"
	"copyist/copyist"
	"copyist/disk"
)

// onto begins another session on the disks of a pair.
func (x *pair) onto(name string) *pair {
	x.t.Helper()
	return beginOn(x.t, x.d, x.p.d, usual(name))
}

// TestTwoOnOneDisk, P1901: each sees what the other has saved as another hand's, and knows nothing else of it.
func TestTwoOnOneDisk(t *testing.T) {
	one := begin(t, usual("a", "a", "abc", "b", "other"))
	two := one.onto("a")
	one.does("yyx:w⏎").file("a", "bc")
	two.sees("abc", 0).dirty(false).empty('0').does("$x").refuses("w", api.ErrChanged).sees("ab", 1)
	two.does(":w!⏎").file("a", "ab")
	one.sees("bc", 0).dirty(false).does("x").refuses("w", api.ErrChanged).refuses("wq", api.ErrChanged).does(":e!⏎").sees("ab", 0).does("x:w⏎").file("a", "b")
	// names are each one's own
	one.does(":f n⏎").named("n", api.UTF8, 0)
	two.named("a", api.UTF8, 0).refuses("w", api.ErrChanged).does(":f n⏎:w⏎").file("n", "ab") // no file has that name yet
	one.refuses("w", api.ErrChanged).does(":w m⏎").named("n", api.UTF8, 0)
	two.refuses("f m", api.ErrExists).refuses("w m", api.ErrExists).does(":r m⏎").sees("ab\nb", 3)
	// one ends, the other goes on
	one.does(":q⏎").gone()
	two.does(":w⏎").file("n", "ab\nb")
	// the end of one is not the other's; registers neither
	three := one.onto("b")
	three.empty('0').sees("other", 0).does("yy")
	two.empty('0')
	three.ends()
}

// TestPowerOfTwo, P1903: a power loss is the disk's: the other session goes on, and what it asks of the disk is refused until there is power again.
func TestPowerOfTwo(t *testing.T) {
	one := begin(t, usual("a", "a", "abc", "b", "other"))
	two := one.onto("b")
	one.does("x").faults(fault(1, api.FaultAhead))
	two.does("x").refuses("w", api.ErrDown) // the plan is the disk's too
	one.refuses("w", api.ErrDown).sees("bc", 0).dirty(true)
	two.restart("b", api.Cut{}, api.OK).sees("other", 0)
	one.does(":w⏎").files("a", "bc", "b", "other")
	two.does("x:w⏎").files("a", "bc", "b", "ther")
	one.restart("b", api.Cut{}, api.OK).sees("ther", 0)
	two.sees("ther", 0).does(":w⏎")
	one.refuses("w", api.ErrChanged).ends()
}

// TestTidyOfTwo, P1902: a session that begins takes away what it takes for a left-over; the other's next save writes it anew.
func TestTidyOfTwo(t *testing.T) {
	one := begin(t, usual("a", "a", "abc"))
	one.does("x").faults(fault(2, api.FaultLie), fault(3, api.FaultRefuse)).refuses("w", api.ErrIO) // a~ is there, and could not be taken away
	one.faults().files("a", "abc", "a~", "")
	two := one.onto("a")
	two.files("a", "abc")
	one.does(":w⏎").files("a", "bc").ends()
}

// TestOnePowerLossManySessions, W4: sessions one behind the other on a disk that goes down in each.
func TestOnePowerLossManySessions(t *testing.T) {
	d, err := disk.New(1000)
	if err != nil {
		t.Fatal(err)
	}
	text := ""
	for step := range 40 {
		d.Restart()
		d.Plan(nil)
		e, no := copyist.On(d, usual("a"))
		if no != api.OK {
			t.Fatal(no)
		}
		if got := show(e.Do(seen).Sight.Text); got != text {
			t.Fatalf("at %d: %q, want %q", step, got, text)
		}
		d.Plan([]api.Fault{cutting(1+step%9, api.FaultAhead+step%2, step%4, 0, 1)})
		if a := e.Do(typed("Ax␛:w⏎")); a.Err == api.OK {
			text += "x"
		}
		d.Crash(api.Cut{Names: step % 3})
		d.Restart()
		b, _ := d.Read("a")
		if string(b) != text && string(b) != text+"x" {
			t.Fatalf("at %d: %q, want %q", step, b, text)
		}
		text = string(b)
	}
}

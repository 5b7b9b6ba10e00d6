package disk

import "copyist/api"

// Crash is a power loss: what was not synced is cut; the disk is down.
func (d *Disk) Crash(c api.Cut) {
	if d.down {
		return
	}
	for _, a := range d.acts[:within(c.Names, len(d.acts))] {
		a.on(d.lasting)
	}
	d.seen = d.lasting
	d.settle()
	for i, h := range d.seen.handles() {
		more := 0
		if i < len(c.Bytes) {
			more = c.Bytes[i]
		}
		h.cut(more)
	}
	d.down = true
}

// Down tells whether the disk is down.
func (d *Disk) Down() bool { return d.down }

// Restart brings the disk up again.
func (d *Disk) Restart() {
	if !d.down {
		return
	}
	d.down = false
	d.plan = nil
	d.steps = 0
}

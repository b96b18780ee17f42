// Package disk is layer 1: append-only files, whose changes last only once they are synced.
package disk

import (
	"math"
	"slices"

	"thermograph/api"
)

// whole is the part of a change that makes all of it.
const whole = math.MaxInt

// change is a change that was made; apply makes it again on other files.
// part limits the bytes of an Append; the other changes ignore it.
type change struct {
	apply   func(f *files, part int)
	appends bool
}

// loss is a power loss that strikes when no raw call is left.
type loss struct{ left, keep, part int }

// Disk has files; what was not synced may be lost.
type Disk struct {
	room    int
	synced  *files // without the pending changes
	shown   *files // with them
	pending []change
	due     *loss
	dead    bool
	ops     int
}

// New returns an empty disk with its power on.
func New(room int) *Disk {
	return &Disk{room: max(room, 0), synced: newFiles(), shown: newFiles()}
}

// Append adds s at the end of a file, which it creates if need be.
func (d *Disk) Append(name, s string) api.Errno {
	if !valid(name) {
		return api.ErrName
	}
	if len(s) > d.room-d.shown.used {
		return api.ErrFull
	}
	return d.do(change{
		apply:   func(f *files, part int) { f.add(name, s[:min(part, len(s))]) },
		appends: true,
	})
}

// Rename gives a file another name, and replaces the file that had it.
func (d *Disk) Rename(from, to string) api.Errno {
	if !valid(from) || !valid(to) {
		return api.ErrName
	}
	if !d.shown.has(from) {
		return api.ErrNone
	}
	return d.do(change{apply: func(f *files, part int) { f.move(from, to) }})
}

// Remove removes a file.
func (d *Disk) Remove(name string) api.Errno {
	if !valid(name) {
		return api.ErrName
	}
	if !d.shown.has(name) {
		return api.ErrNone
	}
	return d.do(change{apply: func(f *files, part int) { f.remove(name) }})
}

// Sync makes all pending changes permanent.
func (d *Disk) Sync() api.Errno {
	if !d.powered() {
		return api.ErrDead
	}
	d.settle(len(d.pending))
	d.pending = nil
	d.count()
	return api.OK
}

// Read returns a file's content, pending changes included.
func (d *Disk) Read(name string) (string, bool) {
	return d.shown.read(name)
}

// Names returns the names of all files in increasing order.
func (d *Disk) Names() []string {
	return d.shown.names()
}

// Used returns the number of bytes of all files.
func (d *Disk) Used() int { return d.shown.used }

// Pending returns the number of pending changes.
func (d *Disk) Pending() int { return len(d.pending) }

// Ops returns the number of raw calls that succeeded.
func (d *Disk) Ops() int { return d.ops }

// Cut plans a power loss after n more raw calls.
func (d *Disk) Cut(n, keep, part int) {
	d.due = &loss{left: max(n, 0), keep: keep, part: part}
}

// Crash loses the power now, with what was not kept of the pending changes.
func (d *Disk) Crash(keep, part int) {
	if d.dead {
		return
	}
	kept := min(max(keep, 0), len(d.pending))
	d.settle(kept)
	if kept < len(d.pending) && d.pending[kept].appends && part > 0 {
		d.pending[kept].apply(d.synced, part)
	}
	d.shown = d.synced.clone()
	d.pending = nil
	d.due = nil
	d.dead = true
}

// Power turns the power on and forgets a planned loss.
func (d *Disk) Power() {
	d.dead = false
	d.due = nil
}

// Dead reports whether the power is off.
func (d *Disk) Dead() bool { return d.dead }

// Clone returns a disk in the same state that shares nothing with this one.
func (d *Disk) Clone() *Disk {
	c := *d
	c.synced = d.synced.clone()
	c.shown = d.shown.clone()
	c.pending = slices.Clone(d.pending)
	if d.due != nil {
		due := *d.due
		c.due = &due
	}
	return &c
}

// do makes a change whose arguments are in order.
func (d *Disk) do(c change) api.Errno {
	if !d.powered() {
		return api.ErrDead
	}
	c.apply(d.shown, whole)
	d.pending = append(d.pending, c)
	d.count()
	return api.OK
}

// powered reports whether a raw call can succeed; a loss that is due strikes first.
func (d *Disk) powered() bool {
	if !d.dead && d.due != nil && d.due.left == 0 {
		d.Crash(d.due.keep, d.due.part)
	}
	return !d.dead
}

// count counts a raw call that succeeded.
func (d *Disk) count() {
	d.ops++
	if d.due != nil {
		d.due.left--
	}
}

// settle makes the first n pending changes permanent.
func (d *Disk) settle(n int) {
	for _, c := range d.pending[:n] {
		c.apply(d.synced, whole)
	}
}

// valid reports whether a file may have this name.
func valid(name string) bool {
	return len(name) >= 1 && len(name) <= api.MaxFile
}

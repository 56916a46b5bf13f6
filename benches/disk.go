package benches

import (
	"slices"

	"leadlight/api"
)

// Disk is a disk that can lose power. The zero Disk is empty.
type Disk struct {
	bytes   []byte
	durable int // how many of the bytes; those behind them are pending
}

// NewDisk returns an empty disk.
func NewDisk() *Disk { return &Disk{} }

// Write appends pending bytes.
func (d *Disk) Write(b []byte) api.Errno {
	if d == nil {
		return api.ErrArg
	}
	if len(b) > api.MaxDisk-len(d.bytes) {
		return api.ErrLimit
	}
	d.bytes = append(d.bytes, b...)
	return api.OK
}

// Sync makes all bytes durable.
func (d *Disk) Sync() {
	if d != nil {
		d.durable = len(d.bytes)
	}
}

// Read returns all bytes.
func (d *Disk) Read() []byte {
	if d == nil {
		return nil
	}
	return slices.Clone(d.bytes)
}

// Pending returns how many bytes are pending.
func (d *Disk) Pending() int {
	if d == nil {
		return 0
	}
	return len(d.bytes) - d.durable
}

// Crash loses power: the first pending bytes survive, one bit of them may be inverted.
func (d *Disk) Crash(keep, flip int) api.Errno {
	if d == nil || !within(keep, 0, d.Pending()) || !within(flip, -1, 8*keep-1) {
		return api.ErrArg
	}
	if flip >= 0 {
		d.bytes[d.durable+flip/8] ^= 1 << (flip % 8)
	}
	d.bytes = d.bytes[:d.durable+keep]
	d.Sync()
	return api.OK
}

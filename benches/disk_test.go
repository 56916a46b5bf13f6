package benches_test

import (
	"bytes"
	"math"
	"math/rand"
	"slices"
	"testing"

	"leadlight/api"
	"leadlight/benches"
)

// platter is what a disk must hold.
type platter struct{ durable, pending []byte }

// crash is the rule of a disk's Crash.
func (p *platter) crash(keep, flip int) api.Errno {
	if keep < 0 || keep > len(p.pending) || flip < -1 || flip > 8*keep-1 {
		return api.ErrArg
	}
	if flip >= 0 {
		p.pending[flip/8] ^= []byte{1, 2, 4, 8, 16, 32, 64, 128}[flip%8]
	}
	p.durable = append(p.durable, p.pending[:keep]...)
	p.pending = nil
	return api.OK
}

// TestDisk checks disks while bytes are written, synced and lost.
func TestDisk(t *testing.T) {
	d := rand.New(rand.NewSource(1))
	for _, disk := range []*benches.Disk{benches.NewDisk(), new(benches.Disk)} {
		var p platter
		for range 4000 {
			switch d.Intn(4) {
			case 0, 1:
				b := make([]byte, d.Intn(6))
				d.Read(b)
				if e := disk.Write(b); e != api.OK {
					t.Error("Write", b, e)
				}
				p.pending = append(p.pending, b...)
				clear(b) // what was written is the disk's own
			case 2:
				if d.Intn(3) == 0 {
					disk.Sync()
					p.durable, p.pending = append(p.durable, p.pending...), nil
				}
			case 3:
				keep := d.Intn(len(p.pending)+4) - 2
				flip := d.Intn(max(1, 8*keep)+4) - 3
				if e, want := disk.Crash(keep, flip), p.crash(keep, flip); e != want {
					t.Error("Crash", keep, flip, e, want)
				}
			}
			got := disk.Read()
			if !bytes.Equal(got, slices.Concat(p.durable, p.pending)) || disk.Pending() != len(p.pending) {
				t.Fatal("Read", got, disk.Pending(), p)
			}
			clear(got)
		}
	}
}

// TestDiskCrash has the limits of Crash, and what it does to a bit.
func TestDiskCrash(t *testing.T) {
	for _, x := range []struct {
		keep, flip int
		want       api.Errno
		read       []byte
	}{
		{0, -1, api.OK, []byte{1, 2}}, {3, -1, api.OK, []byte{1, 2, 3, 4, 5}}, {2, 0, api.OK, []byte{1, 2, 2, 4}}, {2, 15, api.OK, []byte{1, 2, 3, 132}},
		{-1, -1, api.ErrArg, nil}, {4, -1, api.ErrArg, nil}, {0, 0, api.ErrArg, nil}, {2, 16, api.ErrArg, nil}, {2, -2, api.ErrArg, nil},
		{math.MaxInt, math.MaxInt, api.ErrArg, nil}, {math.MinInt, -1, api.ErrArg, nil}, {3, math.MinInt, api.ErrArg, nil},
	} {
		disk := benches.NewDisk()
		disk.Write([]byte{1, 2})
		disk.Sync()
		disk.Write([]byte{3, 4, 5})
		e := disk.Crash(x.keep, x.flip)
		read, pending := x.read, 0
		if x.want != api.OK {
			read, pending = []byte{1, 2, 3, 4, 5}, 3
		}
		if e != x.want || !bytes.Equal(disk.Read(), read) || disk.Pending() != pending {
			t.Error("Crash", x.keep, x.flip, e, disk.Read(), disk.Pending())
		}
	}
}

// TestFullDisk checks the limit of a disk.
func TestFullDisk(t *testing.T) {
	disk := benches.NewDisk()
	if e := disk.Write(make([]byte, 1<<22+1)); e != api.ErrLimit || disk.Pending() != 0 {
		t.Error("Write of too many bytes", e)
	}
	if e := disk.Write(make([]byte, 1<<22-1)); e != api.OK || disk.Pending() != 1<<22-1 {
		t.Error("Write", e)
	}
	disk.Sync()
	if e := disk.Write([]byte{1, 2}); e != api.ErrLimit || disk.Pending() != 0 {
		t.Error("Write of two more", e)
	}
	if e := disk.Write([]byte{1}); e != api.OK || len(disk.Read()) != 1<<22 {
		t.Error("Write of the last one", e)
	}
	if e := disk.Write([]byte{1}); e != api.ErrLimit {
		t.Error("Write to a full disk", e)
	}
	if e := disk.Write(nil); e != api.OK {
		t.Error("Write of nothing", e)
	}
}

// TestNoDisk checks a disk that is nil.
func TestNoDisk(t *testing.T) {
	var disk *benches.Disk
	disk.Sync()
	if disk.Write(nil) != api.ErrArg || disk.Write([]byte{1}) != api.ErrArg || disk.Crash(0, -1) != api.ErrArg || disk.Read() != nil || disk.Pending() != 0 {
		t.Error("a nil disk does something")
	}
}

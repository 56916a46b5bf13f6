package benches_test

import (
	"bytes"
	"math/rand"
	"slices"
	"testing"

	"leadlight/api"
	"leadlight/benches"
)

// wantCheck is the rule of a check.
func wantCheck(b []byte) int {
	c := 1
	for i := range b {
		c = (c + (i+1)*int(b[i])) % 65521
	}
	return c
}

// wantFrame is the rule of Frame.
func wantFrame(b []byte) []byte {
	length := []byte{byte(len(b)), byte(len(b) >> 8)}
	head, body := wantCheck(length), wantCheck(b)
	return slices.Concat(length, []byte{byte(head), byte(head >> 8)}, b, []byte{byte(body), byte(body >> 8)})
}

// bodies throws contents of records, of lengths up to the limit.
func bodies(d *rand.Rand) [][]byte {
	var out [][]byte
	for _, n := range []int{0, 1, 2, 7, 255, 256, 257, 300, 8191, 8192, d.Intn(50), d.Intn(8192)} {
		b := make([]byte, n)
		d.Read(b)
		out = append(out, b, bytes.Repeat([]byte{255}, n))
	}
	return out
}

// TestFrame checks Frame against its rule, and the chapter's examples.
func TestFrame(t *testing.T) {
	for _, b := range bodies(rand.New(rand.NewSource(1))) {
		if f, e := benches.Frame(b); e != api.OK || !bytes.Equal(f, wantFrame(b)) {
			t.Error("Frame", b, f, e)
		}
	}
	for _, x := range [][2][]byte{{{7}, {1, 0, 2, 0, 7, 8, 0}}, {nil, {0, 0, 1, 0, 1, 0}}} {
		if f, e := benches.Frame(x[0]); e != api.OK || !bytes.Equal(f, x[1]) {
			t.Error("Frame", x[0], f, e)
		}
	}
	if f, e := benches.Frame(make([]byte, 8193)); e != api.ErrLimit || f != nil {
		t.Error("Frame of too many bytes", len(f), e)
	}
}

// scanned checks what Scan returns of bytes.
func scanned(t *testing.T, b []byte, want [][]byte) {
	t.Helper()
	size := 0
	for _, x := range want {
		size += len(x) + 6
	}
	l, k := benches.Scan(b)
	if k != size || len(l) != len(want) {
		t.Error("Scan of", len(b), "bytes", len(l), k, "want", len(want), size)
		return
	}
	for i := range l {
		if !bytes.Equal(l[i], want[i]) {
			t.Error("Scan", i, l[i], want[i])
		}
	}
}

// TestScan checks that Scan finds the records, and stops at the first one that is torn or wrong.
func TestScan(t *testing.T) {
	d := rand.New(rand.NewSource(2))
	for range 20 {
		l := bodies(d)
		d.Shuffle(len(l), func(i, j int) { l[i], l[j] = l[j], l[i] })
		l = l[:d.Intn(6)]
		var all []byte
		ends := []int{0}
		for _, b := range l {
			all = append(all, wantFrame(b)...)
			ends = append(ends, len(all))
		}
		whole := func(n int) [][]byte {
			k := 0
			for k < len(l) && ends[k+1] <= n {
				k++
			}
			return l[:k]
		}
		scanned(t, all, l)
		scanned(t, append(slices.Clone(all), 9, 9, 9, 9, 9, 9, 9), l)
		for range 100 {
			if len(all) == 0 {
				break
			}
			at := d.Intn(len(all))
			scanned(t, all[:at], whole(at))
			wrong := slices.Clone(all)
			wrong[at] ^= 1 << d.Intn(8)
			scanned(t, wrong, whole(at))
		}
	}
}

// TestWrongRecords has records that are wrong in one way.
func TestWrongRecords(t *testing.T) {
	long := make([]byte, 8193)
	for _, b := range [][]byte{
		{0}, {0, 0, 1}, {0, 0, 1, 0, 1}, {1, 0, 2, 0, 7, 8}, // torn
		{0, 0, 0, 0, 1, 0}, {0, 0, 1, 1, 1, 0}, {1, 0, 1, 0, 7, 8, 0}, // the check of the length
		{0, 0, 1, 0, 0, 0}, {0, 0, 1, 0, 1, 1}, {1, 0, 2, 0, 7, 7, 0}, {1, 0, 2, 0, 6, 8, 0}, // the check of the bytes
		wantFrame(long), {255, 255, 254, 2, 1, 0}, // too long
		make([]byte, 100),
	} {
		scanned(t, b, nil)
		scanned(t, slices.Concat(wantFrame([]byte{7}), b), [][]byte{{7}})
		scanned(t, slices.Concat(b, wantFrame([]byte{7})), nil)
	}
	scanned(t, nil, nil)
	scanned(t, wantFrame(long[1:]), [][]byte{long[1:]})
}

package dossier_test

import (
	"math"
	"math/big"
	"math/rand"
	"slices"
	"testing"

	"leadlight/api"
	"leadlight/dossier"
)

// wantHash is the rule of Hash in numbers without bounds.
func wantHash(b []byte) int {
	h := big.NewInt(7)
	for _, x := range b {
		h.Mul(h, big.NewInt(31))
		h.Add(h, big.NewInt(int64(x)+1))
		h.Mod(h, big.NewInt(2147483647))
	}
	return int(h.Int64())
}

// TestHash checks hashes, and those of the examples.
func TestHash(t *testing.T) {
	if dossier.Hash(nil) != 7 || dossier.Hash([]byte{0}) != 218 {
		t.Error("examples", dossier.Hash(nil), dossier.Hash([]byte{0}))
	}
	d := rand.New(rand.NewSource(14))
	for n := range 300 {
		b := make([]byte, n)
		d.Read(b)
		if n%3 == 0 {
			b = slices.Repeat([]byte{255}, n)
		}
		kept := slices.Clone(b)
		if got := dossier.Hash(b); got != wantHash(b) || !slices.Equal(b, kept) {
			t.Error("Hash", b, got, wantHash(b))
		}
	}
}

// wantRows are the rows of the hash tree of parts, from the lowest one up.
func wantRows(parts [][]byte) [][]int {
	var row []int
	for _, p := range parts {
		row = append(row, wantHash(append([]byte{0}, p...)))
	}
	out := [][]int{row}
	for len(row) > 1 {
		var next []int
		for pair := range slices.Chunk(row, 2) {
			if len(pair) == 1 {
				next = append(next, pair[0])
				continue
			}
			b := []byte{1}
			for _, h := range pair {
				for range 4 {
					b = append(b, byte(h%256))
					h /= 256
				}
			}
			next = append(next, wantHash(b))
		}
		row = next
		out = append(out, row)
	}
	return out
}

// wantPath is the rule of Path for a part that there is.
func wantPath(rows [][]int, i int) []int {
	var out []int
	for _, row := range rows {
		beside := i + 1
		if i%2 == 1 {
			beside = i - 1
		}
		if beside < len(row) {
			out = append(out, row[beside])
		}
		i /= 2
	}
	return out
}

// someParts returns n thrown parts.
func someParts(d *rand.Rand, n int) [][]byte {
	var out [][]byte
	for range n {
		b := make([]byte, d.Intn(9))
		d.Read(b)
		out = append(out, b)
	}
	return out
}

// TestRoots checks roots and paths of many trees, and that each part is shown to belong to its root (P10.4).
func TestRoots(t *testing.T) {
	d := rand.New(rand.NewSource(15))
	if dossier.Root(nil) != 0 || dossier.Root([][]byte{}) != 0 {
		t.Error("no parts")
	}
	for n := 1; n < 70; n++ {
		parts := someParts(d, n)
		kept := plain(parts)
		rows := wantRows(parts)
		root := dossier.Root(parts)
		if root != rows[len(rows)-1][0] {
			t.Fatal("Root", n, root, rows)
		}
		for i := range n {
			path, e := dossier.Path(parts, i)
			if e != api.OK || !slices.Equal(path, wantPath(rows, i)) {
				t.Fatal("Path", n, i, path, e)
			}
			if !dossier.Verify(root, n, i, parts[i], path) {
				t.Fatal("Verify", n, i)
			}
			checkForgeries(t, d, root, n, i, parts, path)
		}
		for _, i := range append(extremes(), n, n+1) {
			if path, e := dossier.Path(parts, i); e != api.ErrArg || len(path) > 0 {
				t.Error("Path", n, i, path, e)
			}
			if dossier.Verify(root, n, i, parts[0], nil) {
				t.Error("Verify of no index", n, i)
			}
		}
		if !sameValue(parts, kept) {
			t.Error("parts change")
		}
	}
	if _, e := dossier.Path(nil, 0); e != api.ErrArg {
		t.Error("a path of no parts", e)
	}
}

// checkForgeries checks that what is not just so is refused.
func checkForgeries(t *testing.T, d *rand.Rand, root, n, i int, parts [][]byte, path []int) {
	t.Helper()
	refuse := func(what string, root, n, i int, part []byte, path []int) {
		if dossier.Verify(root, n, i, part, path) {
			t.Fatal("Verify of", what, root, n, i, part, path)
		}
	}
	refuse("another root", root+1, n, i, parts[i], path)
	refuse("another part", root, n, i, append([]byte{9}, parts[i]...), path)
	refuse("a longer path", root, n, i, parts[i], append(slices.Clone(path), 7))
	if len(path) == 0 {
		return
	}
	refuse("a shorter path", root, n, i, parts[i], path[:len(path)-1])
	refuse("no path", root, n, i, parts[i], nil)
	k := d.Intn(len(path))
	for _, h := range []int{path[k] + 1, path[k] + 1<<32, path[k] - 1<<32, path[k] + 2147483647, -1, 2147483647, math.MaxInt, math.MinInt} {
		other := slices.Clone(path)
		other[k] = h
		refuse("another path", root, n, i, parts[i], other)
	}
	if n > 1 && !slices.Equal(parts[i], parts[i^1&(n-1)]) && i^1 < n {
		refuse("another index", root, n, i^1, parts[i], path)
	}
}

// TestVerifySizes checks numbers of parts that a tree can have, and cannot.
func TestVerifySizes(t *testing.T) {
	part := []byte{1, 2}
	h := wantHash([]byte{0, 1, 2})
	for _, n := range append(extremes(), 0) {
		if dossier.Verify(h, n, 0, part, nil) || dossier.Verify(0, n, 0, part, nil) {
			t.Error("Verify", n)
		}
	}
	if !dossier.Verify(h, 1, 0, part, nil) || dossier.Verify(h, 1, 1, part, nil) || dossier.Verify(h, 1, -1, part, nil) {
		t.Error("one part")
	}
	for _, n := range []int{999999, 1000000, 1000001, 1000002} {
		// The last part has a neighbour in each row of an even length.
		var path []int
		root := h
		for row := n; row > 1; row = (row + 1) / 2 {
			if row%2 == 0 {
				path = append(path, 5)
				root = joined(5, root)
			}
		}
		if got := dossier.Verify(root, n, n-1, part, path); got != (n <= 1000000) {
			t.Error("Verify of the last one of very many parts", n, got)
		}
	}
}

// TestVerifyNumbers checks which numbers a path can have, even if the root fits to them.
func TestVerifyNumbers(t *testing.T) {
	part := []byte{1, 2}
	h := wantHash([]byte{0, 1, 2})
	for v, want := range map[int]bool{0: true, 1: true, 2147483645: true, 2147483646: true, 2147483647: false, 2147483648: false, 1 << 32: false, -1: false, -1 << 32: false} {
		if got := dossier.Verify(joined(h, v), 2, 0, part, []int{v}); got != want {
			t.Error("on the right", v, got)
		}
		if got := dossier.Verify(joined(v, h), 2, 1, part, []int{v}); got != want {
			t.Error("on the left", v, got)
		}
	}
}

// joined is the hash of two neighbours.
func joined(a, b int) int {
	l := []byte{1}
	for _, h := range []int{a, b} {
		l = append(l, byte(h), byte(h>>8), byte(h>>16), byte(h>>24))
	}
	return wantHash(l)
}

// TestRootOfMany checks a tree of very many parts.
func TestRootOfMany(t *testing.T) {
	parts := make([][]byte, 200001)
	for i := range parts {
		parts[i] = []byte{byte(i), byte(i / 256), byte(i / 65536)}
	}
	root := dossier.Root(parts)
	for _, i := range []int{0, 1, 77777, 131071, 199999, 200000} {
		path, e := dossier.Path(parts, i)
		if e != api.OK || !dossier.Verify(root, len(parts), i, parts[i], path) || dossier.Verify(root, len(parts), i, []byte{9}, path) {
			t.Error("many parts", i, len(path), e)
		}
	}
}

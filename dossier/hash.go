package dossier

import (
	"sync"

	"leadlight/api"
)

const (
	hashFirst = 7
	hashBound = 2147483647 // hashes are less
	maxLeaves = 1000000    // parts of a hash tree that Verify reads
	hashers   = 8          // goroutines that hash parts
)

// Hash returns the hash of bytes.
func Hash(b []byte) int { return hashOn(hashFirst, b) }

// hashOn returns the hash of what is behind bytes with the hash h, together with these.
func hashOn(h int, b []byte) int {
	for _, x := range b {
		h = (31*h + int(x) + 1) % hashBound
	}
	return h
}

// leaf returns the hash of a part in the lowest row.
func leaf(part []byte) int { return hashOn(Hash([]byte{0}), part) }

// join returns the hash of two neighbours.
func join(a, b int) int {
	bytes := []byte{1}
	for _, h := range []int{a, b} {
		bytes = append(bytes, byte(h), byte(h>>8), byte(h>>16), byte(h>>24))
	}
	return Hash(bytes)
}

// leaves returns the lowest row of the hash tree of parts. As there may be any number of parts, a few goroutines share them.
func leaves(parts [][]byte) []int {
	row := make([]int, len(parts))
	var all sync.WaitGroup
	for first := range min(hashers, len(parts)) {
		all.Add(1)
		go func() {
			defer all.Done()
			for i := first; i < len(parts); i += hashers {
				row[i] = leaf(parts[i])
			}
		}()
	}
	all.Wait()
	return row
}

// above returns the row above another one.
func above(row []int) []int {
	var out []int
	for i := 0; i < len(row); i += 2 {
		if i+1 < len(row) {
			out = append(out, join(row[i], row[i+1]))
		} else {
			out = append(out, row[i])
		}
	}
	return out
}

// Root returns the root of the hash tree of parts.
func Root(parts [][]byte) int {
	if len(parts) == 0 {
		return 0
	}
	row := leaves(parts)
	for len(row) > 1 {
		row = above(row)
	}
	return row[0]
}

// Path returns the hashes beside the way from a part to the root.
func Path(parts [][]byte, i int) ([]int, api.Errno) {
	if !within(i, 0, len(parts)-1) {
		return nil, api.ErrArg
	}
	var out []int
	for row := leaves(parts); len(row) > 1; row = above(row) {
		if beside := i ^ 1; beside < len(row) {
			out = append(out, row[beside])
		}
		i /= 2
	}
	return out, api.OK
}

// Verify reports whether a part belongs to a root.
func Verify(root, n, i int, part []byte, path []int) bool {
	if n > maxLeaves || i < 0 || i >= n {
		return false
	}
	h := leaf(part)
	for ; n > 1; n = (n + 1) / 2 {
		if beside := i ^ 1; beside < n {
			if len(path) == 0 || !within(path[0], 0, hashBound-1) {
				return false
			}
			if beside < i {
				h = join(path[0], h)
			} else {
				h = join(h, path[0])
			}
			path = path[1:]
		}
		i /= 2
	}
	return len(path) == 0 && h == root
}

package plane

import (
	"iter"
	"slices"

	"leadlight/api"
)

// Exit returns a direction that leaves all normals, or a smallest set of normals that no direction leaves.
func Exit(normals []api.Point) (d api.Point, block []int, err api.Errno) {
	if len(normals) > api.MaxCorners {
		return api.Point{}, nil, api.ErrArg
	}
	for _, n := range normals {
		if !validNormal(n) {
			return api.Point{}, nil, api.ErrArg
		}
	}
	if d, ok := freeDirection(normals); ok {
		return d, nil, api.OK
	}
	return api.Point{}, leastBlock(normals), api.ErrBlocked
}

func validNormal(n api.Point) bool {
	return within(n.X, api.MaxCoord) && within(n.Y, api.MaxCoord) && n != api.Point{}
}

// freeDirection returns the first direction along the border of a normal that is free of all. If any direction is free, one of these is: the free ones form a cone, and it ends at such a border.
func freeDirection(normals []api.Point) (api.Point, bool) {
	if len(normals) == 0 {
		return api.Point{X: 1}, true
	}
	for _, n := range normals {
		by := gcd(n.X, n.Y)
		left := api.Point{X: -n.Y / by, Y: n.X / by}
		right := api.Point{X: -left.X, Y: -left.Y}
		if isFree(left, normals) {
			return left, true
		}
		if isFree(right, normals) {
			return right, true
		}
	}
	return api.Point{}, false
}

func isFree(d api.Point, normals []api.Point) bool {
	for _, n := range normals {
		if d.X*n.X+d.Y*n.Y > 0 {
			return false
		}
	}
	return true
}

// leastBlock returns the first of the shortest lists of indices of blocking normals. It ends, as all normals together block.
func leastBlock(normals []api.Point) []int {
	for size := 1; ; size++ {
		for block := range choices(len(normals), size) {
			var some []api.Point
			for _, k := range block {
				some = append(some, normals[k])
			}
			if _, ok := freeDirection(some); !ok {
				return slices.Clone(block)
			}
		}
	}
}

// choices produces the increasing lists of size of the numbers 0 to n - 1, the least one first. They share their memory.
func choices(n, size int) iter.Seq[[]int] {
	return func(yield func([]int) bool) {
		list := make([]int, size)
		for k := range list {
			list[k] = k
		}
		for yield(list) {
			k := size - 1
			for k >= 0 && list[k] == n-size+k {
				k--
			}
			if k < 0 {
				return
			}
			list[k]++
			for i := k + 1; i < size; i++ {
				list[i] = list[i-1] + 1
			}
		}
	}
}

package ring_test

import (
	"math"
	"slices"
	"testing"

	"zoneappend/api"
	"zoneappend/ring"
)

// made is a queue that New has made.
func made(t *testing.T, depth int) api.Ring {
	t.Helper()
	r, e := ring.New(depth)
	if e != api.OK || !same(r, of(depth)) {
		t.Fatalf("New(%d): %v, %d", depth, r, e)
	}
	return r
}

func TestNew(t *testing.T) {
	for depth := 1; depth <= 8; depth++ {
		r := made(t, depth)
		holdValid(t, r, true)
		holdAdded(t, r, request(0))
		holdTaken(t, r, of(depth), api.Request{}, false)
	}
}

// TestNewOfNoDepth has numbers that are no depth.
func TestNewOfNoDepth(t *testing.T) {
	for _, n := range slices.Concat([]int{-1, 0, api.MaxDepth + 1, math.MinInt, math.MaxInt}, strange()) {
		if r, e := ring.New(n); e != api.ErrRange || r.Depth != 0 || len(r.Items) != 0 {
			t.Errorf("New(%d): %v, %d", n, r, e)
		}
	}
}

// TestValid has queues of all depths with all numbers of items that they may have.
func TestValid(t *testing.T) {
	for depth := 1; depth <= api.MaxDepth; depth++ {
		for n := range depth + 1 {
			for _, serials := range samples(n) {
				holdValid(t, of(depth, serials...), true)
			}
		}
		for _, serial := range slices.Concat([]int{0, 1, 2, 7, 8, 9}, above) {
			holdValid(t, of(depth, serial), true)
		}
		holdValid(t, api.Ring{Depth: depth, Items: []api.Request{}}, true)
		holdValid(t, api.Ring{Depth: depth, Items: make([]api.Request, 1)}, true)
	}
	holdValid(t, of(2, 0, greatest), true)
}

// TestValidAsksOnlyNumbers has items that differ in nothing but their numbers, and items with commands that are not possible.
func TestValidAsksOnlyNumbers(t *testing.T) {
	for _, x := range []api.Command{{}, {Kind: api.Write, Block: -1, Data: "x"}, {Kind: math.MinInt, Block: math.MaxInt}} {
		r := api.Ring{Depth: 3, Items: []api.Request{{Serial: 2, Command: x}, {Serial: 3, Command: x}, {Serial: 5, Command: x}}}
		holdValid(t, r, true)
		r.Items[2].Serial = 3
		refuse(t, r)
	}
}

// TestTooManyItems has queues with more items than their depth.
func TestTooManyItems(t *testing.T) {
	for depth := 1; depth <= api.MaxDepth; depth++ {
		for _, n := range []int{depth + 1, depth + 2, depth + 8, 20} {
			for _, serials := range samples(n) {
				refuse(t, of(depth, serials...))
			}
		}
		for _, n := range []int{255, 256, 256 + depth, 1000} {
			refuse(t, of(depth, row(0, 1, n)...))
		}
	}
}

// TestStrangeDepths has depths that no queue has, with numbers of items from none to one more, where there can be so many.
func TestStrangeDepths(t *testing.T) {
	for _, depth := range strange() {
		for n := range min(max(depth, 0), 300) + 2 {
			refuse(t, of(depth, row(0, 1, n)...))
			refuse(t, of(depth, row(3, 5, n)...))
		}
	}
	for _, depth := range []int{0, -1, api.MaxDepth + 1} {
		for n := range 10 {
			for _, serials := range samples(n) {
				refuse(t, of(depth, serials...))
			}
		}
	}
	refuse(t, api.Ring{})
}

// TestNegativeSerials has a negative number at each place, and nothing but negative ones.
func TestNegativeSerials(t *testing.T) {
	for _, depth := range []int{1, 2, 3, 5, api.MaxDepth} {
		for n := 1; n <= depth; n++ {
			for _, serials := range samples(n) {
				for i := range n {
					for _, serial := range negatives() {
						refuse(t, of(depth, with(serials, i, serial)...))
					}
				}
			}
			refuse(t, of(depth, row(-n, 1, n)...))
			refuse(t, of(depth, row(-n-1, 1, n)...))
			refuse(t, of(depth, row(math.MinInt, 1, n)...))
			refuse(t, of(depth, row(-1, 1, n)...)) // only the first one is negative
			if n > 1 {
				refuse(t, of(depth, row(1-n, 1, n)...)) // all but the last one are
			}
		}
	}
}

// TestEqualSerials has two equal numbers side by side at each place, far from each other, and nothing but equal ones.
func TestEqualSerials(t *testing.T) {
	for _, depth := range []int{2, 3, 5, api.MaxDepth} {
		for n := 2; n <= depth; n++ {
			for _, serials := range samples(n) {
				for i := range n - 1 {
					refuse(t, of(depth, with(serials, i, serials[i+1])...))
					refuse(t, of(depth, with(serials, i+1, serials[i])...))
				}
				refuse(t, of(depth, with(serials, n-1, serials[0])...))
				refuse(t, of(depth, with(serials, 0, serials[n-1])...))
			}
			for _, serial := range []int{0, 1, 1 << 32, greatest} {
				refuse(t, of(depth, row(serial, 0, n)...))
			}
		}
	}
}

// TestFallingSerials has numbers that fall at each place: one that is too small, one that is too great, two that have changed places,
// and nothing but falling ones.
func TestFallingSerials(t *testing.T) {
	for _, depth := range []int{2, 3, 5, api.MaxDepth} {
		for n := 2; n <= depth; n++ {
			for _, serials := range [][]int{row(1, 1, n), row(3, 5, n), row(1<<32-2, 1, n), row(7, 1<<58, n), row(greatest-n, 1, n)} {
				for i := range n - 1 {
					refuse(t, of(depth, with(serials, i+1, serials[i]-1)...))
					refuse(t, of(depth, with(serials, i+1, 0)...))
					refuse(t, of(depth, with(serials, i, serials[i+1]+1)...))
					refuse(t, of(depth, with(serials, i, greatest)...))
					refuse(t, of(depth, with(with(serials, i, serials[i+1]), i+1, serials[i])...))
				}
				fallen := slices.Clone(serials)
				slices.Reverse(fallen)
				refuse(t, of(depth, fallen...))
				refuse(t, of(depth, slices.Concat(serials[n/2:], serials[:n/2])...))
			}
		}
	}
}

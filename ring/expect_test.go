package ring_test

import (
	"slices"

	"zoneappend/api"
)

// What the chapter says, read once more: a list ascends strictly from 0 on if it is what its numbers are without the negative ones,
// sorted, each one once.

// expectValid tells whether a queue is valid.
func expectValid(r api.Ring) bool {
	var serials []int
	for _, x := range r.Items {
		serials = append(serials, x.Serial)
	}
	right := slices.DeleteFunc(slices.Clone(serials), func(n int) bool { return n < 0 })
	slices.Sort(right)
	right = slices.Compact(right)
	return r.Depth > 0 && r.Depth < 9 && !(len(serials) > r.Depth) && slices.Equal(serials, right)
}

// wrong tells which errors of a request apply, in their order.
func wrong(r api.Ring, x api.Request) [3]bool {
	n := len(r.Items)
	low := x.Serial < 0 || n > 0 && !(x.Serial > r.Items[max(n, 1)-1].Serial)
	return [3]bool{!expectValid(r), n == r.Depth, low}
}

// expectSubmit is what Submit returns.
func expectSubmit(r api.Ring, x api.Request) (api.Ring, api.Errno) {
	for i, applies := range wrong(r, x) {
		if applies {
			return r, []api.Errno{api.ErrState, api.ErrBusy, api.ErrOrder}[i]
		}
	}
	return api.Ring{Depth: r.Depth, Items: slices.Concat(r.Items, []api.Request{x})}, api.OK
}

// expectTake is what Take returns.
func expectTake(r api.Ring) (api.Ring, api.Request, bool) {
	for i, x := range r.Items {
		if i == 0 && expectValid(r) {
			return api.Ring{Depth: r.Depth, Items: slices.Concat(r.Items[1:])}, x, true
		}
	}
	return r, api.Request{}, false
}

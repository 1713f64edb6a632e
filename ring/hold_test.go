package ring_test

import (
	"math"
	"slices"
	"strconv"
	"testing"

	"zoneappend/api"
	"zoneappend/ring"
)

// greatest is the greatest number that a request may have.
const greatest = math.MaxInt

// above and below are numbers far from every limit: no depths, and the latter ones no numbers of requests. Some are one of these
// in their lowest bits.
var (
	above = []int{255, 256, 257, 1<<31 - 1, 1 << 31, 1<<32 - 1, 1 << 32, 1<<32 + 1, 1<<40 + 1, 1 << 62, math.MaxInt - 1, math.MaxInt}
	below = []int{-8, -9, -255, -256, -257, -1 << 31, -1 << 32, 1 - 1<<32, -1 << 40, -1 << 62, math.MinInt + 1, math.MinInt}
)

// negatives are numbers that no request has.
func negatives() []int { return slices.Concat([]int{-1, -2, -3}, below) }

// strange are numbers that are no depth.
func strange() []int { return slices.Concat([]int{0, 9, 10, 16, 17}, negatives(), above) }

// ends are the indices of the first, a middle and the last element of a list of n.
func ends(n int) []int {
	if n <= 0 {
		return nil
	}
	return slices.Compact([]int{0, n / 2, n - 1})
}

// request is a request with this number. Its command tells it from requests with other numbers, and is not always a right one.
func request(serial int) api.Request {
	kind := (serial%7+7)%7 - 1
	return api.Request{Serial: serial, Command: api.Command{Kind: kind, Block: serial, Data: "of " + strconv.Itoa(serial)}}
}

// requests are requests with these numbers.
func requests(serials ...int) []api.Request {
	var l []api.Request
	for _, serial := range serials {
		l = append(l, request(serial))
	}
	return l
}

// of is a queue of this depth with requests of these numbers.
func of(depth int, serials ...int) api.Ring {
	return api.Ring{Depth: depth, Items: requests(serials...)}
}

// row are n numbers: the first one and those behind it, each one more than the one before by a step.
func row(first, step, n int) []int {
	var l []int
	for i := range n {
		l = append(l, first+i*step)
	}
	return l
}

// samples are lists of n numbers that ascend from 0 on: the least ones, some with gaps, and the greatest ones.
func samples(n int) [][]int {
	return [][]int{row(0, 1, n), row(1, 1, n), row(3, 5, n), row(254, 1, n), row(1<<32-2, 1, n), row(7, 1<<58, n), row(greatest-n+1, 1, n)}
}

// with is a list in which one number is another one.
func with(l []int, i, n int) []int { return slices.Concat(l[:i], []int{n}, l[i+1:]) }

// copied is a queue of its own that is equal.
func copied(r api.Ring) api.Ring { return api.Ring{Depth: r.Depth, Items: slices.Clone(r.Items)} }

// same tells whether two queues are equal.
func same(a, b api.Ring) bool { return a.Depth == b.Depth && slices.Equal(a.Items, b.Items) }

// holdStay expects that a queue, and all that is before and behind its list in memory, is behind a call as it was: with room behind
// the last item, which is that of other queues, and without.
func holdStay(t *testing.T, r api.Ring, use func(r api.Ring)) {
	t.Helper()
	n := len(r.Items)
	whole := slices.Concat(requests(90), r.Items, requests(91, 3, 92))
	before := slices.Clone(whole)
	for _, items := range [][]api.Request{whole[1 : 1+n], whole[1 : 1+n : 2+n], whole[1 : 1+n : 1+n]} {
		given := api.Ring{Depth: r.Depth, Items: items}
		use(given)
		if !slices.Equal(whole, before) || !same(given, r) {
			t.Fatalf("%v\nbecame %v", before, whole)
		}
	}
	if r.Items == nil {
		use(r)
	}
}

// holdValid expects what Valid says of a queue.
func holdValid(t *testing.T, r api.Ring, want bool) {
	t.Helper()
	holdStay(t, r, func(r api.Ring) {
		t.Helper()
		if ring.Valid(r) != want {
			t.Fatalf("Valid of %v: %t, want %t", r, !want, want)
		}
	})
}

// holdSubmit expects what Submit returns.
func holdSubmit(t *testing.T, r api.Ring, x api.Request, want api.Ring, code api.Errno) {
	t.Helper()
	holdStay(t, r, func(r api.Ring) {
		t.Helper()
		if got, e := ring.Submit(r, x); !same(got, want) || e != code {
			t.Fatalf("Submit of %v to %v\n= %v, %d\nwant %v, %d", x, r, got, e, want, code)
		}
	})
}

// holdTaken expects what Take returns.
func holdTaken(t *testing.T, r, want api.Ring, x api.Request, done bool) {
	t.Helper()
	holdStay(t, r, func(r api.Ring) {
		t.Helper()
		if got, y, ok := ring.Take(r); !same(got, want) || y != x || ok != done {
			t.Fatalf("Take of %v\n= %v, %v, %t\nwant %v, %v, %t", r, got, y, ok, want, x, done)
		}
	})
}

// holdAdded expects that a request is added.
func holdAdded(t *testing.T, r api.Ring, x api.Request) {
	t.Helper()
	holdSubmit(t, r, x, api.Ring{Depth: r.Depth, Items: slices.Concat(r.Items, []api.Request{x})}, api.OK)
}

// holdRefused expects that requests with these numbers are refused.
func holdRefused(t *testing.T, r api.Ring, code api.Errno, serials ...int) {
	t.Helper()
	for _, serial := range serials {
		holdSubmit(t, r, request(serial), r, code)
	}
}

// refuse expects that a queue is not valid: no request can be added, whatever number it has, and none can be taken.
func refuse(t *testing.T, r api.Ring) {
	t.Helper()
	holdValid(t, r, false)
	serials := []int{math.MinInt, -2, -1, 0, 1, 4, 100, greatest}
	for _, i := range ends(len(r.Items)) {
		serial := r.Items[i].Serial
		serials = append(serials, serial)
		if serial < greatest {
			serials = append(serials, serial+1)
		}
	}
	holdRefused(t, r, api.ErrState, serials...)
	holdSubmit(t, r, api.Request{}, r, api.ErrState)
	holdTaken(t, r, r, api.Request{}, false)
}

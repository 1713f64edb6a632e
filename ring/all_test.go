package ring_test

import (
	"math"
	"slices"
	"testing"

	"zoneappend/api"
	"zoneappend/ring"
)

// lists are all lists of up to n numbers of another one.
func lists(n int, among []int) [][]int {
	all, longest := [][]int{nil}, [][]int{nil}
	for range n {
		var longer [][]int
		for _, l := range longest {
			for _, e := range among {
				longer = append(longer, append(slices.Clip(l), e))
			}
		}
		all, longest = append(all, longer...), longer
	}
	return all
}

// holdCalls holds all calls of a queue, with requests of some numbers, against the second reading of the chapter. It tells how many
// of the requests were added.
func holdCalls(t *testing.T, r api.Ring, serials []int) int {
	t.Helper()
	holdValid(t, r, expectValid(r))
	added := 0
	for _, serial := range serials {
		want, code := expectSubmit(r, request(serial))
		holdSubmit(t, r, request(serial), want, code)
		// A request is added exactly if both the queue and the queue with it are valid.
		if ring.Valid(r) && ring.Valid(of(r.Depth, append(numbers(r), serial)...)) != (code == api.OK) {
			t.Fatalf("Submit of %d to %v: %d", serial, r, code)
		}
		if code == api.OK {
			added++
		}
	}
	want, x, ok := expectTake(r)
	holdTaken(t, r, want, x, ok)
	return added
}

// numbers are the numbers of the items of a queue.
func numbers(r api.Ring) []int {
	var l []int
	for _, x := range r.Items {
		l = append(l, x.Serial)
	}
	return l
}

// TestAllSmall has all calls of all queues of small depths with up to four items of few numbers.
func TestAllSmall(t *testing.T) {
	among := []int{math.MinInt, -1, 0, 1, 2, greatest}
	valid, added := 0, 0
	for depth := -1; depth <= 5; depth++ {
		for _, serials := range lists(4, among) {
			r := of(depth, serials...)
			added += holdCalls(t, r, append([]int{3}, among...))
			if ring.Valid(r) {
				valid++
			}
		}
	}
	// Of the four numbers that there may be: as many sets of up to Depth of them.
	if valid != (1+4)+(1+4+6)+(1+4+6+4)+16+16 {
		t.Errorf("%d are valid", valid)
	}
	// To none 5 can be added; to one that ends with 0, 1, 2: 4, 3, 2, of which there are 1, 1, 1 of one item, 0, 1, 2 of two, and
	// 0, 0, 1 of three.
	if one, two, three := 4+3+2, 3+2*2, 2; added != 5+(5+one)+(5+one+two)+2*(5+one+two+three) {
		t.Errorf("%d were added", added)
	}
}

// TestAllSets has all calls of the queues of all depths with each set of the first ten numbers.
func TestAllSets(t *testing.T) {
	valid := map[int]int{}
	for set := range 1 << 10 {
		var serials []int
		for n := range 10 {
			if set>>n&1 == 1 {
				serials = append(serials, n)
			}
		}
		for depth := 0; depth <= api.MaxDepth+1; depth++ {
			r := of(depth, serials...)
			holdCalls(t, r, []int{-1, 0, 1, 4, 8, 9, 10, greatest})
			if ring.Valid(r) {
				valid[depth]++
			}
		}
	}
	for depth, want := range []int{0, 11, 56, 176, 386, 638, 848, 968, 1013, 0} { // sums of binomial numbers
		if valid[depth] != want {
			t.Errorf("%d of depth %d are valid, want %d", valid[depth], depth, want)
		}
	}
}

// TestAllSteps has all calls of the queues whose numbers stay, ascend by one or fall by one from each to the next.
func TestAllSteps(t *testing.T) {
	for depth := 6; depth <= api.MaxDepth+1; depth++ {
		for _, steps := range lists(8, []int{-1, 0, 1}) {
			serials := []int{3}
			for _, step := range steps {
				serials = append(serials, serials[len(serials)-1]+step)
			}
			holdCalls(t, of(depth, serials...), []int{serials[len(serials)-1] + 1})
		}
	}
}

// TestResultsDependOnArgumentsAlone has the same calls again behind many others.
func TestResultsDependOnArgumentsAlone(t *testing.T) {
	r := of(4, 2, 5, 6)
	for _, other := range []api.Ring{of(4, 2, 5, 6, 9), of(4), of(1, 8), of(0), of(9, 1), of(8, row(0, 1, 8)...), of(4, 6, 5, 2)} {
		for _, serial := range slices.Concat([]int{0, 6, 7, 100}, negatives(), above) {
			ring.Valid(other)
			ring.Submit(other, request(serial))
			ring.Take(other)
			ring.New(serial)
			holdValid(t, r, true)
			holdAdded(t, r, request(7))
			holdRefused(t, r, api.ErrOrder, 6)
			holdTaken(t, r, of(4, 5, 6), request(2), true)
		}
	}
}

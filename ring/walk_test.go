package ring_test

import (
	"math/rand/v2"
	"slices"
	"testing"

	"zoneappend/api"
	"zoneappend/ring"
)

// kept is a queue that was returned, and what it was then.
type kept struct{ now, then api.Ring }

// holdKept expects that queues that were returned are what they were.
func holdKept(t *testing.T, all []kept) {
	t.Helper()
	for i, k := range all {
		if !same(k.now, k.then) {
			t.Fatalf("the queue %d of %d: %v\nbecame %v", i, len(all), k.then, k.now)
		}
	}
}

// walker is a queue, a plain list of the requests that are in it, and all that were submitted and taken.
type walker struct {
	r                 api.Ring
	list              []api.Request
	submitted, taken  []api.Request
	returned          []kept
	busy, order, none int
}

// begin is a walker with a new queue.
func begin(t *testing.T, depth int) *walker {
	t.Helper()
	return &walker{r: made(t, depth)}
}

// became has the queue that a call returned: it has the depth that it had, and the items of the plain list.
func (w *walker) became(t *testing.T, r api.Ring) {
	t.Helper()
	if !ring.Valid(r) || r.Depth != w.r.Depth || !slices.Equal(r.Items, w.list) {
		t.Fatalf("%v became %v, want %v", w.r, r, w.list)
	}
	w.r = r
	w.returned = append(w.returned, kept{r, copied(r)})
}

// submit submits a request, which is added exactly if there is room and its number is greater than the last one's.
func (w *walker) submit(t *testing.T, x api.Request) {
	t.Helper()
	want := api.OK
	switch n := len(w.list); {
	case n == w.r.Depth:
		want = api.ErrBusy
		w.busy++
	case x.Serial < 0 || n > 0 && w.list[n-1].Serial >= x.Serial:
		want = api.ErrOrder
		w.order++
	default:
		w.list = slices.Concat(w.list, []api.Request{x})
		w.submitted = append(w.submitted, x)
	}
	r, e := ring.Submit(w.r, x)
	if e != want {
		t.Fatalf("Submit of %v to %v: %d, want %d", x, w.r, e, want)
	}
	w.became(t, r)
}

// take takes a request, which is the first one of the list, if there is any.
func (w *walker) take(t *testing.T) bool {
	t.Helper()
	var want api.Request
	there := len(w.list) > 0
	if there {
		want = w.list[0]
		w.list = slices.Clone(w.list[1:])
		w.taken = append(w.taken, want)
	} else {
		w.none++
	}
	r, x, ok := ring.Take(w.r)
	if x != want || ok != there {
		t.Fatalf("Take of %v: %v, %t, want %v, %t", w.r, x, ok, want, there)
	}
	w.became(t, r)
	return ok
}

// end takes all that is left: requests were taken in the order in which they were submitted, each one once.
func (w *walker) end(t *testing.T) {
	t.Helper()
	for w.take(t) {
	}
	if !slices.Equal(w.taken, w.submitted) {
		t.Fatalf("%v were submitted, %v were taken", w.submitted, w.taken)
	}
	holdKept(t, w.returned)
}

// TestWalks submits and takes in any order, with queues that are mostly full and ones that are mostly empty. Most numbers ascend from
// one request to the next, as those of commands do, also where other requests were taken in between.
func TestWalks(t *testing.T) {
	for seed := range uint64(4) {
		for depth := 1; depth <= api.MaxDepth; depth++ {
			r := rand.New(rand.NewPCG(seed, 16))
			w := begin(t, depth)
			next := 0
			for turn := range 3000 {
				switch n := r.IntN(10); {
				case n < 3+turn/500%5: // at first more is taken than submitted
					serial := next + r.IntN(3)
					if r.IntN(6) == 0 {
						serial = next - 1 - r.IntN(4)
					}
					w.submit(t, api.Request{Serial: serial, Command: api.Command{Kind: 1 + r.IntN(4), Block: turn}})
					next = max(next, serial+1)
				default:
					w.take(t)
				}
			}
			w.end(t)
			if len(w.taken) < 500 || w.busy == 0 || w.order == 0 && depth > 1 || w.none == 0 {
				t.Errorf("depth %d: %d taken, %d busy, %d out of order, %d not taken", depth, len(w.taken), w.busy, w.order, w.none)
			}
		}
	}
}

// TestSmallNumbersAgain submits the last request's number and those behind it, and small ones again whenever the queue is empty: no
// request is in it then that forbids them.
func TestSmallNumbersAgain(t *testing.T) {
	for depth := 1; depth <= api.MaxDepth; depth++ {
		r := rand.New(rand.NewPCG(uint64(depth), 1016))
		w := begin(t, depth)
		for range 5000 {
			if r.IntN(5) > 2 {
				w.take(t)
				continue
			}
			last := -1
			if n := len(w.list); n > 0 {
				last = w.list[n-1].Serial
			}
			w.submit(t, request(last+r.IntN(3)))
		}
		w.end(t)
		if w.busy == 0 || w.order == 0 || w.none == 0 {
			t.Errorf("depth %d: %d busy, %d out of order, %d not taken", depth, w.busy, w.order, w.none)
		}
	}
}

// TestAllRows has all rows of seven calls with queues of few requests: takes, and submits of numbers that stay, and grow.
func TestAllRows(t *testing.T) {
	for depth := 1; depth <= 3; depth++ {
		for row := range 3 * 3 * 3 * 3 * 3 * 3 * 3 {
			w := begin(t, depth)
			serial := 0
			for range 7 {
				switch row % 3 {
				case 0:
					w.take(t)
				case 1:
					w.submit(t, request(serial))
				case 2:
					serial++
					w.submit(t, request(serial))
				}
				row /= 3
			}
			w.end(t)
		}
	}
}

// TestManyFromOne makes many queues of one, and of each of these: none disturbs another one.
func TestManyFromOne(t *testing.T) {
	for depth := 1; depth <= api.MaxDepth; depth++ {
		roomy := append(make([]api.Request, 0, 40), requests(0, 2)[:min(depth-1, 2)]...)
		full := append(make([]api.Request, 0, 40), requests(row(0, 1, depth)...)...)
		for _, items := range [][]api.Request{nil, roomy, full, slices.Clip(roomy)} {
			r := api.Ring{Depth: depth, Items: items}
			level := []kept{{r, copied(r)}}
			all := slices.Clone(level)
			for turn := range 4 {
				var next []kept
				for _, from := range level {
					for i := range 3 {
						if r, e := ring.Submit(from.now, request(10*turn+10+i)); e == api.OK {
							next = append(next, kept{r, copied(r)})
						}
					}
					if r, _, ok := ring.Take(from.now); ok {
						next = append(next, kept{r, copied(r)})
					}
				}
				all = append(all, next...)
				level = next
			}
			holdKept(t, all)
		}
	}
}

// TestTwoFromOne makes two queues of one by Submit, and goes on with each: both have what was submitted to them.
func TestTwoFromOne(t *testing.T) {
	for depth := 2; depth <= api.MaxDepth; depth++ {
		one := made(t, depth)
		for n := range depth - 1 { // the lists that Submit returns may have room behind their last items
			one, _ = ring.Submit(one, request(n))
			a, _ := ring.Submit(one, request(100))
			b, _ := ring.Submit(one, request(200))
			serials := row(0, 1, n+1)
			if !same(a, of(depth, append(serials, 100)...)) || !same(b, of(depth, append(serials, 200)...)) || !same(one, of(depth, serials...)) {
				t.Fatalf("%v, %v of %v", a, b, one)
			}
			if n+2 < depth {
				longer, _ := ring.Submit(a, request(101))
				other, _ := ring.Submit(b, request(201))
				if !same(longer, of(depth, append(serials, 100, 101)...)) || !same(other, of(depth, append(serials, 200, 201)...)) {
					t.Fatalf("%v, %v of %v and %v", longer, other, a, b)
				}
			}
		}
	}
}

// TestResultsAreNew writes into what was returned, as nobody should: the queue that was given does not change.
func TestResultsAreNew(t *testing.T) {
	for depth := 1; depth <= api.MaxDepth; depth++ {
		for n := range depth + 1 {
			r := of(depth, row(0, 1, n)...)
			for _, room := range []int{0, 1, 5} {
				given := api.Ring{Depth: depth, Items: append(make([]api.Request, 0, n+room), r.Items...)}
				more, e := ring.Submit(given, request(n))
				less, _, ok := ring.Take(given)
				if (e == api.OK) != (n < depth) || ok != (n > 0) {
					t.Fatalf("%v: %d, %t", given, e, ok)
				}
				for _, changed := range []api.Ring{more, less} {
					if len(changed.Items) != n { // with an error it is the one that was given
						for i := range changed.Items {
							changed.Items[i] = request(77)
						}
					}
				}
				if !same(given, r) {
					t.Fatalf("%v\nbecame %v", r, given)
				}
			}
		}
	}
}

package history_test

import (
	"slices"
	"testing"

	"zoneappend/api"
	"zoneappend/history"
)

// holdOrder expects that Before is a strict order on the operations of a right history: no operation is before itself, and one that is
// before another one is before all that this one is before. (So no two are before each other.)
func holdOrder(t *testing.T, l []api.Event) {
	t.Helper()
	operations := history.Operations(l)
	n := len(operations)
	before := make([]bool, n*n)
	for a := range n {
		for b := range n {
			before[a*n+b] = history.Before(l, operations[a].Serial, operations[b].Serial)
		}
	}
	for a := range n {
		if before[a*n+a] {
			t.Fatalf("%+v is before itself in %+v", operations[a], l)
		}
		for b := range n {
			if !before[a*n+b] {
				continue
			}
			if before[b*n+a] {
				t.Fatalf("%+v and %+v are before each other in %+v", operations[a], operations[b], l)
			}
			if a >= b || !operations[a].Return {
				t.Fatalf("%+v is before %+v in %+v", operations[a], operations[b], l)
			}
			for c := range n {
				if before[b*n+c] && !before[a*n+c] {
					t.Fatalf("%+v is before %+v, which is before %+v, in %+v", operations[a], operations[b], operations[c], l)
				}
			}
		}
	}
}

// holdBeginnings expects that each part of a right history from its beginning is right.
func holdBeginnings(t *testing.T, l []api.Event) {
	t.Helper()
	for n := range len(l) + 1 {
		if e := history.Check(1, l[:n]); e != api.OK {
			t.Fatalf("%d, the first %d of %+v", e, n, l)
		}
	}
}

// TestRightHistories has the consequences for some right histories.
func TestRightHistories(t *testing.T) {
	for _, l := range slices.Concat(right(), shapes(api.MaxEvents), shapes(57)) {
		if len(l) < 100 {
			holdOrder(t, l)
		}
		holdBeginnings(t, l)
	}
}

// TestChain has operations each of which is invoked when the one before it was answered: each is before all later ones.
func TestChain(t *testing.T) {
	var l []api.Event
	const n = 60
	for i := range n {
		l = append(l, call(i%4, n-i, trim(i)), done(i%4, n-i, trim(i)))
	}
	for a := 1; a <= n; a++ {
		for b := 1; b <= n; b++ {
			if got := history.Before(l, a, b); got != (a > b) {
				t.Fatalf("Before of %d and %d: %v", a, b, got)
			}
		}
	}
	holdOrder(t, l)
}

// TestNest has operations each of which begins and ends within the one before it: none is before another one.
func TestNest(t *testing.T) {
	l := shapes(100)[2]
	for a := range 50 {
		for b := range 50 {
			if history.Before(l, a, b) {
				t.Fatalf("Before of %d and %d", a, b)
			}
		}
	}
}

// TestStairs has operations each of which ends within the next one: each is before all but the next one.
func TestStairs(t *testing.T) {
	l := []api.Event{call(0, 0, read(0))}
	const n = 60
	for i := range n - 1 {
		l = append(l, call((i+1)%4, i+1, read(0)), done(i%4, i, read(0)))
	}
	for a := range n {
		for b := range n {
			if got := history.Before(l, a, b); got != (a+1 < b) {
				t.Fatalf("Before of %d and %d: %v", a, b, got)
			}
		}
	}
	holdCheck(t, 1, l, api.OK)
	holdOrder(t, l)
	holdOperations(t, l, append(slices.Collect(func(yield func(api.Event) bool) {
		for i := range n - 1 {
			if !yield(done(i%4, i, read(0))) {
				return
			}
		}
	}), call((n-1)%4, n-1, read(0))), []int{n - 1})
}

// TestWrongStaysWrong has histories that begin with a wrong one: they are wrong.
func TestWrongStaysWrong(t *testing.T) {
	begin := []api.Event{call(0, 1000, trim(1)), done(0, 1000, trim(2))}
	for _, l := range slices.Concat(right(), shapes(98)) {
		for n := range l {
			if e := history.Check(1, append(slices.Clip(begin), l[:n]...)); e != api.ErrOrder {
				t.Fatalf("%d", e)
			}
		}
	}
}

// TestPartsAreRight has the events of each block of right histories, and each operation alone: they are right histories too.
func TestPartsAreRight(t *testing.T) {
	for _, l := range slices.Concat(right(), shapes(api.MaxEvents), shapes(57)) {
		for block := -1; block <= 3; block++ {
			part := history.Restrict(l, block)
			if e := history.Check(1, part); e != api.OK {
				t.Fatalf("%d: %+v", e, part)
			}
			if again := history.Restrict(part, block); !slices.Equal(again, part) || len(history.Restrict(part, block+1)) > 0 {
				t.Fatalf("%+v became %+v", part, again)
			}
			for _, o := range history.Operations(part) {
				if !slices.Contains(history.Operations(l), o) {
					t.Fatalf("%+v is not in %+v", o, l)
				}
			}
		}
	}
}

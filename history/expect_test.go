package history_test

import (
	"slices"

	"zoneappend/api"
)

// What the chapter says, read once more: without maps, and each event with all the events before it.

// expectCheck is what Check returns.
func expectCheck(blocks int, l []api.Event) api.Errno {
	for _, c := range []struct {
		wrong bool
		e     api.Errno
	}{{blocks < 1, 1}, {blocks > 128, 1}, {len(l) > 400, 19}, {firstWrong(l) >= 0, 17}} {
		if c.wrong {
			return c.e
		}
	}
	return api.OK
}

// firstWrong is the place of the first event that is not right (-1: all are).
func firstWrong(l []api.Event) int {
	for i, e := range l {
		if !rightBehind(l[:i], e) {
			return i
		}
	}
	return -1
}

// rightBehind tells whether an event is right behind the ones before it, which are right.
func rightBehind(before []api.Event, e api.Event) bool {
	if !slices.Contains([]int{0, 1, 2, 3}, e.Queue) || e.Serial < 0 {
		return false
	}
	if !e.Return {
		return !slices.ContainsFunc(before, func(o api.Event) bool { return o.Serial == e.Serial }) && e.Result.Err == 0 && e.Result.Data == ""
	}
	invoked, answered := false, false
	for _, o := range before {
		if o.Serial != e.Serial {
			continue
		}
		if o.Return {
			answered = true
			continue
		}
		x, y := o.Command, e.Command
		invoked = o.Queue == e.Queue && x.Kind == y.Kind && x.Block == y.Block && x.Data == y.Data
	}
	return invoked && !answered && expectFits(e.Command, e.Result)
}

// expectFits tells whether a result fits.
func expectFits(x api.Command, r api.Result) bool {
	need := 0
	if r.Err == 0 && x.Kind == 1 {
		need = 16
	}
	return slices.Contains([]api.Errno{0, 7, 1, 2, 3, 12}, r.Err) && len(r.Data) == need
}

// where is the place of the first event with these (-1: there is none).
func where(l []api.Event, isReturn bool, serial int) int {
	for i := range l {
		if l[i].Return == isReturn && l[i].Serial == serial {
			return i
		}
	}
	return -1
}

// expectOperations is what Operations returns.
func expectOperations(l []api.Event) []api.Event {
	var all []api.Event
	for i, e := range l {
		if e.Return || where(l, false, e.Serial) < i {
			continue
		}
		if k := where(l, true, e.Serial); k >= 0 {
			e = api.Event{Return: true, Queue: e.Queue, Serial: e.Serial, Command: e.Command, Result: l[k].Result}
		}
		all = append(all, e)
	}
	return all
}

// expectPending is what Pending returns.
func expectPending(l []api.Event) []int {
	var all []int
	for i, e := range l {
		if !e.Return && where(l[:i], false, e.Serial) < 0 && where(l, true, e.Serial) < 0 {
			all = append(all, e.Serial)
		}
	}
	return all
}

// expectBefore is what Before reports.
func expectBefore(l []api.Event, a, b int) bool {
	i, k := where(l, true, a), where(l, false, b)
	return i >= 0 && k >= 0 && i < k
}

// expectRestrict is what Restrict returns.
func expectRestrict(l []api.Event, block int) []api.Event {
	return slices.DeleteFunc(slices.Clone(l), func(e api.Event) bool {
		return e.Command.Block != block || e.Command.Kind != 1 && e.Command.Kind != 2 && e.Command.Kind != 3
	})
}

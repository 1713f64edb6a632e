package durable_test

import (
	"maps"
	"slices"

	"zoneappend/api"
	"zoneappend/linear"
)

// What the chapter says, read once more: without the layers below, and with all pairs of places.

// expectCheck is what Check returns.
func expectCheck(blocks []string, l []api.Event, found []string) api.Errno {
	if e := expectGiven(blocks, l); e != 0 {
		return e
	}
	if len(found) != len(blocks) {
		return 2
	}
	for b, value := range found {
		if !slices.Contains(expectAllowed(blocks, l, b), value) {
			return 14
		}
	}
	return 0
}

// expectGiven is the error of blocks and a history.
func expectGiven(blocks []string, l []api.Event) api.Errno {
	if len(blocks) < 1 || len(blocks) > 128 {
		return 1
	}
	if len(l) > 400 {
		return 19
	}
	for i, e := range l {
		if !rightBehind(l[:i], e) {
			return 17
		}
	}
	for _, b := range blocks {
		if len(b) != 16 {
			return 2
		}
	}
	return 0
}

// rightBehind tells whether an event is right behind the ones before it, which are right.
func rightBehind(before []api.Event, e api.Event) bool {
	if !slices.Contains([]int{0, 1, 2, 3}, e.Queue) || e.Serial < 0 {
		return false
	}
	invoked, answered := place(before, false, e.Serial), place(before, true, e.Serial)
	if !e.Return {
		return invoked < 0 && e.Result == api.Result{}
	}
	need := 0
	if e.Result.Err == 0 && e.Command.Kind == 1 {
		need = 16
	}
	return invoked >= 0 && answered < 0 && before[invoked].Queue == e.Queue && before[invoked].Command == e.Command &&
		slices.Contains([]api.Errno{0, 7, 1, 2, 3, 12}, e.Result.Err) && len(e.Result.Data) == need
}

// place is where an event stands (-1: nowhere).
func place(l []api.Event, isReturn bool, serial int) int {
	for i, e := range l {
		if e.Return == isReturn && e.Serial == serial {
			return i
		}
	}
	return -1
}

// expectPoint is where the point of a right history stands.
func expectPoint(l []api.Event) int {
	point := 0
	for i, e := range l {
		if k := place(l, true, e.Serial); !e.Return && e.Command.Kind == 4 && k >= 0 && l[k].Result.Err == 0 {
			point = i
		}
	}
	return point
}

// expectAllowed is what Allowed returns.
func expectAllowed(blocks []string, l []api.Event, block int) []string {
	if expectGiven(blocks, l) != 0 || block < 0 || block >= len(blocks) {
		return nil
	}
	point := expectPoint(l)
	values := map[string]bool{blocks[block]: true}
	for _, e := range l {
		if isChange(e, block) && e.Return && e.Result.Err == 0 && place(l, true, e.Serial) < point {
			clear(values)
		}
	}
	for _, e := range l {
		if e.Return || !isChange(e, block) {
			continue
		}
		k := place(l, true, e.Serial)
		if k >= 0 && (l[k].Result.Err != 0 || expectCovered(l, k, point)) {
			continue
		}
		if e.Command.Kind == 2 {
			values[e.Command.Data] = true
		} else {
			values[zero] = true
		}
	}
	return slices.Sorted(maps.Keys(values))
}

// isChange tells whether an event is one of a Write or Trim of a block.
func isChange(e api.Event, block int) bool {
	return (e.Command.Kind == 2 || e.Command.Kind == 3) && e.Command.Block == block
}

// expectCovered tells whether what was answered at a place is covered.
func expectCovered(l []api.Event, at, point int) bool {
	for i := at + 1; i < point; i++ {
		for k := i + 1; k < point; k++ {
			a, b := l[i], l[k]
			if !a.Return && b.Return && a.Serial == b.Serial && isChange(a, l[at].Command.Block) && b.Result.Err == 0 {
				return true
			}
		}
	}
	return false
}

// valuesAt is what a block can be at the point or later, as layer 19 has it: what was answered with OK ahead of the point has happened, and
// all that holds otherwise may have happened or not. Nobody reads. There are at most 20 Writes and Trims of the block.
func valuesAt(blocks []string, l []api.Event, block int) []string {
	point := expectPoint(l)
	var part []api.Event
	for i, e := range l {
		k := place(l, true, e.Serial)
		if isChange(e, block) && (k < 0 || l[k].Result.Err == 0) && (!e.Return || i < point) {
			part = append(part, e)
		}
	}
	return linear.Values(blocks[block], onto(part, 0))
}

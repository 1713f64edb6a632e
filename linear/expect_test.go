package linear_test

import (
	"fmt"
	"maps"
	"slices"

	"zoneappend/api"
)

// What the chapter says, read once more: without the layers below, with all pairs of places, and with a plain search that does one
// operation after the other.

// expectCheck is what Check returns.
func expectCheck(blocks []string, l []api.Event, order []int) api.Errno {
	if e := expectHistory(len(blocks), l); e != 0 {
		return e
	}
	for _, b := range blocks {
		if len(b) != 16 {
			return 2
		}
	}
	if !expectLinearization(blocks, l, order) {
		return 17
	}
	return 0
}

// expectHistory is the error of a history.
func expectHistory(blocks int, l []api.Event) api.Errno {
	if blocks < 1 || blocks > 128 {
		return 1
	}
	if len(l) > 400 {
		return 19
	}
	for i, e := range l {
		if !rightBehind(l[:i], e) {
			return 17
		}
	}
	return 0
}

// rightBehind tells whether an event is right behind the ones before it, which are right.
func rightBehind(before []api.Event, e api.Event) bool {
	if !slices.Contains([]int{0, 1, 2, 3}, e.Queue) || e.Serial < 0 {
		return false
	}
	invoked, answered := place(before, false, e.Serial), place(before, true, e.Serial)
	if !e.Return {
		return invoked < 0 && e.Result == api.Result{}
	}
	need := 0
	if e.Result.Err == 0 && e.Command.Kind == 1 {
		need = 16
	}
	return invoked >= 0 && answered < 0 && before[invoked].Queue == e.Queue && before[invoked].Command == e.Command &&
		slices.Contains([]api.Errno{0, 7, 1, 2, 3, 12}, e.Result.Err) && len(e.Result.Data) == need
}

// place is where an event stands (-1: nowhere).
func place(l []api.Event, isReturn bool, serial int) int {
	for i, e := range l {
		if e.Return == isReturn && e.Serial == serial {
			return i
		}
	}
	return -1
}

// expectBefore tells whether one operation is before another one.
func expectBefore(l []api.Event, a, b int) bool {
	i := place(l, true, a)
	return i >= 0 && i < place(l, false, b)
}

// apply does a command with blocks, which it changes.
func apply(blocks []string, x api.Command) api.Result {
	inside := x.Block >= 0 && x.Block < len(blocks)
	switch {
	case x.Kind < 1 || x.Kind > 4:
		return api.Result{Err: 3}
	case x.Kind == 4 && x.Block != 0 || x.Kind != 4 && !inside:
		return api.Result{Err: 1}
	case x.Kind == 2 && len(x.Data) != 16 || x.Kind != 2 && x.Data != "":
		return api.Result{Err: 2}
	case x.Kind == 1:
		return api.Result{Data: blocks[x.Block]}
	case x.Kind == 2:
		blocks[x.Block] = x.Data
	case x.Kind == 3:
		blocks[x.Block] = zero
	}
	return api.Result{}
}

// expectLinearization tells whether an order is a linearization of a right history.
func expectLinearization(blocks []string, l []api.Event, order []int) bool {
	blocks = slices.Clone(blocks)
	for i, a := range order {
		invoked := place(l, false, a)
		if invoked < 0 || slices.Contains(order[:i], a) {
			return false
		}
		for _, b := range order[:i] {
			if expectBefore(l, a, b) {
				return false
			}
		}
		r := apply(blocks, l[invoked].Command)
		if k := place(l, true, a); k >= 0 && (l[k].Result.Err != 0 || l[k].Result != r) {
			return false
		}
	}
	for _, e := range l {
		if e.Return && e.Result.Err == 0 && !slices.Contains(order, e.Serial) {
			return false
		}
	}
	return true
}

// plain is a search that does one operation after the other, each that may come next.
type plain struct {
	l       []api.Event
	serials []int
	seen    map[string]bool
	ends    map[string]bool // what the first block is behind linearizations
}

// plainSearch is what the first block can be behind linearizations of a right history.
func plainSearch(blocks []string, l []api.Event) []string {
	p := plain{l, serials(l), map[string]bool{}, map[string]bool{}}
	p.search(blocks, nil)
	return slices.Sorted(maps.Keys(p.ends))
}

// search goes on behind some operations.
func (p *plain) search(blocks []string, did []int) {
	if key := fmt.Sprint(slices.Sorted(slices.Values(did)), blocks); p.seen[key] {
		return
	} else {
		p.seen[key] = true
	}
	all := true
	for _, s := range p.serials {
		k := place(p.l, true, s)
		if slices.Contains(did, s) || k >= 0 && p.l[k].Result.Err != 0 {
			continue
		}
		all = all && k < 0
		if p.isNext(did, s) {
			own := slices.Clone(blocks)
			r := apply(own, p.l[place(p.l, false, s)].Command)
			if k < 0 || p.l[k].Result == r {
				p.search(own, append(slices.Clip(did), s))
			}
		}
	}
	if all {
		p.ends[blocks[0]] = true
	}
}

// isNext tells whether no operation that was answered with OK and is not done is before one.
func (p *plain) isNext(did []int, s int) bool {
	for _, e := range p.l {
		if e.Return && e.Result.Err == 0 && !slices.Contains(did, e.Serial) && expectBefore(p.l, e.Serial, s) {
			return false
		}
	}
	return true
}

// expectValues is what Values returns.
func expectValues(value string, l []api.Event) []string {
	if len(value) != 16 || expectHistory(1, l) != 0 || len(serials(l)) > 20 {
		return nil
	}
	for _, e := range l {
		if e.Command.Kind < 1 || e.Command.Kind > 3 || e.Command.Block != 0 {
			return nil
		}
	}
	return plainSearch([]string{value}, l)
}

// expectFind is whether Find finds a linearization.
func expectFind(blocks []string, l []api.Event) bool {
	if expectHistory(len(blocks), l) != 0 {
		return false
	}
	for b, value := range blocks {
		number := 0
		for _, e := range l {
			if !e.Return && e.Command.Kind >= 1 && e.Command.Kind <= 3 && e.Command.Block == b {
				number++
			}
		}
		if len(value) != 16 || number > 20 {
			return false
		}
	}
	return len(plainSearch(blocks, l)) > 0
}

package linear

import (
	"math"
	"slices"

	"zoneappend/api"
	"zoneappend/history"
	"zoneappend/model"
)

// most is how many operations a block may have. Each step of a search has a bit in a set, also the one that Values adds.
const most = 20

// never is a place behind all events.
const never = math.MaxInt

// step is an operation that a linearization may need: it reads a value or writes one, behind a place of the history and ahead of another
// one (never, if it is pending).
type step struct {
	serial   int
	reads    bool
	value    string
	from, to int
}

// set is a set of steps.
type set uint32

// has tells whether a step is in a set.
func (s set) has(i int) bool { return s>>i&1 == 1 }

// state is how far a search has come: the steps that it has done, and what the block is then.
type state struct {
	done  set
	value string
}

// search looks for an order of steps, which are given in the order of their invocations: none is before an earlier one of them.
type search struct {
	steps  []step
	before []set // the steps that are before each one
	seen   map[state]bool
	order  []int // the Serials of the steps done so far
}

// stepsOf returns the steps of a history of one block, in the order of their invocations. It is false if the history is not such a one, or
// an operation was answered with OK that cannot be.
func stepsOf(value string, l []api.Event) ([]step, bool) {
	if isNoBlock(value) || history.Check(1, l) != api.OK || len(history.Restrict(l, 0)) < len(l) {
		return nil, false
	}
	operations := history.Operations(l)
	if len(operations) > most || slices.ContainsFunc(operations, func(o api.Event) bool { return isImpossible(1, o) }) {
		return nil, false
	}
	invoked, answered := places(l, false), places(l, true)
	var steps []step
	for _, o := range slices.DeleteFunc(operations, isNotNeeded) {
		s := step{serial: o.Serial, reads: o.Command.Kind == api.Read, value: valueOf(o), from: invoked[o.Serial], to: never}
		if o.Return {
			s.to = answered[o.Serial]
		}
		steps = append(steps, s)
	}
	return steps, true
}

// isNotNeeded tells whether an operation is in no linearization, or in none that has to have it: it is pending, and changes nothing.
func isNotNeeded(o api.Event) bool {
	if o.Return {
		return o.Result.Err != api.OK
	}
	return o.Command.Kind == api.Read || !isRight(1, o.Command)
}

// valueOf returns what an operation on one block reads or writes.
func valueOf(o api.Event) string {
	if o.Command.Kind == api.Read {
		return o.Result.Data
	}
	blocks, _ := model.Apply(model.New(1), o.Command)
	return blocks[0]
}

// written returns what a block can be: the value that it has, and those that steps write, ascending, each once.
func written(value string, steps []step) []string {
	values := []string{value}
	for _, s := range steps {
		if !s.reads {
			values = append(values, s.value)
		}
	}
	slices.Sort(values)
	return slices.Compact(values)
}

// find finds an order of steps in which those that read have the values that they read, and returns their Serials.
func find(value string, steps []step) ([]int, bool) {
	s := search{steps: steps, before: make([]set, len(steps)), seen: map[state]bool{}}
	for i, a := range steps {
		for k, b := range steps {
			if b.to < a.from {
				s.before[i] |= 1 << k
			}
		}
	}
	if !s.finish(state{value: value}) {
		return nil, false
	}
	return s.order, true
}

// finish does the steps that are left behind a state, and tells whether it could. A step that reads is done as soon as it can be, which is
// never worse than later. Ahead of the next one that reads, another one has to write what it reads: each such pair is tried.
func (s *search) finish(at state) bool {
	s.readAll(&at)
	if !s.hasReads(at) {
		s.writeRest(at)
		return true
	}
	if s.seen[at] { // in vain, or the search would have ended
		return false
	}
	s.seen[at] = true
	sofar := len(s.order)
	for w := range s.steps {
		for r := range s.steps {
			if s.isPair(at, w, r) && s.tryPair(at, w, r) {
				return true
			}
			s.order = s.order[:sofar]
		}
	}
	return false
}

// isPair tells whether of two steps that are left one writes what the other one reads.
func (s *search) isPair(at state, w, r int) bool {
	a, b := s.steps[w], s.steps[r]
	return !a.reads && b.reads && a.value == b.value && !at.done.has(w) && !at.done.has(r)
}

// tryPair does a pair of steps, and then finishes. It also does what is before one of the two, but nothing else that writes: a step whose
// value nobody reads can as well be done later, ahead of another one that writes, or at the end.
func (s *search) tryPair(at state, w, r int) bool {
	need := (s.before[w] | s.before[r]) &^ at.done
	for i, x := range s.steps {
		if need.has(i) && i != w && !x.reads {
			s.do(&at, i)
		}
	}
	s.do(&at, w)
	s.readAll(&at)
	return at.done.has(r) && s.finish(at)
}

// readAll does all steps that read what the block is. Those that are before one of them are ahead of it, so once through is enough.
func (s *search) readAll(at *state) {
	for i, x := range s.steps {
		if x.reads && !at.done.has(i) && x.value == at.value {
			s.do(at, i)
		}
	}
}

// hasReads tells whether a step that reads is left.
func (s *search) hasReads(at state) bool {
	for i, x := range s.steps {
		if x.reads && !at.done.has(i) {
			return true
		}
	}
	return false
}

// writeRest does all steps that are left, except those that are pending.
func (s *search) writeRest(at state) {
	for i, x := range s.steps {
		if x.to != never && !at.done.has(i) {
			s.do(&at, i)
		}
	}
}

// do does a step, unless one that is before it is left.
func (s *search) do(at *state, i int) {
	if s.before[i]&^at.done != 0 {
		return
	}
	at.done |= 1 << i
	at.value = s.steps[i].value
	s.order = append(s.order, s.steps[i].serial)
}

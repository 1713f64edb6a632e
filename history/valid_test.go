package history_test

import (
	"fmt"
	"slices"
	"strings"
	"testing"

	"zoneappend/api"
	"zoneappend/history"
)

// reason is an event that is wrong behind others that are right, for one reason alone.
type reason struct {
	name   string
	behind []api.Event
	wrong  api.Event
}

// errnos are all errors that there are, and ones that there are not.
func errnos() []api.Errno {
	var l []api.Errno
	for e := api.OK; e <= api.ErrLimit; e++ {
		l = append(l, e)
	}
	for _, n := range slices.Concat([]int{20, 21, 255, 256, 256 + 7, 1<<32 + 12}, low, high) {
		l = append(l, api.Errno(n))
	}
	return l
}

// fitting are the errors that a result may have.
var fitting = []api.Errno{api.OK, api.ErrFull, api.ErrRange, api.ErrSize, api.ErrForm, api.ErrClosed}

// datas are data of some numbers of bytes.
func datas() []string {
	runes := strings.Repeat("é", 8) // 16 bytes
	return []string{
		"", "d", "\x00", bytes(15), bytes(16), bytes(17), bytes(32), bytes(256), bytes(256 + 16), runes, runes + runes, text(0), "é" + bytes(15),
	}
}

// samples are commands of all kinds, and of kinds that there are not.
func samples() []api.Command {
	l := []api.Command{read(0), read(7), read(-1), write(1, text(1)), write(1, "short"), trim(2), flush()}
	for _, kind := range strange {
		l = append(l, api.Command{Kind: kind, Block: 1})
	}
	return append(l, api.Command{Kind: api.Read, Data: text(2)}, api.Command{Kind: api.Flush, Block: 3, Data: "d"})
}

// wrongCalls are the reasons for which an invocation is wrong.
func wrongCalls() []reason {
	var l []reason
	for i, x := range samples() {
		for _, n := range slices.Concat([]int{api.MaxQueues, api.MaxQueues + 1, 8, 256}, low, high) {
			l = append(l, reason{fmt.Sprint("a queue ", n), nil, call(n, i, x)})
		}
		for _, n := range low {
			l = append(l, reason{fmt.Sprint("a serial ", n), nil, call(i%4, n, x)})
		}
		for _, e := range errnos() {
			if e != api.OK {
				odd := call(i%4, i, x)
				odd.Result.Err = e
				l = append(l, reason{fmt.Sprint("an error ", e), nil, odd})
			}
		}
		for _, d := range datas()[1:] {
			odd := call(i%4, i, x)
			odd.Result.Data = d
			l = append(l, reason{fmt.Sprintf("data %q", d), nil, odd})
		}
		for _, y := range samples() {
			l = append(l, reason{"invoked before", []api.Event{call(1, 5, x)}, call(1, 5, y)})
			l = append(l, reason{"invoked before, on another queue", []api.Event{call(1, 5, x)}, call(2, 5, y)})
			l = append(l, reason{"invoked and answered before", []api.Event{call(1, 5, x), done(1, 5, x)}, call(1, 5, y)})
			l = append(l, reason{"invoked and failed before", []api.Event{call(1, 5, x), failed(1, 5, x, api.ErrFull)}, call(3, 5, y)})
			l = append(l, reason{"invoked long before", []api.Event{call(1, 5, x), call(1, 6, y), done(1, 6, y)}, call(0, 5, y)})
		}
	}
	return l
}

// wrongReturns are the reasons for which a return is wrong, but for its result.
func wrongReturns() []reason {
	var l []reason
	for _, x := range samples() {
		l = append(l,
			reason{"never invoked", nil, done(0, 0, x)},
			reason{"never invoked, but the zero event", nil, back(0, 0, api.Command{}, api.Result{})},
			reason{"never invoked, but another one", []api.Event{call(0, 0, x)}, done(0, 1, x)},
			reason{"never invoked, but others, also answered", []api.Event{call(0, 3, x), call(1, 1, x), done(0, 3, x)}, done(0, 2, x)},
			reason{"answered twice", []api.Event{call(3, 2, x), done(3, 2, x)}, done(3, 2, x)},
			reason{"answered once more", []api.Event{call(3, 2, x), done(3, 2, x)}, failed(3, 2, x, api.ErrFull)},
			reason{"failed twice", []api.Event{call(3, 2, x), failed(3, 2, x, api.ErrFull)}, failed(3, 2, x, api.ErrFull)},
			reason{"failed and answered", []api.Event{call(3, 2, x), failed(3, 2, x, api.ErrFull), call(3, 4, x)}, done(3, 2, x)},
		)
		for a := range api.MaxQueues {
			for b := range api.MaxQueues {
				if a != b {
					l = append(l, reason{"another queue", []api.Event{call(a, 2, x)}, done(b, 2, x)})
					l = append(l, reason{"the queue of another one", []api.Event{call(a, 2, x), call(b, 3, x)}, done(b, 2, x)})
				}
			}
		}
		for _, n := range slices.Concat([]int{api.MaxQueues, 256}, low, high) {
			l = append(l, reason{"a queue that is not possible", []api.Event{call(0, 2, x)}, done(n, 2, x)})
		}
		for _, y := range samples() {
			if x != y {
				l = append(l, reason{"another command", []api.Event{call(1, 2, x)}, done(1, 2, y)})
				l = append(l, reason{"the command of another one", []api.Event{call(1, 2, x), call(1, 3, y)}, failed(1, 2, y, api.ErrFull)})
			}
		}
		for _, y := range []api.Command{
			{Kind: x.Kind + 1, Block: x.Block, Data: x.Data}, {Kind: x.Kind ^ 1<<40, Block: x.Block, Data: x.Data},
			{Kind: x.Kind, Block: x.Block + 1, Data: x.Data}, {Kind: x.Kind, Block: x.Block ^ 1<<40, Data: x.Data},
			{Kind: x.Kind, Block: x.Block, Data: x.Data + "d"}, {Kind: x.Kind, Block: x.Block, Data: x.Data + "\x00"},
		} {
			l = append(l, reason{"a command that differs in one field", []api.Event{call(1, 2, x)}, failed(1, 2, y, api.ErrRange)})
			l = append(l, reason{"a command that differs in one field, with OK", []api.Event{call(1, 2, x)}, done(1, 2, y)})
		}
	}
	return l
}

// holdReason expects that a history is wrong at its first, a middle or its last event, or as near to them as what has to be before the
// wrong event lets it be, and that it is right without that event.
func holdReason(t *testing.T, r reason) {
	t.Helper()
	for _, before := range [][]api.Event{nil, moved(right()[5], 1000), moved(right()[7], 1000)} {
		for _, after := range [][]api.Event{nil, moved(right()[4], 2000), moved(right()[7], 2000)} {
			l := slices.Concat(before, r.behind, after)
			if e := history.Check(3, l); e != api.OK {
				t.Fatalf("without %q: %+v: %d", r.name, l, e)
			}
			l = slices.Concat(before, r.behind, []api.Event{r.wrong}, after)
			if e := history.Check(3, l); e != api.ErrOrder {
				t.Fatalf("%s: %+v: %d", r.name, l, e)
			}
		}
	}
	l := append(slices.Clip(r.behind), r.wrong)
	holdCheck(t, 3, l, api.ErrOrder)
	holdCheck(t, 0, l, api.ErrRange)
}

// holdLate expects that a wrong event is found as the last one of the longest history, and that the errors that come first come first.
func holdLate(t *testing.T, r reason) {
	t.Helper()
	l := append(slices.Clip(r.behind), r.wrong)
	longest := moved(shapes(api.MaxEvents - len(l))[1], 1000)
	holdCheck(t, 3, append(longest, l...), api.ErrOrder)
	holdCheck(t, 129, append(longest, l...), api.ErrRange)
	longer := append(moved(longest, 1000), call(0, 900, flush()))
	holdCheck(t, 3, append(longer, l...), api.ErrLimit)
	holdCheck(t, -1, append(longer, l...), api.ErrRange)
}

// holdReasons expects what the two above expect, the second one for some reasons.
func holdReasons(t *testing.T, l []reason) {
	t.Helper()
	for i, r := range l {
		holdReason(t, r)
		if i%31 == 0 {
			holdLate(t, r)
		}
	}
}

func TestCheckWrongCalls(t *testing.T) {
	holdReasons(t, wrongCalls())
}

func TestCheckWrongReturns(t *testing.T) {
	holdReasons(t, wrongReturns())
}

// TestCheckResults has returns of all kinds of commands with all results: those that fit are right, the others are wrong.
func TestCheckResults(t *testing.T) {
	right := 0
	var wrong []reason
	for _, x := range samples() {
		for _, e := range errnos() {
			for _, d := range datas() {
				r := api.Result{Err: e, Data: d}
				lead := []api.Event{call(2, 5, x)}
				fits := slices.Contains(fitting, e) && d == ""
				if e == api.OK && x.Kind == api.Read {
					fits = len(d) == 16
				}
				if !fits {
					wrong = append(wrong, reason{fmt.Sprintf("%+v for %+v", r, x), lead, back(2, 5, x, r)})
					continue
				}
				right++
				l := append(lead, back(2, 5, x, r))
				holdCheck(t, 1, l, api.OK)
				holdCheck(t, 1, slices.Concat(moved(shapes(397)[1], 1000), l, []api.Event{call(0, 6, x)}), api.OK)
			}
		}
	}
	holdReasons(t, wrong)
	// Each command fits with each of the six errors once, and the four Reads with three blocks of data instead of none.
	if n := len(samples()); right != n*6+4*2 || len(wrong) != n*len(errnos())*len(datas())-right {
		t.Errorf("%d right results and %d wrong ones, of %d commands", right, len(wrong), n)
	}
}

// TestCheckLeastReasons has, with each event written out, a wrong first event of each kind, and the shortest histories that are wrong.
func TestCheckLeastReasons(t *testing.T) {
	x := api.Command{Kind: 3, Block: 1}
	for _, l := range [][]api.Event{
		{{Queue: -1, Serial: 0, Command: x}},
		{{Queue: 4, Serial: 0, Command: x}},
		{{Queue: 0, Serial: -1, Command: x}},
		{{Queue: 0, Serial: 0, Command: x, Result: api.Result{Err: 7}}},
		{{Queue: 0, Serial: 0, Command: x, Result: api.Result{Data: "d"}}},
		{{Return: true}},
		{{Return: true, Queue: 0, Serial: 0, Command: x}},
		{{Command: x}, {Command: x}},
		{{Command: x}, {Serial: 1, Command: x}, {Command: x}},
		{{Command: x}, {Return: true, Queue: 1, Command: x}},
		{{Command: x}, {Return: true, Serial: 1, Command: x}},
		{{Command: x}, {Return: true, Command: api.Command{Kind: 2, Block: 1}}},
		{{Command: x}, {Return: true, Command: api.Command{Kind: 3, Block: 0}}},
		{{Command: x}, {Return: true, Command: api.Command{Kind: 3, Block: 1, Data: "d"}}},
		{{Command: x}, {Return: true, Command: x, Result: api.Result{Err: 4}}},
		{{Command: x}, {Return: true, Command: x, Result: api.Result{Data: "d"}}},
		{{Command: x}, {Return: true, Command: x}, {Return: true, Command: x}},
		{{Command: x}, {Return: true, Command: x}, {Command: x}},
		{{}, {}},
		{{}, {Return: true}, {Return: true}},
	} {
		holdCheck(t, 1, l, api.ErrOrder)
		if len(l) > 1 {
			holdCheck(t, 1, l[:len(l)-1], api.OK)
		}
	}
	holdCheck(t, 1, []api.Event{{}, {Return: true}}, api.OK)
}

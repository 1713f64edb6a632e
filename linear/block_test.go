package linear_test

import (
	"slices"
	"testing"

	"zoneappend/api"
	"zoneappend/linear"
)

// TestBlock has histories of one block that is text(0) at first.
func TestBlock(t *testing.T) {
	a, b, r, z := write(0, text(1)), write(0, text(2)), read(0), trim(0)
	old, one, other := text(0), text(1), text(2)
	for name, c := range map[string]struct {
		l      []api.Event
		values []string
	}{
		"nothing":                      {nil, []string{old}},
		"a Read":                       {whole(0, r, old), []string{old}},
		"a Read of what never was":     {whole(0, r, one), nil},
		"a Read of zeros":              {whole(0, r, zero), nil},
		"a pending Read":               {[]api.Event{call(0, r)}, []string{old}},
		"a failed Read":                {[]api.Event{call(0, r), failed(0, r, api.ErrClosed)}, []string{old}},
		"a Write":                      {whole(0, a, ""), []string{one}},
		"a pending Write":              {[]api.Event{call(0, a)}, []string{old, one}},
		"a failed Write":               {[]api.Event{call(0, a), failed(0, a, api.ErrFull)}, []string{old}},
		"a Trim":                       {whole(0, z, ""), []string{zero}},
		"a pending Trim":               {[]api.Event{call(0, z)}, []string{zero, old}},
		"a Write of the old":           {whole(0, write(0, old), ""), []string{old}},
		"a pending Write of the old":   {[]api.Event{call(0, write(0, old))}, []string{old}},
		"a Write of zeros and a Trim":  {[]api.Event{call(0, write(0, zero)), call(1, z)}, []string{zero, old}},
		"two Writes of one value":      {[]api.Event{call(0, a), call(1, a), done(1, a, "")}, []string{one}},
		"one Write behind another":     {join(whole(0, a, ""), whole(1, b, "")), []string{other}},
		"a Trim behind a Write":        {join(whole(0, a, ""), whole(1, z, "")), []string{zero}},
		"two Writes at once":           {[]api.Event{call(0, a), call(1, b), done(0, a, ""), done(1, b, "")}, []string{one, other}},
		"a Read behind both":           {[]api.Event{call(0, b), call(1, a), done(0, b, ""), done(1, a, ""), call(2, r), done(2, r, one)}, []string{one}},
		"two pending Writes":           {[]api.Event{call(0, b), call(1, a)}, []string{old, one, other}},
		"a pending one behind":         {append(whole(0, b, ""), call(1, a)), []string{one, other}},
		"a pending one ahead":          {append([]api.Event{call(0, b)}, whole(1, a, "")...), []string{one, other}},
		"a pending one is read":        {append([]api.Event{call(0, a)}, whole(1, r, one)...), []string{one}},
		"a pending one is not read":    {append([]api.Event{call(0, a)}, whole(1, r, old)...), []string{old, one}},
		"it is read, and not any more": {join([]api.Event{call(0, a)}, whole(1, r, one), whole(2, r, old)), nil},
		"it is read later":             {join([]api.Event{call(0, a)}, whole(1, r, old), whole(2, r, one)), []string{one}},
		"it is read too early":         {append(whole(1, r, one), call(0, a)), nil},
		"a failed one is read":         {join([]api.Event{call(0, a), failed(0, a, api.ErrFull)}, whole(1, r, one)), nil},
		"it is read before it fails":   {join([]api.Event{call(0, a)}, whole(1, r, one), []api.Event{failed(0, a, api.ErrFull)}), nil},
		"one of two is read":           {join([]api.Event{call(0, a), call(1, b)}, whole(2, r, other)), []string{one, other}},
		"both are read":                {join([]api.Event{call(0, a), call(1, b)}, whole(2, r, other), whole(3, r, one)), []string{one}},
		"a value comes back":           {join([]api.Event{call(0, a), call(1, b)}, whole(2, r, other), whole(3, r, one), whole(4, r, other)), nil},
		"a value is written twice": {
			join([]api.Event{call(0, a), call(1, b), call(5, b)}, whole(2, r, other), whole(3, r, one), whole(4, r, other)), []string{other},
		},
		"a Read meanwhile": {[]api.Event{call(0, a), call(1, r), done(0, a, ""), done(1, r, old)}, []string{one}},
		"a Read behind":    {[]api.Event{call(0, a), done(0, a, ""), call(1, r), done(1, r, old)}, nil},
		"a Trim is read":   {join([]api.Event{call(0, a), call(1, z)}, whole(2, r, zero), []api.Event{done(0, a, "")}), []string{zero, one}},
		"a blind Write":    {join([]api.Event{call(0, b)}, whole(1, a, ""), whole(2, r, one), []api.Event{done(0, b, "")}), []string{one, other}},
		"the same Write has to be blind": {
			join([]api.Event{call(0, b)}, whole(1, a, ""), []api.Event{done(0, b, "")}, whole(2, r, one)), []string{one},
		},
		"a Write between Reads": {
			[]api.Event{call(0, r), call(1, a), call(2, r), done(2, r, old), done(1, a, ""), done(0, r, one)}, []string{one},
		},
	} {
		t.Run(name, func(t *testing.T) {
			holdBlock(t, old, c.l, c.values...)
			holdFind(t, []string{old}, c.l, len(c.values) > 0)
			if got := expectValues(old, c.l); !slices.Equal(got, c.values) {
				t.Errorf("%q expected", got)
			}
		})
	}
}

// TestValuesAscend has values that differ in each byte, of which each is there once and less ones are first, also with bytes over 127.
func TestValuesAscend(t *testing.T) {
	values := []string{zero}
	for i := range 16 {
		b := []byte(text(5))
		b[i] = 0
		values = append(values, string(b))
	}
	for i := range 2 {
		b := []byte(text(5))
		b[15*i] = 0xff
		values = append(values, string(b))
	}
	var l []api.Event
	for i, v := range values {
		l = append(l, call(i, write(0, v)))
	}
	sorted := slices.Clone(values)
	slices.Sort(sorted)
	for _, v := range values {
		holdBlock(t, v, l, sorted...)
	}
	slices.Reverse(l)
	holdBlock(t, zero, l, sorted...)
	holdBlock(t, zero, l[:1], zero, values[18])
	holdBlock(t, values[18], l[:1], values[18])
	holdBlock(t, text(5), l[18:], zero, text(5))
}

// TestSizesOfValues has values that have not 16 bytes.
func TestSizesOfValues(t *testing.T) {
	for size := range 50 {
		v := bytes(size)
		for _, l := range [][]api.Event{nil, whole(0, write(0, text(1)), ""), {call(0, read(0))}, {call(0, write(0, text(1)))}} {
			switch {
			case size != 16:
				holdBlock(t, v, l)
			case l == nil || l[0].Command.Kind == api.Read:
				holdBlock(t, v, l, v)
			case len(l) == 1:
				holdBlock(t, v, l, text(1), v)
			default:
				holdBlock(t, v, l, text(1))
			}
		}
	}
}

// TestNumberOfOperations has histories of one block with up to 20 operations and with more, whatever became of them.
func TestNumberOfOperations(t *testing.T) {
	w := write(0, text(3))
	kinds := map[string]func(i int) []api.Event{
		"Reads":          func(i int) []api.Event { return whole(i, read(0), zero) },
		"Writes":         func(i int) []api.Event { return whole(i, write(0, text(i)), "") },
		"pending Reads":  func(i int) []api.Event { return []api.Event{call(i, read(0))} },
		"failed Writes":  func(i int) []api.Event { return []api.Event{call(i, w), failed(i, w, api.ErrFull)} },
		"pending Writes": func(i int) []api.Event { return []api.Event{call(i, w)} },
		"short Writes":   func(i int) []api.Event { return []api.Event{call(i, write(0, "short"))} },
	}
	for name, part := range kinds {
		for n := range 25 {
			var l []api.Event
			for i := range n {
				l = append(l, part(i)...)
			}
			values := []string{zero}
			switch {
			case n > 20:
				values = nil
			case name == "Writes" && n > 0:
				values = []string{text(n - 1)}
			case name == "pending Writes" && n > 0:
				values = []string{zero, text(3)}
			}
			holdBlock(t, zero, l, values...)
			holdFind(t, []string{zero}, l, n <= 20)
			holdFind(t, []string{text(1), zero}, onto(l, 1), n <= 20)
			holdFind(t, []string{zero, zero}, join(l, whole(100, read(1), zero)), n <= 20)
		}
	}
}

// TestOtherCommands has histories of one block with an event of another one, of a Flush, or of no kind, at each place.
func TestOtherCommands(t *testing.T) {
	l := join(whole(0, write(0, text(1)), ""), []api.Event{call(1, trim(0))}, whole(2, read(0), text(1)))
	holdBlock(t, zero, l, zero, text(1))
	commands := []api.Command{flush(), {}, {Kind: api.Flush, Block: 1}, read(1), write(-1, text(1)), write(1, text(1)), trim(1), read(1 << 32)}
	for _, n := range strange {
		commands = append(commands, api.Command{Kind: n}, read(n), trim(n), write(n, text(1)))
	}
	for i := range len(l) + 1 {
		for _, x := range commands {
			holdBlock(t, zero, slices.Insert(slices.Clone(l), i, call(9, x)))
			holdBlock(t, zero, slices.Insert(slices.Clone(l), i, call(9, x), failed(9, x, api.ErrClosed)))
			if x.Kind != api.Read {
				holdBlock(t, zero, slices.Insert(slices.Clone(l), i, call(9, x), done(9, x, "")))
			}
		}
	}
	holdBlock(t, zero, []api.Event{call(0, flush())})
	holdBlock(t, zero, onto(l, 1))
	holdBlock(t, zero, onto(l, -1))
}

// TestCommandsThatAreNotRight has commands on the block that are not right: a pending or failed one changes nothing, and none can be answered
// with OK.
func TestCommandsThatAreNotRight(t *testing.T) {
	l := join(whole(0, write(0, text(1)), ""), whole(2, read(0), text(1)))
	for i := range len(l) + 1 {
		for _, x := range []api.Command{
			write(0, ""), write(0, "short"), write(0, bytes(15)), write(0, bytes(17)), {Kind: api.Trim, Data: zero}, {Kind: api.Trim, Data: "x"},
			{Kind: api.Read, Data: "x"}, {Kind: api.Read, Data: text(1)},
		} {
			holdBlock(t, text(1), slices.Insert(slices.Clone(l), i, call(9, x)), text(1))
			holdFind(t, []string{text(1)}, slices.Insert(slices.Clone(l), i, call(9, x)), true)
			holdBlock(t, text(1), slices.Insert(slices.Clone(l), i, call(9, x), failed(9, x, api.ErrSize)), text(1))
			data := ""
			if x.Kind == api.Read {
				data = text(1)
			}
			holdBlock(t, text(1), slices.Insert(slices.Clone(l), i, call(9, x), done(9, x, data)))
			holdFind(t, []string{text(1)}, slices.Insert(slices.Clone(l), i, call(9, x), done(9, x, data)), false)
		}
	}
	short := write(0, bytes(15))
	holdBlock(t, zero, join([]api.Event{call(0, short)}, whole(1, read(0), zero)), zero)
	holdBlock(t, zero, join([]api.Event{call(0, write(0, ""))}, whole(1, read(0), bytes(16))))
}

// TestHistoriesThatAreNotRight has histories of one block that are not right.
func TestHistoriesThatAreNotRight(t *testing.T) {
	for name, l := range wrong() {
		t.Run(name, func(t *testing.T) {
			holdBlock(t, zero, l)
			holdBlock(t, zero, join(whole(50, read(0), zero), l))
			holdBlock(t, zero, join(l, whole(50, read(0), zero)))
		})
	}
	var long []api.Event
	for i := range 401 {
		long = append(long, call(i, read(0)))
	}
	holdBlock(t, zero, long)
}

// atOnce are Writes of some values at the same time, n of them, which are answered at the end or never.
func atOnce(n, values int, answered bool) []api.Event {
	var l []api.Event
	for i := range n {
		l = append(l, call(i, write(0, text(i%values+1))))
	}
	for i := range n {
		if answered {
			l = append(l, done(i, write(0, text(i%values+1)), ""))
		}
	}
	return l
}

// TestManyAtOnce has many operations at the same time, which have more orders than can be tried.
func TestManyAtOnce(t *testing.T) {
	for _, values := range []int{1, 2, 3, 7, 20} {
		var all []string
		for i := range values {
			all = append(all, text(i+1))
		}
		holdBlock(t, zero, atOnce(20, values, true), all...)
		holdBlock(t, zero, atOnce(20, values, false), append([]string{zero}, all...)...)
	}
	for reads := 1; reads < 20; reads++ {
		n := 20 - reads
		l := atOnce(n, n, false)
		for i := range reads { // of all values, in another order
			l = append(l, whole(20+i, read(0), text(1+(7*i+3)%n))...)
		}
		holdBlock(t, zero, l, endsOf(l, n)...)
		l = l[:len(l)-2]
		holdBlock(t, zero, join(l, whole(40, read(0), zero)), oldIf(reads == 1, n)...)
	}
}

// endsOf are what a block can be behind Writes of the texts 1 to n at the same time that are never answered, and Reads one after the other.
func endsOf(l []api.Event, n int) []string {
	var read []string
	for _, e := range l {
		if e.Return {
			read = append(read, e.Result.Data)
		}
	}
	for i, v := range read {
		if slices.Contains(read[:i], v) && read[i-1] != v {
			return nil
		}
	}
	var all []string
	for i := range n {
		if v := text(i + 1); !slices.Contains(read, v) || read[len(read)-1] == v {
			all = append(all, v)
		}
	}
	return all
}

// oldIf are zero and the texts 1 to n, or nothing.
func oldIf(yes bool, n int) []string {
	if !yes {
		return nil
	}
	all := []string{zero}
	for i := range n {
		all = append(all, text(i+1))
	}
	return all
}

// TestPairsAtOnce has Writes and a Read of each of them, all at the same time, and two Reads one behind the other that no order can have.
func TestPairsAtOnce(t *testing.T) {
	for _, n := range []int{1, 2, 5, 8} {
		var begin, end []api.Event
		for i := range n {
			w, r := write(0, text(i+1)), read(0)
			begin = append(begin, call(2*i, w), call(2*i+1, r))
			end = append(end, done(2*i+1, r, text(i+1)), done(2*i, w, ""))
		}
		var all []string
		for i := range n {
			all = append(all, text(i+1))
		}
		holdBlock(t, zero, join(begin, end), all...)
		w, r := write(0, text(30)), read(0)
		twice := join([]api.Event{call(30, w), call(31, w)}, begin, end[:n], whole(32, r, text(30)), end[n:], whole(33, r, text(30)))
		holdBlock(t, zero, twice, text(30))
		back := join([]api.Event{call(30, w)}, begin, end[:2], whole(32, r, text(30)), end[2:], whole(33, r, zero))
		holdBlock(t, zero, back)
		order, ok := linear.Block(zero, twice)
		if !ok || order[len(order)-1] != 33 {
			t.Errorf("%v", order)
		}
	}
}

// TestPairsAtOnceAndTwoBehind has as many pairs at once as there can be with two Reads behind them that return different values. A search
// that tried the same twice would be slow.
func TestPairsAtOnceAndTwoBehind(t *testing.T) {
	const n = 9
	var begin, end []api.Event
	for i := range n {
		w, r := write(0, text(i+1)), read(0)
		begin = append(begin, call(2*i, w), call(2*i+1, r))
		end = append(end, done(2*i+1, r, text(i+1)), done(2*i, w, ""))
	}
	behind := func(a, b string) []api.Event { return join(begin, end, whole(30, read(0), a), whole(31, read(0), b)) }
	holdBlock(t, zero, behind(text(3), text(4)))
	holdBlock(t, zero, behind(text(3), zero))
	holdBlock(t, zero, behind(text(n), text(n)), text(n))
}

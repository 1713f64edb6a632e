package durable_test

import (
	"fmt"
	"slices"
	"testing"

	"zoneappend/api"
	"zoneappend/durable"
	"zoneappend/model"
)

// a, b and c are Writes, z is a Trim and f is a Flush.
var (
	a = write(0, text(1))
	b = write(0, text(2))
	c = write(0, text(3))
	z = trim(0)
	f = flush()
)

// two are blocks of which the block 0 is text(0).
func two() []string { return []string{text(0), text(50)} }

// TestExample has the chapter's example, and what it would be if one of its events was missing or stood elsewhere.
func TestExample(t *testing.T) {
	x, y := whole(0, a), call(2, b)
	l := join(x, whole(1, f), []api.Event{y})
	holdBlock(t, two(), l, 0, texts(1, 2))
	holdBlock(t, []string{zero}, l, 0, texts(1, 2))
	holdBlock(t, two(), l[:4], 0, texts(1))
	holdBlock(t, two(), l[:3], 0, texts(0, 1))
	holdBlock(t, two(), append(slices.Clone(l[:3]), y), 0, texts(0, 1, 2))
	holdBlock(t, two(), join(whole(1, f), x, []api.Event{y}), 0, texts(0, 1, 2))
	holdBlock(t, two(), join(x, []api.Event{y}, whole(1, f)), 0, texts(1, 2))
	holdBlock(t, two(), append(slices.Clone(l), done(2, b)), 0, texts(1, 2))
	holdBlock(t, two(), append(slices.Clone(l), failed(2, b, api.ErrFull)), 0, texts(1))
	holdBlock(t, two(), join(l, []api.Event{done(2, b)}, whole(3, f)), 0, texts(2))
	holdBlock(t, two(), l, 1, texts(50))
	// The examples 4 and 5 of the document.
	holdBlock(t, []string{zero}, x, 0, []string{zero, text(1)})
	holdBlock(t, []string{zero}, join(x, whole(1, f)), 0, texts(1))
}

// TestReadme has what README.md does with what survives.
func TestReadme(t *testing.T) {
	blocks := model.New(2)
	x := api.Command{Kind: api.Write, Block: 1, Data: "0123456789abcdef"}
	y := api.Command{Kind: api.Write, Block: 1, Data: "fedcba9876543210"}
	flush := api.Command{Kind: api.Flush}
	l := []api.Event{
		{Queue: 0, Serial: 0, Command: x},
		{Return: true, Queue: 0, Serial: 0, Command: x},
	}
	if values := durable.Allowed(blocks, l, 1); !slices.Equal(values, []string{blocks[1], x.Data}) {
		t.Errorf("%q", values)
	}
	l = append(l,
		api.Event{Queue: 1, Serial: 1, Command: flush},
		api.Event{Return: true, Queue: 1, Serial: 1, Command: flush},
		api.Event{Queue: 0, Serial: 2, Command: y},
	)
	if values := durable.Allowed(blocks, l, 1); !slices.Equal(values, []string{x.Data, y.Data}) {
		t.Errorf("%q", values)
	}
	if e := durable.Check(blocks, l, []string{blocks[0], y.Data}); e != api.OK {
		t.Error(e)
	}
	if e := durable.Check(blocks, l, blocks); e != api.ErrCorrupt {
		t.Error(e)
	}
}

// TestPoint has histories whose point stands in different places, and shows by what a block may be where it stands.
func TestPoint(t *testing.T) {
	for name, c := range map[string]struct {
		l    []api.Event
		want []string
	}{
		"nothing":                          {nil, texts(0)},
		"no Flush":                         {whole(0, a), texts(0, 1)},
		"a Flush alone":                    {whole(9, f), texts(0)},
		"a Flush behind":                   {join(whole(0, a), whole(9, f)), texts(1)},
		"a Flush ahead":                    {join(whole(9, f), whole(0, a)), texts(0, 1)},
		"a pending Flush":                  {append(whole(0, a), call(9, f)), texts(0, 1)},
		"it was answered behind":           {[]api.Event{call(9, f), call(0, a), done(0, a), done(9, f)}, texts(0, 1)},
		"it was answered meanwhile":        {[]api.Event{call(0, a), call(9, f), done(9, f), done(0, a)}, texts(0, 1)},
		"it was invoked meanwhile":         {[]api.Event{call(0, a), call(9, f), done(0, a), done(9, f)}, texts(0, 1)},
		"it was answered much later":       {join(whole(0, a), []api.Event{call(9, f)}, whole(1, b), whole(2, c), []api.Event{done(9, f)}), texts(1, 2, 3)},
		"it is still pending":              {join(whole(0, a), []api.Event{call(9, f)}, whole(1, b), whole(2, c)), texts(0, 1, 2, 3)},
		"two Flushes":                      {join(whole(0, a), whole(8, f), whole(1, b), whole(9, f)), texts(2)},
		"the second one is pending":        {append(join(whole(0, a), whole(8, f), whole(1, b)), call(9, f)), texts(1, 2)},
		"the second one failed":            {join(whole(0, a), whole(8, f), whole(1, b), vain(9, f, api.ErrClosed)), texts(1, 2)},
		"the first one is pending":         {join(whole(0, a), []api.Event{call(8, f)}, whole(1, b), whole(9, f)), texts(2)},
		"the first one failed":             {join(whole(0, a), vain(8, f, api.ErrFull), whole(1, b), whole(9, f)), texts(2)},
		"both failed":                      {join(whole(0, a), vain(8, f, api.ErrFull), whole(1, b), vain(9, f, api.ErrFull)), texts(0, 1, 2)},
		"both are pending":                 {join(whole(0, a), []api.Event{call(8, f)}, whole(1, b), []api.Event{call(9, f)}), texts(0, 1, 2)},
		"both at once":                     {join([]api.Event{call(8, f), call(9, f)}, whole(0, a), []api.Event{done(8, f), done(9, f)}), texts(0, 1)},
		"both at once, behind":             {append(whole(0, a), call(8, f), call(9, f), done(8, f), done(9, f)), texts(1)},
		"the one that was answered last":   {join([]api.Event{call(8, f)}, whole(0, a), []api.Event{call(9, f), done(9, f), done(8, f)}), texts(1)},
		"it is the first one":              {join([]api.Event{call(8, f)}, whole(0, a), []api.Event{call(9, f), done(8, f)}), texts(0, 1)},
		"the other one failed":             {join([]api.Event{call(8, f)}, whole(0, a), []api.Event{call(9, f), failed(9, f, 12), done(8, f)}), texts(0, 1)},
		"both are answered in their order": {join([]api.Event{call(8, f)}, whole(0, a), []api.Event{call(9, f), done(8, f), done(9, f)}), texts(1)},
		"a lesser Serial is later":         {join(whole(5, a), whole(9, f), whole(6, b), whole(2, f)), texts(2)},
		"a lesser Serial is earlier":       {join(whole(5, a), whole(2, f), whole(6, b), whole(9, f)), texts(2)},
		"three, the last one answered first": {
			join([]api.Event{call(7, f)}, whole(0, a), []api.Event{call(8, f)}, whole(1, b), []api.Event{call(9, f), done(9, f), done(7, f), done(8, f)}), texts(2),
		},
		"three, the middle one answered alone": {
			join([]api.Event{call(7, f)}, whole(0, a), []api.Event{call(8, f)}, whole(1, b), []api.Event{call(9, f), done(8, f)}), texts(1, 2),
		},
		"three, the first one answered alone": {
			join([]api.Event{call(7, f)}, whole(0, a), []api.Event{call(8, f)}, whole(1, b), []api.Event{call(9, f), done(7, f)}), texts(0, 1, 2),
		},
	} {
		t.Run(name, func(t *testing.T) { holdBlock(t, two(), c.l, 0, c.want) })
	}
	for _, e := range errors {
		holdBlock(t, two(), join(whole(0, a), vain(9, f, e)), 0, texts(0, 1))
		holdBlock(t, two(), join(whole(0, a), whole(8, f), whole(1, b), vain(9, f, e)), 0, texts(1, 2))
	}
}

// TestHolds has a Write or a Trim on a block that was written and flushed: answered or not, ahead of the point, behind it, and meanwhile.
func TestHolds(t *testing.T) {
	for name, x := range map[string]api.Command{"Write": b, "Trim": z, "Write of zeros": write(0, zero)} {
		t.Run(name, func(t *testing.T) {
			value := text(2)
			if name != "Write" {
				value = zero
			}
			before := join(whole(0, a), whole(8, f)) // the block is text(1)
			both := []string{text(1), value}
			slices.Sort(both)
			for _, l := range [][]api.Event{
				whole(1, x), {call(1, x)}, join([]api.Event{call(1, x)}, whole(9, f)), join([]api.Event{call(1, x)}, whole(9, f), []api.Event{done(1, x)}),
				{call(1, x), call(9, f), done(1, x), done(9, f)}, {call(9, f), call(1, x), done(1, x), done(9, f)}, append(whole(9, f), call(1, x)),
				join(whole(9, f), whole(1, x)), {call(9, f), call(1, x), done(9, f), done(1, x)}, {call(9, f), call(1, x), done(9, f)},
			} {
				holdBlock(t, two(), join(before, l), 0, both)
			}
			holdBlock(t, two(), join(before, whole(1, x), whole(9, f)), 0, []string{value})
			holdBlock(t, two(), join(before, whole(1, x), []api.Event{call(9, f), done(9, f)}), 0, []string{value})
			for _, e := range errors {
				for _, l := range [][]api.Event{
					vain(1, x, e), join(vain(1, x, e), whole(9, f)), join([]api.Event{call(1, x)}, whole(9, f), []api.Event{failed(1, x, e)}),
					{call(1, x), call(9, f), failed(1, x, e), done(9, f)}, {call(9, f), call(1, x), failed(1, x, e), done(9, f)},
					join(whole(9, f), vain(1, x, e)),
				} {
					holdBlock(t, two(), join(before, l), 0, texts(1))
				}
			}
		})
	}
}

// TestCovered has a Write and a Trim that may be covered by something else.
func TestCovered(t *testing.T) {
	for name, c := range map[string]struct {
		l          []api.Event // of x, which y may cover, and Flushes
		x, y, gone bool        // whether the values of x and of y are allowed, and that from the beginning is not
	}{
		"by one ahead of the point":      {l: join(whole(0, a), whole(1, b), whole(9, f)), y: true, gone: true},
		"by one behind the point":        {l: join(whole(0, a), whole(9, f), whole(1, b)), x: true, y: true, gone: true},
		"without a Flush":                {l: join(whole(0, a), whole(1, b)), x: true, y: true},
		"the Flush is pending":           {l: append(join(whole(0, a), whole(1, b)), call(9, f)), x: true, y: true},
		"the Flush failed":               {l: join(whole(0, a), whole(1, b), vain(9, f, api.ErrClosed)), x: true, y: true},
		"by one answered behind":         {l: join(whole(0, a), []api.Event{call(1, b), call(9, f), done(1, b), done(9, f)}), x: true, y: true, gone: true},
		"by one answered far behind":     {l: join(whole(0, a), []api.Event{call(1, b), call(9, f), done(9, f), done(1, b)}), x: true, y: true, gone: true},
		"by a pending one":               {l: join(whole(0, a), []api.Event{call(1, b)}, whole(9, f)), x: true, y: true, gone: true},
		"by a failed one":                {l: join(whole(0, a), vain(1, b, api.ErrFull), whole(9, f)), x: true, gone: true},
		"by one that failed behind":      {l: join(whole(0, a), []api.Event{call(1, b)}, whole(9, f), []api.Event{failed(1, b, 7)}), x: true, gone: true},
		"by one at once":                 {l: []api.Event{call(0, a), call(1, b), done(0, a), done(1, b), call(9, f), done(9, f)}, x: true, y: true, gone: true},
		"by one at once, answered early": {l: []api.Event{call(0, a), call(1, b), done(1, b), done(0, a), call(9, f), done(9, f)}, x: true, y: true, gone: true},
		"by one at once, invoked early":  {l: []api.Event{call(1, b), call(0, a), done(0, a), done(1, b), call(9, f), done(9, f)}, x: true, y: true, gone: true},
		"by one that is within":          {l: join([]api.Event{call(0, a)}, whole(1, b), []api.Event{done(0, a)}, whole(9, f)), x: true, y: true, gone: true},
		"by one that it is within":       {l: join([]api.Event{call(1, b)}, whole(0, a), []api.Event{done(1, b)}, whole(9, f)), x: true, y: true, gone: true},
		"it was never answered":          {l: join([]api.Event{call(0, a)}, whole(1, b), whole(9, f)), x: true, y: true, gone: true},
		"it was answered behind":         {l: join([]api.Event{call(0, a)}, whole(1, b), []api.Event{call(9, f), done(0, a), done(9, f)}), x: true, y: true, gone: true},
		"it was invoked behind":          {l: join(whole(1, b), []api.Event{call(9, f)}, whole(0, a), []api.Event{done(9, f)}), x: true, y: true, gone: true},
		"it failed":                      {l: join(vain(0, a, api.ErrFull), whole(1, b), whole(9, f)), y: true, gone: true},
		"it failed at once":              {l: join([]api.Event{call(0, a)}, whole(1, b), []api.Event{failed(0, a, 7)}, whole(9, f)), y: true, gone: true},
		"by an earlier one":              {l: join(whole(1, b), whole(0, a), whole(9, f)), x: true, gone: true},
		"between Flushes":                {l: join(whole(0, a), whole(8, f), whole(1, b), whole(9, f)), y: true, gone: true},
		"the point is between":           {l: join(whole(0, a), []api.Event{call(1, b)}, whole(8, f), []api.Event{done(1, b)}), x: true, y: true, gone: true},
		"the point is behind both":       {l: join(whole(0, a), []api.Event{call(1, b)}, whole(8, f), []api.Event{done(1, b)}, whole(9, f)), y: true, gone: true},
	} {
		t.Run(name, func(t *testing.T) {
			for _, x := range []api.Command{a, z} {
				for _, y := range []api.Command{b, z} {
					l := changed(c.l, x, y)
					var want []string
					for _, v := range []struct {
						is    bool
						value string
					}{{!c.gone, text(0)}, {c.x, valueOf(x)}, {c.y, valueOf(y)}} {
						if v.is {
							want = append(want, v.value)
						}
					}
					slices.Sort(want)
					holdBlock(t, two(), l, 0, slices.Compact(want))
					if !c.x { // what is done with another block covers nothing
						y.Block = 1
						holdApart(t, changed(c.l, x, y))
					}
				}
			}
		})
	}
}

// valueOf is what a block is behind a command.
func valueOf(x api.Command) string {
	if x.Kind == api.Trim {
		return zero
	}
	return x.Data
}

// changed is a history whose operations 0 and 1 have other commands.
func changed(l []api.Event, x, y api.Command) []api.Event {
	l = slices.Clone(l)
	for i := range l {
		switch l[i].Serial {
		case 0:
			l[i].Command = x
		case 1:
			l[i].Command = y
		}
	}
	return l
}

// holdApart expects of a history with one Write or Trim of each of two blocks, both flushed unless they failed, what they may be.
func holdApart(t *testing.T, l []api.Event) {
	t.Helper()
	want := two()
	for _, e := range l {
		if e.Return && e.Result.Err == api.OK && e.Command.Kind != api.Flush {
			want[e.Command.Block] = valueOf(e.Command)
		}
	}
	for block := range want {
		holdBlock(t, two(), l, block, want[block:block+1])
	}
}

// TestChains has Writes and Trims one behind the other, of which some are ahead of the point, and others behind.
func TestChains(t *testing.T) {
	for n := range 7 {
		for ahead := range n + 1 {
			var l []api.Event
			var values []string
			for i := range n {
				x := write(0, text(10-i))
				if i%4 == 2 {
					x = z
				}
				if i == ahead {
					l = append(l, whole(100, f)...)
				}
				l = append(l, whole(i, x)...)
				values = append(values, valueOf(x))
			}
			if ahead == n {
				l = append(l, whole(100, f)...)
			}
			want := append(slices.Clone(values[max(ahead-1, 0):]), text(0))
			if ahead > 0 {
				want = want[:len(want)-1]
			}
			slices.Sort(want)
			t.Run(fmt.Sprint(n, ahead), func(t *testing.T) { holdBlock(t, two(), l, 0, slices.Compact(want)) })
		}
	}
}

// TestCoveredByOneOfMany has many at once, and then one more, which covers those that were answered ahead of it.
func TestCoveredByOneOfMany(t *testing.T) {
	for k := range 6 { // so many are answered ahead of the one more, and the others behind it
		var begin, end []api.Event
		var want []string
		for i := range 5 {
			x := write(0, text(10+i))
			begin = append(begin, call(i, x))
			if i < k {
				begin = append(begin, done(i, x))
			} else {
				end = append(end, done(i, x))
				want = append(want, text(10+i))
			}
		}
		for _, x := range []api.Command{write(0, text(90)), trim(0)} {
			values := append(slices.Clone(want), valueOf(x))
			slices.Sort(values)
			holdBlock(t, two(), join(begin, whole(20, x), end, whole(21, f)), 0, values)
			holdBlock(t, two(), join(begin, whole(20, x), whole(21, f), end), 0, values)
			holdBlock(t, two(), join(begin, whole(20, x), whole(21, f)), 0, values)
			holdBlock(t, two(), join(begin, whole(20, x), []api.Event{call(21, f)}, end, []api.Event{done(21, f)}), 0, values)
		}
	}
}

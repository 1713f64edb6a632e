package model_test

import (
	"math/rand/v2"
	"slices"
	"testing"

	"zoneappend/api"
	"zoneappend/model"
)

// kept are blocks that were returned, and what they were then.
type kept struct{ now, then []string }

// keep keeps blocks.
func keep(l []string) kept { return kept{l, slices.Clone(l)} }

// holdKept expects that blocks that were returned are what they were.
func holdKept(t *testing.T, all []kept) {
	t.Helper()
	for i, k := range all {
		if !slices.Equal(k.now, k.then) {
			t.Fatalf("the blocks %d of %d: %q\nbecame %q", i, len(all), k.then, k.now)
		}
	}
}

// sequence are commands in any order: about one of seven is refused.
func sequence(r *rand.Rand, blocks, n int) []api.Command {
	var l []api.Command
	for i := range n {
		block := r.IntN(blocks)
		switch r.IntN(21) {
		case 0:
			l = append(l, write(block, bytes(15+2*r.IntN(2))))
		case 1:
			l = append(l, of(named[r.IntN(3)], []int{-1, blocks}[r.IntN(2)]))
		case 2:
			l = append(l, api.Command{Kind: strange[r.IntN(len(strange))], Block: block})
		case 3, 4:
			l = append(l, flush())
		case 5, 6, 7:
			l = append(l, trim(block))
		case 8, 9, 10, 11, 12:
			l = append(l, write(block, text(i)))
		default:
			l = append(l, read(block))
		}
	}
	return l
}

// play is what a plain array of blocks becomes, and the results.
func play(blocks []string, l []api.Command) ([]string, []api.Result) {
	var array [api.MaxBlocks]string
	n := copy(array[:], blocks)
	results := make([]api.Result, len(l))
	for i, x := range l {
		if e := wrong(n, x); e != api.OK {
			results[i].Err = e
			continue
		}
		switch x.Kind {
		case 1:
			results[i].Data = array[x.Block]
		case 2:
			array[x.Block] = x.Data
		case 3:
			array[x.Block] = zero
		}
	}
	return array[:n], results
}

// TestWalks has long sequences against a plain array, with one call for all commands, with one for each, and with one for each part.
func TestWalks(t *testing.T) {
	for seed := range uint64(5) {
		for _, n := range []int{1, 2, 3, 8, 127, api.MaxBlocks} {
			r := rand.New(rand.NewPCG(seed, uint64(n)))
			blocks := model.New(n)
			l := sequence(r, n, 3000)
			want, results := play(blocks, l)
			got, s := model.Run(blocks, l)
			if !slices.Equal(got, want) || !slices.Equal(s, results) {
				t.Fatalf("Run with %d blocks: %q, want %q", n, got, want)
			}
			one := keep(blocks)
			all := []kept{one}
			for i, x := range l {
				next, s := model.Apply(one.now, x)
				if s != results[i] {
					t.Fatalf("Apply of %+v to %q: %+v, want %+v", x, one.now, s, results[i])
				}
				one = keep(next)
				all = append(all, one)
			}
			if !slices.Equal(one.now, want) {
				t.Fatalf("Apply with %d blocks: %q, want %q", n, one.now, want)
			}
			holdKept(t, all)
			holdParts(t, blocks, l, want, results)
			count(t, results)
		}
	}
}

// holdParts expects that commands that are applied part by part come to the same.
func holdParts(t *testing.T, blocks []string, l []api.Command, want []string, results []api.Result) {
	t.Helper()
	var all []api.Result
	now := blocks
	for size := 0; len(l) > 0; size++ {
		part := l[:min(size, len(l))]
		l = l[len(part):]
		next, r := model.Run(now, part)
		now, all = next, append(all, r...)
	}
	if !slices.Equal(now, want) || !slices.Equal(all, results) {
		t.Fatalf("Run part by part: %q, want %q", now, want)
	}
}

// count expects that each error, and both kinds of right results, are among results.
func count(t *testing.T, results []api.Result) {
	t.Helper()
	errors, data := map[api.Errno]int{}, 0
	for _, r := range results {
		errors[r.Err]++
		if r.Data != "" {
			data++
		}
	}
	for _, e := range []api.Errno{api.ErrForm, api.ErrRange, api.ErrSize} {
		if errors[e] < 50 {
			t.Errorf("%v", errors)
		}
	}
	if len(errors) != 4 || data < 500 || errors[api.OK]-data < 500 {
		t.Errorf("%v, %d with data", errors, data)
	}
}

// TestWalksByBlock sorts long sequences by their blocks, with the order of those of one block: the blocks and each command's result are
// the same, since commands on different blocks can change places.
func TestWalksByBlock(t *testing.T) {
	type numbered struct {
		x api.Command
		i int
	}
	for _, n := range []int{1, 2, 3, 8, api.MaxBlocks} {
		blocks := texts(n)
		l := sequence(rand.New(rand.NewPCG(17, uint64(n))), n, 2000)
		want, results := model.Run(blocks, l)
		var sorted []numbered
		for i, x := range l {
			sorted = append(sorted, numbered{x, i})
		}
		for _, sign := range []int{1, -1} { // from the first to the last block, and back
			slices.SortStableFunc(sorted, func(a, b numbered) int {
				if a.x.Block == b.x.Block {
					return a.i - b.i
				}
				return sign * (a.x.Block - b.x.Block)
			})
			var other []api.Command
			for _, c := range sorted {
				other = append(other, c.x)
			}
			got, s := model.Run(blocks, other)
			if !slices.Equal(got, want) {
				t.Fatalf("%q, sorted %q", want, got)
			}
			for k, c := range sorted {
				if s[k] != results[c.i] {
					t.Fatalf("%+v: %+v, sorted %+v", c.x, results[c.i], s[k])
				}
			}
		}
	}
}

// TestWalksReadLast looks in long sequences from each Read back for the last Write or Trim of its block that was answered with OK.
func TestWalksReadLast(t *testing.T) {
	for _, n := range []int{1, 2, 3, 8, api.MaxBlocks} {
		blocks := texts(n)
		l := sequence(rand.New(rand.NewPCG(170, uint64(n))), n, 2000)
		_, results := model.Run(blocks, l)
		for i, x := range l {
			if x.Kind != api.Read || results[i].Err != api.OK {
				continue
			}
			want := blocks[x.Block]
			for k := i - 1; k >= 0; k-- {
				if y := l[k]; y.Block == x.Block && results[k].Err == api.OK && (y.Kind == api.Write || y.Kind == api.Trim) {
					want = y.Data
					if y.Kind == api.Trim {
						want = zero
					}
					break
				}
			}
			if results[i].Data != want {
				t.Fatalf("the Read %d of %d: %q, want %q", i, x.Block, results[i].Data, want)
			}
		}
	}
}

// TestManyFromOne makes many blocks of one, and of each of these: none disturbs another one.
func TestManyFromOne(t *testing.T) {
	for _, n := range []int{1, 2, api.MaxBlocks} {
		for _, room := range []int{0, 1, 20} {
			level := []kept{keep(append(make([]string, 0, n+room), texts(n)...))}
			all := slices.Clone(level)
			for turn := range 3 {
				var next []kept
				for _, from := range level {
					for i, x := range []api.Command{write(0, text(turn)), write(n-1, text(-turn)), trim(n / 2), read(0), flush(), {}} {
						applied, _ := model.Apply(from.now, x)
						run, _ := model.Run(from.now, []api.Command{x, write(n-1, text(100+i)), trim(0)})
						next = append(next, keep(applied), keep(run))
					}
				}
				all = append(all, next...)
				level = next
			}
			holdKept(t, all)
		}
	}
}

// TestTwoFromOne makes two lists of one, and goes on with each: both are what was written to them.
func TestTwoFromOne(t *testing.T) {
	for _, x := range []api.Command{read(0), flush(), {}, write(1, text(5)), trim(1)} { // the first ones change nothing
		one := texts(3)
		a, _ := model.Apply(one, x)
		b, _ := model.Apply(one, x)
		was := slices.Clone(a)
		longer, _ := model.Apply(a, write(0, text(10)))
		other, _ := model.Apply(b, write(0, text(20)))
		third, _ := model.Run(b, []api.Command{trim(2), write(0, text(30))})
		if !slices.Equal(longer, with(was, 0, text(10))) || !slices.Equal(other, with(was, 0, text(20))) ||
			!slices.Equal(third, []string{text(30), was[1], zero}) || !slices.Equal(a, was) || !slices.Equal(b, was) || !slices.Equal(one, texts(3)) {
			t.Errorf("%q, %q, %q, %q, %q, %q", longer, other, third, a, b, one)
		}
	}
}

// TestResultsAreNew writes into what was returned, as nobody should: what was given does not change.
func TestResultsAreNew(t *testing.T) {
	for _, x := range []api.Command{read(0), write(1, text(9)), trim(2), flush(), {}, read(3)} {
		for _, room := range []int{0, 1, 5} {
			given := append(make([]string, 0, 3+room), texts(3)...)
			whole := given[:cap(given)]
			was := slices.Clone(whole)
			l := []api.Command{x, x}
			a, _ := model.Apply(given, x)
			b, r := model.Run(given, l)
			c, _ := model.Run(given, nil)
			r[0] = api.Result{Err: api.ErrFull}
			for _, result := range [][]string{a, b, c} {
				for i := range result {
					result[i] = "written"
				}
				_ = append(result, "written")
			}
			if !slices.Equal(whole, was) || !slices.Equal(l, []api.Command{x, x}) {
				t.Fatalf("%q\nbecame %q", was, whole)
			}
		}
	}
}

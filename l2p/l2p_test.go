package l2p_test

import (
	"math"
	"slices"
	"testing"

	"zoneappend/api"
	"zoneappend/l2p"
)

// made is a map that New has made.
func made(t *testing.T, shards int) api.Map {
	t.Helper()
	m, e := l2p.New(shards)
	if e != api.OK || len(m.Shards) != shards {
		t.Fatalf("New(%d): %v, %d", shards, m, e)
	}
	return m
}

// TestExample has the chapter's example, and what README.md does with a map of three shards.
func TestExample(t *testing.T) {
	m := made(t, 3)
	holdStripe(t, m, 7, 1)
	seven := api.Entry{Block: 7, Kind: data, Version: 1, Place: place(2, 0)}
	five := api.Entry{Block: 5, Kind: trim, Version: 2, Place: place(2, 1)}
	holdInstall(t, m, seven, changed(m, 1, seven), none, true)
	m = changed(m, 1, seven)
	holdInstall(t, m, five, changed(m, 2, five), none, true)
	m = changed(m, 2, five)
	holdLookup(t, m, 7, seven, true)
	holdAll(t, m, []api.Entry{five, seven})
	copied := seven
	copied.Place, copied.Move = place(6, 0), 1
	holdRelocate(t, m, move{7, 1, seven.Place, place(6, 0), 1}, changed(m, 1, copied), true)
	holdDrop(t, changed(m, 1, copied), 2, 3, spread(3, copied), []api.Entry{five})
}

func TestNew(t *testing.T) {
	for n := 1; n <= api.MaxShards; n++ {
		m := made(t, n)
		if !same(m, spread(n)) {
			t.Errorf("New(%d): %v", n, m)
		}
		holdValid(t, m, true)
		holdAll(t, m, nil)
		for block := range 3 * n {
			holdStripe(t, m, block, block%n)
			holdLookup(t, m, block, none, false)
			holdDrop(t, m, block%n, math.MaxInt, m, nil)
		}
	}
	for _, n := range slices.Concat([]int{-1, 0, 9, 10, 16, 256, 257, 1<<32 + 1}, above, below) {
		if m, e := l2p.New(n); e != api.ErrRange || len(m.Shards) != 0 {
			t.Errorf("New(%d): %v, %d", n, m, e)
		}
	}
}

// TestNewAgain installs into one new map: another one has nothing of it.
func TestNewAgain(t *testing.T) {
	m, other := made(t, 4), made(t, 4)
	m, _, _ = l2p.Install(m, entry(data, 2, 1))
	holdAll(t, m, []api.Entry{entry(data, 2, 1)})
	holdAll(t, other, nil)
	holdAll(t, made(t, 4), nil)
}

func TestStripe(t *testing.T) {
	for _, n := range []int{1, 2, 3, 4, 5, 6, 7, 8} {
		for _, m := range valid(n) {
			for i := range n {
				holdStripe(t, m, i, i)
				holdStripe(t, m, n+i, i)
				holdStripe(t, m, 1000*n+i, i)
				holdStripe(t, m, (1<<40)*n+i, i)
			}
			holdStripe(t, m, math.MaxInt/n*n, 0)
			holdStripe(t, m, math.MaxInt/n*n-1, n-1)
			holdStripe(t, m, math.MaxInt, math.MaxInt%n)
			for _, block := range slices.Concat([]int{-1, -n, -n - 1, 1 - n - n, -3 * n}, below) {
				holdStripe(t, m, block, -1)
			}
		}
	}
	holdStripe(t, spread(8), math.MaxInt, 7)
	holdStripe(t, spread(3), math.MaxInt, 1)
	holdStripe(t, spread(7), math.MaxInt, 0)
}

// TestStripeOfOthers has maps that are not valid: Stripe only asks how many shards there are.
func TestStripeOfOthers(t *testing.T) {
	for _, block := range slices.Concat([]int{-1, 0, 1, 7, 8, 9}, above, below) {
		holdStripe(t, api.Map{}, block, -1)
		holdStripe(t, api.Map{Shards: [][]api.Entry{}}, block, -1)
	}
	for _, n := range []int{9, 16, 1000} {
		m := spread(n)
		holdStripe(t, m, n-1, n-1)
		holdStripe(t, m, n, 0)
		holdStripe(t, m, 3*n+7, 7)
		holdStripe(t, m, -1, -1)
	}
	wrong := changed(spread(3), 0, entry(data, 1, 1), none)
	for block, want := range []int{0, 1, 2, 0, 1} {
		holdStripe(t, wrong, block, want)
	}
	holdStripe(t, wrong, -3, -1)
}

func TestLookup(t *testing.T) {
	for _, n := range counts() {
		for _, m := range valid(n) {
			for i, l := range m.Shards {
				for _, e := range l {
					holdLookup(t, m, e.Block, e, true)
					holdLookup(t, m, e.Block-n, none, false) // of the same shard
					holdLookup(t, m, e.Block+n, none, false)
				}
				holdLookup(t, m, i, none, false)
				holdLookup(t, m, 1000*n+i, none, false)
			}
			for _, block := range slices.Concat([]int{-1, -n, -n - 1}, above, below) {
				holdLookup(t, m, block, none, false)
			}
		}
	}
}

// TestGreatestBlocks has blocks between which no difference fits into an int.
func TestGreatestBlocks(t *testing.T) {
	for n := 1; n <= api.MaxShards; n++ {
		l := []api.Entry{entry(data, 0, 4), entry(data, 1, 4), entry(trim, 1<<62, 5), entry(data, math.MaxInt-1, 9), entry(trim, math.MaxInt, 6)}
		m := spread(n, l...)
		holdValid(t, m, true)
		holdAll(t, m, l)
		for i, e := range l {
			holdLookup(t, m, e.Block, e, true)
			others := slices.Delete(slices.Clone(l), i, i+1)
			holdInstall(t, spread(n, others...), e, m, none, true)
			r := moving(e)
			want := slices.Clone(l)
			want[i] = r.moved(e)
			holdRelocate(t, m, r, spread(n, want...), true)
		}
		for stripe := range n {
			kept, dropped := expectDrop(m, stripe, 7)
			holdDrop(t, m, stripe, 7, kept, dropped)
		}
	}
}

// TestInstallOfNewBlocks has blocks that are not there yet, at each place of each shard.
func TestInstallOfNewBlocks(t *testing.T) {
	for _, n := range counts() {
		for _, rounds := range []int{0, 1, 2, 4} {
			m := wide(n, rounds)
			for i, l := range m.Shards {
				for at := range rounds + 1 {
					for _, version := range []int{1, 100, 1<<40 - 1, 1 << 40} {
						e := api.Entry{Block: 2*n*at + i, Kind: 1 + at%2, Version: version, Move: 255 * (at % 2), Place: place(0, at)}
						holdInstall(t, m, e, changed(m, i, slices.Insert(slices.Clone(l), at, e)...), none, true)
					}
				}
			}
		}
	}
}

// TestInstallOverOthers has blocks that are there, with versions that are less, equal and greater.
func TestInstallOverOthers(t *testing.T) {
	for _, n := range counts() {
		m := wide(n, 3)
		for _, i := range ends(n) {
			for at, old := range m.Shards[i] {
				for _, kind := range []int{data, trim} {
					for _, step := range []int{-1 << 40, -50, -2, -1, 0, 1, 2, 50, 1 << 39} {
						e := api.Entry{Block: old.Block, Kind: kind, Version: old.Version + step, Move: 200, Place: place(31, 63)}
						switch {
						case e.Version < 1:
							holdInstall(t, m, e, m, none, false)
						case step > 0:
							holdInstall(t, m, e, replaced(m, i, at, e), old, true)
						default:
							holdInstall(t, m, e, m, old, false)
						}
					}
				}
				holdInstall(t, m, old, m, old, false)
				e := old
				e.Version++ // at the same place
				holdInstall(t, m, e, replaced(m, i, at, e), old, true)
			}
		}
	}
}

// TestInstallOfWrongEntries has entries that cannot be in a shard alone: newer ones of blocks that are there, and ones
// of blocks that are not.
func TestInstallOfWrongEntries(t *testing.T) {
	for _, n := range counts() {
		for _, m := range valid(n) {
			holdInstall(t, m, none, m, none, false)
			for _, f := range fields() {
				for _, wrong := range f.wrong {
					for _, i := range ends(n) {
						for _, block := range []int{i, n + i, 2*n + i} {
							e := entry(data, block, 1<<40)
							f.set(&e, wrong)
							holdInstall(t, m, e, m, none, false)
						}
					}
				}
			}
		}
	}
}

// TestInstallOfLimits has each number of an entry at its limits.
func TestInstallOfLimits(t *testing.T) {
	for n := 1; n <= api.MaxShards; n++ {
		for _, f := range fields() {
			for _, value := range f.values {
				e, at := entry(data, 12, 30), entry(data, 3, 7)
				f.set(&e, value)
				holdInstall(t, spread(n), e, spread(n, e), none, true)
				holdInstall(t, spread(n, at), e, spread(n, at, e), none, true)
			}
		}
	}
}

func TestRelocate(t *testing.T) {
	for _, n := range counts() {
		for _, m := range valid(n) {
			for i, l := range m.Shards {
				for at, e := range l {
					for k, to := range []api.Place{place(7, 0), place(0, 7), place(0, 0), e.Place, l[0].Place, place(math.MaxInt, 0), place(0, math.MaxInt)} {
						r := move{e.Block, e.Version, e.Place, to, []int{0, 1, 128, 254, 255}[k%5]}
						holdRelocate(t, m, r, replaced(m, i, at, r.moved(e)), true)
					}
				}
			}
		}
	}
}

// TestRelocateOfOthers has one thing of a move different from what the entry has.
func TestRelocateOfOthers(t *testing.T) {
	for _, n := range counts() {
		m := wide(n, 2)
		for _, i := range ends(n) {
			for _, e := range m.Shards[i] {
				for _, d := range slices.Concat([]int{-1, 1, n, -n, 1 << 32}, above, below) {
					for _, change := range []func(r *move){
						func(r *move) { r.version += d },
						func(r *move) { r.from.Zone += d },
						func(r *move) { r.from.Offset += d },
					} {
						r := moving(e)
						change(&r)
						holdRelocate(t, m, r, m, false)
					}
				}
				for _, other := range long(n, 2) {
					if other == e {
						continue
					}
					r := moving(e)
					r.block = other.Block // which is there
					holdRelocate(t, m, r, m, false)
					r = moving(e)
					r.from = other.Place
					holdRelocate(t, m, r, m, false)
				}
				for _, block := range slices.Concat([]int{e.Block + n, e.Block + 100*n, e.Block - 100*n, -1, -n}, above, below) {
					r := moving(e)
					r.block = block
					holdRelocate(t, m, r, m, false)
				}
			}
		}
		for _, block := range slices.Concat([]int{0, n, -n}, above, below) {
			holdRelocate(t, m, move{block: block}, m, false)
			holdRelocate(t, spread(n), move{block: block}, spread(n), false)
		}
	}
}

// TestRelocateToNowhere has places and Moves that no entry has.
func TestRelocateToNowhere(t *testing.T) {
	for _, n := range counts() {
		m := wide(n, 3)
		for _, i := range ends(n) {
			for _, e := range m.Shards[i] {
				for _, wrong := range append([]int{-1}, below...) {
					for _, to := range []api.Place{place(wrong, 0), place(0, wrong), place(wrong, wrong), place(math.MaxInt, wrong)} {
						r := moving(e)
						r.to = to
						holdRelocate(t, m, r, m, false)
					}
					r := moving(e)
					r.move = wrong
					holdRelocate(t, m, r, m, false)
				}
				for _, wrong := range append([]int{256, 257, 511, 1 << 32}, above...) {
					r := moving(e)
					r.move = wrong
					holdRelocate(t, m, r, m, false)
				}
			}
		}
	}
}

// TestRelocateAgain has a move of an entry that was moved: it is no longer where it was.
func TestRelocateAgain(t *testing.T) {
	m := wide(3, 3)
	e := m.Shards[1][2]
	r := moving(e)
	far, ok := r.relocate(m)
	if !ok {
		t.Fatal("not moved")
	}
	holdRelocate(t, far, r, far, false)
	holdRelocate(t, far, move{r.block, r.version, r.to, r.from, 0}, m, true)
	holdInstall(t, far, e, far, r.moved(e), false)
}

// TestDrop drops tombstones of one shard, while others have some, too.
func TestDrop(t *testing.T) {
	for _, n := range counts() {
		var l []api.Entry
		for i := range n {
			l = append(l, entry(trim, i, 5), entry(data, n+i, 3), entry(trim, 2*n+i, 9), entry(data, 3*n+i, 8), entry(trim, 4*n+i, 7))
		}
		m := spread(n, l...)
		for i, s := range m.Shards {
			a, b, c, d, e := s[0], s[1], s[2], s[3], s[4]
			for _, x := range []struct {
				cuts          []int
				kept, dropped []api.Entry
			}{
				{append([]int{-1, 0, 1, 2, 3, 4, 5}, below...), s, nil},
				{[]int{6, 7}, []api.Entry{b, c, d, e}, []api.Entry{a}},
				{[]int{8, 9}, []api.Entry{b, c, d}, []api.Entry{a, e}},
				{append([]int{10, 11, 255, 256, 1 << 32, 1 << 40}, above...), []api.Entry{b, d}, []api.Entry{a, c, e}},
			} {
				for _, cut := range x.cuts {
					holdDrop(t, m, i, cut, changed(m, i, x.kept...), x.dropped)
				}
			}
		}
		for _, stripe := range slices.Concat([]int{-1, -n, n, n + 1, 2 * n, 256, 1 << 32}, above, below) {
			for _, cut := range slices.Concat([]int{-1, 0, 1, 5, 6, 10}, above, below) {
				holdDrop(t, m, stripe, cut, m, nil)
			}
		}
	}
}

// TestDropOfOneKind has shards with no tombstones, with nothing but tombstones, and with nothing at all.
func TestDropOfOneKind(t *testing.T) {
	for _, n := range counts() {
		for _, i := range ends(n) {
			first, last := entry(trim, i, 1), entry(trim, math.MaxInt-7-(math.MaxInt-7-i)%n, 1<<40)
			m := spread(n, first, last)
			for _, cut := range append([]int{-1, 0, 1}, below...) {
				holdDrop(t, m, i, cut, m, nil)
			}
			holdDrop(t, m, i, 2, spread(n, last), []api.Entry{first})
			holdDrop(t, m, i, 1<<40, spread(n, last), []api.Entry{first})
			holdDrop(t, m, i, 1<<40+1, spread(n), []api.Entry{first, last})
			first.Kind, last.Kind = data, data
			m = spread(n, first, last)
			for _, cut := range slices.Concat([]int{0, 1, 2, 1 << 40}, above, below) {
				holdDrop(t, m, i, cut, m, nil)
				holdDrop(t, spread(n), i, cut, spread(n), nil)
			}
		}
	}
}

func TestAll(t *testing.T) {
	for n := 1; n <= api.MaxShards; n++ {
		holdAll(t, spread(n), nil)
		for rounds := range 6 {
			holdAll(t, wide(n, rounds), long(n, rounds))
			for i, l := range wide(n, rounds).Shards {
				holdAll(t, changed(spread(n), i, l...), l)
			}
		}
		var l []api.Entry // with blocks that do not ascend from shard to shard
		for _, block := range []int{3, 8, 9, 20, 21, 22, 23, 71, 500, 1 << 40} {
			l = append(l, entry(trim-block%2, block, 2000-block&1023))
		}
		holdAll(t, spread(n, l...), l)
	}
	holdAll(t, spread(2, entry(data, 9, 1), entry(data, 2, 2), entry(data, 4, 3)), []api.Entry{entry(data, 2, 2), entry(data, 4, 3), entry(data, 9, 1)})
}

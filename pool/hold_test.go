package pool_test

import (
	"math"
	"slices"
	"strconv"
	"testing"

	"zoneappend/api"
	"zoneappend/pool"
)

// far are numbers that no zone has. Some of them are one in their lowest bits.
var far = []int{
	-3, -8, -32, -255, -256, 8 - 256, -1 << 32, 3 - 1<<32, 8 - 1<<32, -1 << 62, math.MinInt, math.MinInt + 1, math.MinInt + 8,
	33, 64, 255, 256, 256 + 8, 1 << 31, 1<<32 - 1, 1 << 32, 1<<32 + 3, 1<<32 + 8, 1 << 40, 1 << 62, 1<<62 + 8, math.MaxInt - 1, math.MaxInt,
}

// shape is a configuration with its first and its last data zone.
type shape struct {
	c           api.Config
	first, last int
}

// config is a configuration with two commands for each queue, and three shards.
func config(zones, size, blocks, queues int) api.Config {
	return api.Config{Zones: zones, Size: size, Blocks: blocks, Queues: queues, Depth: 2, Shards: 3}
}

// small is a shape with as few data zones as there can be.
var small = shape{config(8, 3, 1, 2), 2, 7}

// shapes are possible configurations, with as few and as many data zones as there can be among them.
var shapes = []shape{
	small,
	{config(12, 8, 6, 1), 2, 11},
	{config(20, 3, 8, 2), 8, 19},
	{config(32, 3, 37, 4), 26, 31},
	{config(32, 64, 128, 4), 6, 31},
	{config(32, 64, 1, 1), 2, 31},
	{api.Config{Zones: 16, Size: 5, Blocks: 14, Queues: 3, Depth: 8, Shards: 8}, 8, 15},
	{api.Config{Zones: 9, Size: 9, Blocks: 7, Queues: 1, Depth: 1, Shards: 1}, 2, 8},
}

// zones are the numbers of some zones, from the first to the last one.
func zones(first, last int) []int {
	var l []int
	for zone := first; zone <= last; zone++ {
		l = append(l, zone)
	}
	return l
}

// all are the data zones of a shape.
func (s shape) all() []int { return zones(s.first, s.last) }

// strangers are numbers that no data zone of a shape has: those of the slots, -1 and -2, and what is behind the last zone.
func (s shape) strangers() []int {
	return slices.Concat(far, zones(-2, s.first-1), zones(s.last+1, s.last+3))
}

// most are the last n data zones of a shape.
func (s shape) most(n int) []int { return zones(s.last-n+1, s.last) }

// except are zones without some of them.
func except(l []int, gone ...int) []int {
	return slices.DeleteFunc(slices.Clone(l), func(zone int) bool { return slices.Contains(gone, zone) })
}

// ends are the indices of the first, a middle and the last element of a list of n.
func ends(n int) []int {
	if n <= 0 {
		return nil
	}
	return slices.Compact([]int{0, n / 2, n - 1})
}

// of is a pool of these free zones with the lanes of the host and of the cleaner.
func of(host, cleaner int, free ...int) api.Pool {
	return api.Pool{Free: free, Host: host, Cleaner: cleaner}
}

// copied is a pool of its own that is equal.
func copied(p api.Pool) api.Pool { return of(p.Host, p.Cleaner, slices.Clone(p.Free)...) }

// same tells whether two pools are equal.
func same(a, b api.Pool) bool {
	return a.Host == b.Host && a.Cleaner == b.Cleaner && slices.Equal(a.Free, b.Free)
}

// call is a call that makes a pool of a pool.
type call struct {
	name string
	do   func(p api.Pool, c api.Config) (api.Pool, bool)
}

func put(zone int) call {
	return call{"Put of " + strconv.Itoa(zone), func(p api.Pool, c api.Config) (api.Pool, bool) { return pool.Put(p, c, zone) }}
}

func leave(host bool) call {
	return call{"Leave " + strconv.FormatBool(host), func(p api.Pool, c api.Config) (api.Pool, bool) { return pool.Leave(p, c, host) }}
}

var (
	host         = call{"Host", pool.Host}
	cleaner      = call{"Cleaner", pool.Cleaner}
	leaveHost    = leave(true)
	leaveCleaner = leave(false)
	lanes        = []call{host, cleaner, leaveHost, leaveCleaner}
)

// calls are the calls of both lanes, and Put of some zones.
func calls(zones ...int) []call {
	l := slices.Clone(lanes)
	for _, zone := range zones {
		l = append(l, put(zone))
	}
	return l
}

// holdStay expects that a pool, and all that is before and behind its list in memory, is behind a call as it was. The list has
// room behind its end.
func holdStay(t *testing.T, p api.Pool, use func(p api.Pool)) {
	t.Helper()
	whole := slices.Concat([]int{90}, p.Free, []int{91, 3, 92})
	before := slices.Clone(whole)
	given := of(p.Host, p.Cleaner, whole[1:1+len(p.Free)]...)
	use(given)
	if !slices.Equal(whole, before) || !same(given, p) {
		t.Fatalf("%v\nbecame %v", before, whole)
	}
	if p.Free == nil {
		use(p)
	}
}

// holdCall expects what a call returns.
func holdCall(t *testing.T, p api.Pool, c api.Config, x call, want api.Pool, done bool) {
	t.Helper()
	holdStay(t, p, func(p api.Pool) {
		t.Helper()
		if got, ok := x.do(p, c); !same(got, want) || ok != done {
			t.Fatalf("%s, %+v, of %+v\n= %+v, %t\nwant %+v, %t", x.name, p, c, got, ok, want, done)
		}
	})
}

// holdNot expects that calls return the pool as it is and false.
func holdNot(t *testing.T, p api.Pool, c api.Config, l ...call) {
	t.Helper()
	for _, x := range l {
		holdCall(t, p, c, x, p, false)
	}
}

// holdValid expects what Valid says of a pool.
func holdValid(t *testing.T, p api.Pool, c api.Config, want bool) {
	t.Helper()
	holdStay(t, p, func(p api.Pool) {
		t.Helper()
		if pool.Valid(p, c) != want {
			t.Fatalf("Valid of %+v, %+v: %t, want %t", p, c, !want, want)
		}
	})
}

// refuse expects that a pool is not valid: every call returns it as it is.
func refuse(t *testing.T, p api.Pool, c api.Config) {
	t.Helper()
	holdValid(t, p, c, false)
	holdNot(t, p, c, calls(-1, 0, 2, 3, 8, 11, 18, 26, 30, 31, 32, p.Host, p.Cleaner, math.MinInt, math.MaxInt)...)
}

// Package signatures holds the layers to the calls that the chapters list: it compiles only if each has its exact signature.
package signatures

import (
	"zoneappend/api"
	"zoneappend/audit"
	"zoneappend/barrier"
	"zoneappend/blockdev"
	"zoneappend/checkpoint"
	"zoneappend/cleaner"
	"zoneappend/codec"
	"zoneappend/command"
	"zoneappend/core"
	"zoneappend/crc"
	"zoneappend/durable"
	"zoneappend/epoch"
	"zoneappend/history"
	"zoneappend/l2p"
	"zoneappend/lane"
	"zoneappend/layout"
	"zoneappend/linear"
	"zoneappend/live"
	"zoneappend/locks"
	"zoneappend/machine"
	"zoneappend/media"
	"zoneappend/model"
	"zoneappend/mount"
	"zoneappend/pool"
	"zoneappend/reader"
	"zoneappend/rebuild"
	"zoneappend/reclaimer"
	"zoneappend/record"
	"zoneappend/ring"
	"zoneappend/saver"
	"zoneappend/scan"
	"zoneappend/schedule"
	"zoneappend/shard"
	"zoneappend/summary"
	"zoneappend/text"
	"zoneappend/victim"
	"zoneappend/writer"
	"zoneappend/zns"
)

// Chapter doc/01-crc.md.
var (
	_ func(sum uint32, b string) uint32 = crc.Add
	_ func(b string) uint32             = crc.Sum
)

// Chapter doc/02-codec.md.
var (
	_ func(n, size int) (string, api.Errno)         = codec.Put
	_ func(b string, at, size int) (int, api.Errno) = codec.Get
	_ func(b string, n int) string                  = codec.Pad
)

// Chapter doc/03-record.md.
var (
	_ func(r api.Record) api.Errno                = record.Check
	_ func(r api.Record) (string, api.Errno)      = record.Encode
	_ func(sector string) (api.Record, api.Errno) = record.Decode
	_ func(r api.Record) (api.Record, bool)       = record.Copy
)

// Chapter doc/04-summary.md.
var (
	_ func(sectors []string) (api.Record, api.Errno) = summary.Make
	_ func(r api.Record, sectors []string) bool      = summary.Verify
)

// Chapter doc/05-zns.md.
var (
	_ func(d api.Device) api.Errno                                             = zns.Check
	_ func(zones, size, open, active int) (api.Device, api.Errno)              = zns.New
	_ func(d api.Device, zone int, sector string) (api.Device, int, api.Errno) = zns.Append
	_ func(d api.Device, zone, offset int) (string, api.Errno)                 = zns.Read
	_ func(d api.Device, zone int) (api.Device, api.Errno)                     = zns.Reset
	_ func(d api.Device, zone int) (api.Device, api.Errno)                     = zns.Finish
	_ func(d api.Device, zone int) (api.Device, api.Errno)                     = zns.Open
	_ func(d api.Device, zone int) (api.Device, api.Errno)                     = zns.Close
	_ func(d api.Device) (open, active int)                                    = zns.Counts
)

// Chapter doc/06-media.md.
var (
	_ func(d api.Device) (api.Device, api.Errno)             = media.Sync
	_ func(d api.Device, keep []int) (api.Device, api.Errno) = media.Crash
	_ func(d api.Device) []int                               = media.Volatile
)

// Chapter doc/07-layout.md.
var (
	_ func(c api.Config) api.Errno               = layout.Check
	_ func(c api.Config) (api.Layout, api.Errno) = layout.Of
	_ func(c api.Config, slot int) []int         = layout.Slots
	_ func(c api.Config, zone int) bool          = layout.IsData
)

// Chapter doc/08-shard.md.
var (
	_ func(l []api.Entry) bool                                                                            = shard.Valid
	_ func(l []api.Entry, block int) (api.Entry, bool)                                                    = shard.Find
	_ func(l []api.Entry, e api.Entry) ([]api.Entry, api.Entry, bool)                                     = shard.Install
	_ func(l []api.Entry, block, version int, from api.Place, to api.Place, move int) ([]api.Entry, bool) = shard.Relocate
	_ func(l []api.Entry, cut int) ([]api.Entry, []api.Entry)                                             = shard.Drop
)

// Chapter doc/09-l2p.md.
var (
	_ func(shards int) (api.Map, api.Errno)                                             = l2p.New
	_ func(m api.Map) bool                                                              = l2p.Valid
	_ func(m api.Map, block int) int                                                    = l2p.Stripe
	_ func(m api.Map, block int) (api.Entry, bool)                                      = l2p.Lookup
	_ func(m api.Map, e api.Entry) (api.Map, api.Entry, bool)                           = l2p.Install
	_ func(m api.Map, block, version int, from, to api.Place, move int) (api.Map, bool) = l2p.Relocate
	_ func(m api.Map, stripe, cut int) (api.Map, []api.Entry)                           = l2p.Drop
	_ func(m api.Map) []api.Entry                                                       = l2p.All
)

// Chapter doc/10-live.md.
var (
	_ func(zones int) (api.Counts, api.Errno)                                    = live.New
	_ func(c api.Counts) bool                                                    = live.Valid
	_ func(c api.Counts, zone int) (api.Counts, bool)                            = live.Begin
	_ func(c api.Counts, zone int) (api.Counts, bool)                            = live.End
	_ func(c api.Counts, old, fresh api.Entry, had, has bool) (api.Counts, bool) = live.Change
	_ func(c api.Counts, zone int) (api.Counts, bool)                            = live.Clear
	_ func(zones int, l []api.Entry) (api.Counts, bool)                          = live.Of
)

// Chapter doc/11-locks.md.
var (
	_ func(stripes int) (api.Locks, api.Errno)                = locks.New
	_ func(l api.Locks) bool                                  = locks.Valid
	_ func(l api.Locks, stripe int) bool                      = locks.Free
	_ func(l api.Locks, stripe, thread int) (api.Locks, bool) = locks.Take
	_ func(l api.Locks, stripe, thread int) (api.Locks, bool) = locks.Give
	_ func(l api.Locks, thread int) []int                     = locks.Held
)

// Chapter doc/12-epoch.md.
var (
	_ func(slots int) (api.Epochs, api.Errno)         = epoch.New
	_ func(e api.Epochs) bool                         = epoch.Valid
	_ func(e api.Epochs, slot int) (api.Epochs, bool) = epoch.Pin
	_ func(e api.Epochs, slot int) (api.Epochs, bool) = epoch.Unpin
	_ func(e api.Epochs, zone int) (api.Epochs, bool) = epoch.Retire
	_ func(e api.Epochs) (api.Epochs, bool)           = epoch.Advance
	_ func(e api.Epochs) (int, bool)                  = epoch.Ready
	_ func(e api.Epochs, zone int) (api.Epochs, bool) = epoch.Forget
)

// Chapter doc/13-pool.md.
var (
	_ func(p api.Pool, c api.Config) bool                        = pool.Valid
	_ func(p api.Pool, c api.Config, zone int) (api.Pool, bool)  = pool.Put
	_ func(p api.Pool, c api.Config) (api.Pool, bool)            = pool.Host
	_ func(p api.Pool, c api.Config) (api.Pool, bool)            = pool.Cleaner
	_ func(p api.Pool, c api.Config, host bool) (api.Pool, bool) = pool.Leave
)

// Chapter doc/14-victim.md.
var (
	_ func(d api.Device, zone int) int = victim.Used
	_ func(s api.State, zone int) bool = victim.Can
	_ func(s api.State) (int, bool)    = victim.Choose
	_ func(s api.State) int            = victim.Dead
)

// Chapter doc/15-command.md.
var (
	_ func(c api.Config, x api.Command) api.Errno = command.Check
	_ func() string                               = command.Zero
	_ func(x api.Command) string                  = command.Kind
)

// Chapter doc/16-ring.md.
var (
	_ func(depth int) (api.Ring, api.Errno)                 = ring.New
	_ func(r api.Ring) bool                                 = ring.Valid
	_ func(r api.Ring, x api.Request) (api.Ring, api.Errno) = ring.Submit
	_ func(r api.Ring) (api.Ring, api.Request, bool)        = ring.Take
)

// Chapter doc/17-model.md.
var (
	_ func(blocks int) []string                                       = model.New
	_ func(blocks []string, x api.Command) ([]string, api.Result)     = model.Apply
	_ func(blocks []string, l []api.Command) ([]string, []api.Result) = model.Run
)

// Chapter doc/18-history.md.
var (
	_ func(blocks int, l []api.Event) api.Errno  = history.Check
	_ func(l []api.Event) []api.Event            = history.Operations
	_ func(l []api.Event, a, b int) bool         = history.Before
	_ func(l []api.Event) []int                  = history.Pending
	_ func(l []api.Event, block int) []api.Event = history.Restrict
)

// Chapter doc/19-linear.md.
var (
	_ func(blocks []string, l []api.Event, order []int) api.Errno = linear.Check
	_ func(value string, l []api.Event) ([]int, bool)             = linear.Block
	_ func(blocks []string, l []api.Event) ([]int, bool)          = linear.Find
	_ func(value string, l []api.Event) []string                  = linear.Values
)

// Chapter doc/20-durable.md.
var (
	_ func(blocks []string, l []api.Event, block int) []string       = durable.Allowed
	_ func(blocks []string, l []api.Event, found []string) api.Errno = durable.Check
)

// Chapter doc/21-checkpoint.md.
var (
	_ func(b api.Base) api.Errno                                       = checkpoint.Check
	_ func(b api.Base) ([]api.Record, api.Errno)                       = checkpoint.Encode
	_ func(l []api.Record) (api.Base, api.Errno)                       = checkpoint.Decode
	_ func(c api.Config, d api.Device, slot int) (api.Base, api.Errno) = checkpoint.Read
	_ func(c api.Config, d api.Device) (api.Base, int)                 = checkpoint.Newest
)

// Chapter doc/22-scan.md.
var (
	_ func(d api.Device, zone int) []api.Found     = scan.Zone
	_ func(c api.Config, d api.Device) []api.Found = scan.All
	_ func(l []api.Found) int                      = scan.Greatest
	_ func(l []api.Found) bool                     = scan.Agree
)

// Chapter doc/23-rebuild.md.
var (
	_ func(b api.Base, f api.Found) bool                           = rebuild.Counts
	_ func(a, b api.Found) bool                                    = rebuild.Better
	_ func(b api.Base, l []api.Found, block int) (api.Found, bool) = rebuild.Best
	_ func(c api.Config, d api.Device) (api.Image, api.Errno)      = rebuild.Build
)

// Chapter doc/24-core.md.
var (
	_ func(c api.Config) (api.State, api.Errno)                          = core.New
	_ func(s api.State) bool                                             = core.Valid
	_ func(s api.State, queue int, x api.Command) (api.State, api.Errno) = core.Submit
	_ func(s api.State, queue int) (api.State, bool)                     = core.Begin
	_ func(s api.State, queue int, r api.Result) (api.State, bool)       = core.Answer
	_ func(s api.State) []int                                            = core.Open
	_ func(s api.State) int                                              = core.Cut
	_ func(s api.State) bool                                             = core.Droppable
	_ func(s api.State) bool                                             = core.Hope
)

// Chapter doc/25-lane.md.
var (
	_ func(s api.State, host bool) bool                                       = lane.Room
	_ func(s api.State, host bool) (api.State, api.Errno)                     = lane.Prepare
	_ func(s api.State, host bool, r api.Record) (api.State, api.Place, bool) = lane.Append
)

// Chapter doc/26-reader.md.
var (
	_ func(s api.State, queue int) (api.State, api.Errno) = reader.Step
)

// Chapter doc/27-writer.md.
var (
	_ func(s api.State, queue int) (api.State, api.Errno) = writer.Step
	_ func(s api.State, queue int) bool                   = writer.Blocked
)

// Chapter doc/28-barrier.md.
var (
	_ func(s api.State, queue int) (api.State, api.Errno) = barrier.Step
	_ func(s api.State, queue int) bool                   = barrier.Blocked
)

// Chapter doc/29-cleaner.md.
var (
	_ func(s api.State) (api.State, api.Errno) = cleaner.Step
	_ func(s api.State) bool                   = cleaner.Blocked
)

// Chapter doc/30-reclaimer.md.
var (
	_ func(s api.State) (api.State, api.Errno) = reclaimer.Step
	_ func(s api.State) bool                   = reclaimer.Blocked
)

// Chapter doc/31-saver.md.
var (
	_ func(s api.State) (api.State, api.Errno) = saver.Step
	_ func(s api.State) bool                   = saver.Blocked
)

// Chapter doc/32-mount.md.
var (
	_ func(c api.Config, d api.Device) (api.State, api.Errno) = mount.Open
	_ func(s api.State, keep []int) (api.State, api.Errno)    = mount.Reopen
	_ func(d api.Device, zone int) bool                       = mount.Clean
)

// Chapter doc/33-machine.md.
var (
	_ func(c api.Config) int                               = machine.Threads
	_ func(s api.State, thread int) bool                   = machine.Runnable
	_ func(s api.State) []int                              = machine.Ready
	_ func(s api.State, thread int) (api.State, api.Errno) = machine.Step
)

// Chapter doc/34-schedule.md.
var (
	_ func(s api.State, picks []int) api.State        = schedule.Follow
	_ func(threads int, picks []int, k int) bool      = schedule.Fair
	_ func(s api.State) (api.State, int)              = schedule.Round
	_ func(s api.State, rounds int) (api.State, bool) = schedule.Drain
	_ func(c api.Config) int                          = schedule.Bound
)

// Chapter doc/35-blockdev.md.
var (
	_ func(s api.State) []string                                                 = blockdev.Contents
	_ func(s api.State, a api.Action) (api.State, api.Errno)                     = blockdev.Act
	_ func(c api.Config, script []api.Action) ([]api.Life, api.State, api.Errno) = blockdev.Play
)

// Chapter doc/36-audit.md.
var (
	_ func(s api.State) []api.Violation = audit.Check
)

// Chapter doc/37-text.md.
var (
	_ func(a api.Action) string                                 = text.Line
	_ func(s string) (api.Action, api.Errno)                    = text.Read
	_ func(s string) (api.Config, []api.Action, int, api.Errno) = text.Parse
	_ func(c api.Config, l []api.Action) (string, api.Errno)    = text.Format
	_ func(l []api.Life) string                                 = text.Report
)

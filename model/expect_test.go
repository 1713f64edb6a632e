package model_test

import (
	"slices"

	"zoneappend/api"
)

// What the chapter says, read once more, without the layers below: a device is a function from the numbers of blocks to what they are,
// and a command that changes one makes a new function of it.

// device is what each block of a device is.
type device struct {
	blocks int
	at     func(i int) string
}

// view is the device with these blocks.
func view(blocks []string) device {
	return device{len(blocks), func(i int) string { return blocks[i] }}
}

// list is the blocks of a device.
func (d device) list() []string {
	var l []string
	for i := range d.blocks {
		l = append(l, d.at(i))
	}
	return l
}

// put is the device in which one block is another one.
func (d device) put(block int, data string) device {
	return device{d.blocks, func(i int) string {
		if i == block {
			return data
		}
		return d.at(i)
	}}
}

// wrong is the error of a command: the first one of those that apply.
func wrong(blocks int, x api.Command) api.Errno {
	needs := map[int]int{1: 0, 2: 16, 3: 0, 4: 0} // bytes of data, by kind
	n, there := needs[x.Kind]
	inside := x.Block >= 0 && x.Block <= blocks-1
	if x.Kind == 4 {
		inside = x.Block == 0
	}
	for _, c := range []struct {
		right bool
		e     api.Errno
	}{{there, api.ErrForm}, {inside, api.ErrRange}, {len(x.Data) == n, api.ErrSize}} {
		if !c.right {
			return c.e
		}
	}
	return api.OK
}

// then is the device behind a command, and the command's result.
func (d device) then(x api.Command) (device, api.Result) {
	if e := wrong(d.blocks, x); e != api.OK {
		return d, api.Result{Err: e, Data: ""}
	}
	return map[int]func() (device, api.Result){
		1: func() (device, api.Result) { return d, api.Result{Data: d.at(x.Block)} },
		2: func() (device, api.Result) { return d.put(x.Block, x.Data), api.Result{} },
		3: func() (device, api.Result) { return d.put(x.Block, zero), api.Result{} },
		4: func() (device, api.Result) { return d, api.Result{} },
	}[x.Kind]()
}

// expectApply is what Apply returns.
func expectApply(blocks []string, x api.Command) ([]string, api.Result) {
	d, r := view(blocks).then(x)
	return d.list(), r
}

// expectRun is what Run returns: what it returns for all but the last command, and then for this one.
func expectRun(blocks []string, l []api.Command) ([]string, []api.Result) {
	if len(l) == 0 {
		return blocks, nil
	}
	rest := len(l) - 1
	before, results := expectRun(blocks, l[:rest])
	behind, r := expectApply(before, l[rest])
	return behind, slices.Concat(results, []api.Result{r})
}

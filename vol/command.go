package vol

import (
	"iter"
	"slices"

	"coaming/api"
	"coaming/clean"
)

const (
	// onePieceOf is how much of a zone is put at once, between cleaning and cleaning: one block in so many.
	onePieceOf = 4

	// shortRange is how many blocks a write touches at most. A range of so many is asked block by block; however long another one is, its blocks are looked for among all that are somewhere.
	shortRange = api.MaxLen/api.MinBlock + 1
)

// command is one that is done to a range of an export.
type command struct {
	*Vol
	api.Export
	offset, length uint64
}

// lies says whether the range lies in the export. Nothing is added up: sums may be above 2^64.
func (c command) lies() bool { return c.offset <= c.Size && c.length <= c.Size-c.offset }

// size is how many bytes a block has.
func (c command) size() uint64 { return uint64(c.log.Dev().Shape().Block) }

// touched are the blocks that the range touches: those from the first one on that are below end. No bytes touch none.
func (c command) touched() (first, end uint64) {
	first = c.offset / c.size()
	if c.length == 0 {
		return first, first
	}
	return first, (c.offset+c.length-1)/c.size() + 1
}

// inside is what the range has of a block that it touches: its bytes from one on, up to another one.
func (c command) inside(block uint64) (from, to uint64) {
	// A block begins below 2^64, but its end may be just there.
	begin := block * c.size()
	return max(c.offset, begin) - begin, min(c.offset+c.length-begin, c.size())
}

// blocks are those that the range touches, rising.
func (c command) blocks() iter.Seq[uint64] {
	first, end := c.touched()
	return func(yield func(uint64) bool) {
		for block := first; block < end; block++ {
			if !yield(block) {
				return
			}
		}
	}
}

// likely are those of them that are somewhere, rising, and never many others.
func (c command) likely() iter.Seq[uint64] {
	first, end := c.touched()
	if end-first <= shortRange {
		return c.blocks()
	}
	return func(yield func(uint64) bool) {
		for _, p := range c.log.Map().All() {
			if p.Tenant == c.Tenant && first <= p.Block && p.Block < end && !yield(p.Block) {
				return
			}
		}
	}
}

// found are those of them that are somewhere, rising, and their data.
func (c command) found() iter.Seq2[uint64, []byte] {
	return func(yield func(uint64, []byte) bool) {
		for block := range c.likely() {
			data, is := c.log.Get(c.Tenant, block)
			if is && !yield(block, data) {
				return
			}
		}
	}
}

// missing is how many blocks that the range touches are nowhere.
func (c command) missing() uint64 {
	first, end := c.touched()
	count := end - first
	for range c.found() {
		count--
	}
	return count
}

// data is what a block is, wherever it is.
func (c command) data(block uint64) []byte {
	if data, is := c.log.Get(c.Tenant, block); is {
		return data
	}
	return make([]byte, c.size())
}

// bytes are those of the range.
func (c command) bytes() []byte {
	out := make([]byte, 0, c.length)
	for block := range c.blocks() {
		from, to := c.inside(block)
		out = append(out, c.data(block)[from:to]...)
	}
	return out
}

// written are the blocks that the range touches, with these bytes in it.
func (c command) written(bytes []byte) []api.Put {
	var l []api.Put
	for block := range c.blocks() {
		from, to := c.inside(block)
		data := c.data(block)
		bytes = bytes[copy(data[from:to], bytes):]
		l = append(l, api.Put{Tenant: c.Tenant, Block: block, Data: data})
	}
	return l
}

// emptied are the blocks that the range touches and that are somewhere, without what is in it: those that lie in it whole are dropped.
func (c command) emptied() []api.Put {
	var l []api.Put
	for block, data := range c.found() {
		from, to := c.inside(block)
		if to-from == c.size() {
			l = append(l, api.Put{Tenant: c.Tenant, Block: block, Drop: true})
			continue
		}
		clear(data[from:to])
		l = append(l, api.Put{Tenant: c.Tenant, Block: block, Data: data})
	}
	return l
}

// put appends blocks, gives back those that are dropped, and is the command's answer.
func (c command) put(l []api.Put, good bool) uint32 {
	for piece := range slices.Chunk(l, c.log.Dev().Shape().ZoneBlocks/onePieceOf) {
		clean.Run(c.log)
		if c.log.Put(piece) != api.OK {
			return api.AnsIO
		}
	}
	// There are not so many to be given back, where a recovered device had more of them than the quota.
	c.ledger.Give(c.Tenant, uint64(len(drops(l))))
	if good {
		c.Flush()
	}
	return api.AnsOK
}

// drops are those of a list that are dropped.
func drops(l []api.Put) []api.Put {
	return slices.DeleteFunc(slices.Clone(l), func(p api.Put) bool { return !p.Drop })
}

package conn

import (
	"math"
	"math/bits"
	"slices"

	"coaming/api"
	"coaming/greet"
)

// asksBlocks is what a client asks for that wants to know in what sizes an export is used.
const asksBlocks uint16 = 3

func (c *Conn) answerOption(o api.Option) {
	switch o.Kind {
	case api.OptExport:
		c.serveOld(string(o.Data))
	case api.OptAbort:
		c.reply(o, api.RepAck, nil)
		c.Close()
	case api.OptList:
		c.list(o)
	case api.OptInfo, api.OptGo:
		c.tell(o)
	default:
		c.reply(o, api.RepUnsup, nil)
	}
}

// list tells no exports: a name is a token, and nobody is told those of others.
func (c *Conn) list(o api.Option) {
	if len(o.Data) > 0 {
		c.reply(o, api.RepInvalid, nil)
		return
	}
	c.reply(o, api.RepAck, nil)
}

// tell tells what the export is like that an option asks about; an OptGo is served it then.
func (c *Conn) tell(o api.Option) {
	name, wants, errno := greet.Asked(o.Data)
	if errno != api.OK {
		c.reply(o, api.RepInvalid, nil)
		return
	}
	token, errno := c.table.Check(name)
	if errno != api.OK {
		c.reply(o, refusal(errno), nil)
		return
	}
	export := exportOf(token, c.block)
	c.reply(o, api.RepInfo, greet.Info(export))
	if slices.Contains(wants, asksBlocks) {
		c.reply(o, api.RepInfo, greet.Blocks(c.block))
	}
	c.reply(o, api.RepAck, nil)
	if o.Kind == api.OptGo {
		c.serve(export)
	}
}

// serveOld serves the export of a name. The old way to ask has no reply that says no.
func (c *Conn) serveOld(name string) {
	token, errno := c.table.Check(name)
	if errno != api.OK || len(name) > api.MaxName {
		c.Close()
		return
	}
	export := exportOf(token, c.block)
	c.send(greet.Old(export, c.noNoughts))
	c.serve(export)
}

func (c *Conn) serve(e api.Export) {
	c.export = e
	c.state = api.ConnServe
}

func (c *Conn) reply(o api.Option, kind uint32, data []byte) {
	c.send(greet.Reply(o.Kind, kind, data))
}

// refusal is the kind of reply to a name that names no export, or one that may not be used.
func refusal(errno api.Errno) uint32 {
	switch errno {
	case api.ErrPassForm, api.ErrPassTenant:
		return api.RepUnknown
	default:
		return api.RepPolicy
	}
}

// exportOf is what a token allows, in bytes.
func exportOf(t api.Token, block int) api.Export {
	high, size := bits.Mul64(t.Size, uint64(block))
	if high != 0 {
		size = math.MaxUint64
	}
	return api.Export{Tenant: t.Tenant, Size: size, ReadOnly: t.ReadOnly}
}

package conn_test

import (
	"bytes"
	"encoding/binary"
	"math/big"
	"slices"
	"testing"

	"coaming/api"
	"coaming/conn"
	"coaming/pass"
)

// model is what the chapter says of a connection, told by its words alone: of what stands below it just the table is asked.
type model struct {
	table     *pass.Table
	block     int
	state     uint8
	noNoughts bool
	export    api.Export
	kept, out []byte
	waits     []api.Request
}

func newModel(t *pass.Table, block int) *model {
	return &model{table: t, block: block, state: 1, out: []byte("NBDMAGICIHAVEOPT\x00\x03")}
}

func (m *model) close() {
	m.state, m.kept, m.waits = 4, nil, nil
}

func (m *model) feed(b []byte) {
	if m.state == 4 {
		return
	}
	if len(m.kept)+len(b) > 131072 {
		m.close()
		return
	}
	m.kept = slices.Concat(m.kept, b)
	m.read()
}

func (m *model) read() {
	for {
		before := len(m.kept)
		switch m.state {
		case 1:
			m.hello()
		case 2:
			m.option()
		case 3:
			m.request()
		}
		if len(m.kept) == before {
			return
		}
	}
}

// number is the one of so many bytes at a place of what is kept.
func (m *model) number(at, width int) uint64 {
	var n uint64
	for _, b := range m.kept[at : at+width] {
		n = n*256 + uint64(b)
	}
	return n
}

func (m *model) hello() {
	if len(m.kept) < 4 {
		return
	}
	switch m.number(0, 4) {
	case 1, 3:
		m.noNoughts = m.number(0, 4) == 3
		m.kept = m.kept[4:]
		m.state = 2
	default:
		m.close()
	}
}

func (m *model) option() {
	if len(m.kept) < 16 {
		return
	}
	length := int(m.number(12, 4))
	if string(m.kept[:8]) != "IHAVEOPT" || length > 1024 {
		m.close()
		return
	}
	if len(m.kept) < 16+length {
		return
	}
	kind, data := uint32(m.number(8, 4)), m.kept[16:16+length]
	m.kept = m.kept[16+length:]
	m.answerOption(kind, data)
}

func (m *model) answerOption(kind uint32, data []byte) {
	switch kind {
	case 2:
		m.send(reply(2, 1, nil))
		m.close()
	case 3:
		if len(data) > 0 {
			m.send(reply(3, 1<<31+3, nil))
		} else {
			m.send(reply(3, 1, nil))
		}
	case 6, 7:
		m.asked(kind, data)
	case 1:
		token, errno := m.table.Check(string(data))
		if errno != 0 || len(data) > 255 {
			m.close()
			return
		}
		m.state, m.export = 3, m.exportOf(token)
		m.send(old(m.export, m.noNoughts))
	default:
		m.send(reply(kind, 1<<31+1, nil))
	}
}

func (m *model) asked(kind uint32, data []byte) {
	name, wants, is := readQuestion(data)
	if !is {
		m.send(reply(kind, 1<<31+3, nil))
		return
	}
	token, errno := m.table.Check(name)
	switch errno {
	case 0:
		e := m.exportOf(token)
		m.send(told(kind, e, m.block, slices.Contains(wants, 3)))
		if kind == 7 {
			m.state, m.export = 3, e
		}
	case 50, 51:
		m.send(reply(kind, 1<<31+6, nil))
	default:
		m.send(reply(kind, 1<<31+2, nil))
	}
}

// readQuestion is a name and the numbers behind it, if data are that, and the name no longer than 255.
func readQuestion(data []byte) (string, []uint16, bool) {
	if len(data) < 6 {
		return "", nil, false
	}
	n := binary.BigEndian.Uint32(data)
	if n > 255 || int(n)+6 > len(data) {
		return "", nil, false
	}
	name, rest := string(data[4:4+n]), data[4+n:]
	count := int(binary.BigEndian.Uint16(rest))
	if len(rest) != 2+2*count {
		return "", nil, false
	}
	var wants []uint16
	for i := range count {
		wants = append(wants, binary.BigEndian.Uint16(rest[2+2*i:]))
	}
	return name, wants, true
}

func (m *model) exportOf(t api.Token) api.Export {
	size := new(big.Int).Mul(new(big.Int).SetUint64(t.Size), big.NewInt(int64(m.block)))
	e := api.Export{Tenant: t.Tenant, Size: 1<<64 - 1, ReadOnly: t.ReadOnly}
	if size.IsUint64() {
		e.Size = size.Uint64()
	}
	return e
}

func (m *model) request() {
	if len(m.waits) == 16 || len(m.kept) < 28 {
		return
	}
	r := api.Request{Flags: uint16(m.number(4, 2)), Kind: uint16(m.number(6, 2)), Cookie: m.number(8, 8), Offset: m.number(16, 8), Length: uint32(m.number(24, 4))}
	end := 28
	if r.Kind == 1 {
		end += int(r.Length)
	}
	if m.number(0, 4) != 0x25609513 || end > 28+65536 {
		m.close()
		return
	}
	if len(m.kept) < end {
		return
	}
	if r.Kind == 1 {
		r.Data = bytes.Clone(m.kept[28:end])
	}
	m.kept = m.kept[end:]
	if r.Kind == 2 {
		m.close()
		return
	}
	m.waits = append(m.waits, r)
}

func (m *model) take(k int) (api.Request, bool) {
	var taken api.Request
	var left []api.Request
	is := false
	for place, r := range m.waits {
		if place == k {
			taken, is = r, true
		} else {
			left = append(left, r)
		}
	}
	m.waits = left
	m.read()
	return taken, is
}

func (m *model) answer(r api.Request, answer uint32, data []byte) {
	if m.state != 3 {
		return
	}
	if answer != 0 {
		data = nil
	}
	m.send(answered(answer, r.Cookie, data))
}

func (m *model) send(b []byte) { m.out = slices.Concat(m.out, b) }

// pieces are things that clients send, and some that none should.
func pieces() [][]byte {
	var out [][]byte
	for _, name := range names() {
		out = append(out, option(6, question(name, 3)), option(7, question(name)), option(1, []byte(name)))
	}
	for _, kind := range []uint16{0, 2, 3, 4, 5, 6, 65535} {
		out = append(out, request(api.Request{Kind: kind, Cookie: uint64(kind) << 40, Offset: 5, Length: 1 << 20, Flags: kind / 2}))
	}
	for _, n := range []int{0, 1, 100, 65536} {
		out = append(out, request(api.Request{Kind: 1, Cookie: uint64(n), Data: someBytes(n)}))
	}
	return append(out, plain, noNoughts, option(2, nil), option(3, nil), option(3, []byte{0}), option(99, []byte("abc")), option(7, nil),
		head(api.Request{Kind: 1}, 65537), head(api.Request{Kind: 1}, 9), reads(0, 15), reads(0, 17), option(9, make([]byte, 1024)), option(9, make([]byte, 1025)),
		[]byte{0, 0, 0}, make([]byte, 28), request(api.Request{Kind: 2}), []byte("IHAVEOPT"), nil, make([]byte, 70000))
}

// names are names of exports: those that are allowed, and one for each error.
func names() []string {
	return []string{
		good(),
		issued(api.Token{Tenant: 1, Serial: 6, Size: 8, ReadOnly: true}),
		issued(api.Token{Tenant: 3, Size: 1 << 58}),
		issued(api.Token{Tenant: 3, Size: 1<<64 - 1}),
		"", "x",
		pass.Issue([]byte("k"), api.Token{Tenant: 4, Size: 1}),
		pass.Issue([]byte("k"), api.Token{Tenant: 2, Size: 1}),
		issued(api.Token{Tenant: 1, Serial: 77, Size: 1}),
		issued(api.Token{Tenant: 1, Size: 9}),
	}
}

// play does the calls that bytes tell, two bytes a call; one connection in four begins as one that serves already.
func play(t testing.TB, calls []byte) {
	c, m := made(t)
	if len(calls) > 0 && calls[0]%4 == 0 {
		c, m = serving(t)
	}
	all := pieces()
	var last api.Request
	for i := 0; i+1 < len(calls); i += 2 {
		what, n := calls[i], int(calls[i+1])
		piece := all[n%len(all)]
		switch {
		case what < 80:
			wantFeed(t, c, m, piece)
		case what < 90:
			wantFeed(t, c, m, calls[i:min(i+n, len(calls))])
		case what < 120:
			wantFeed(t, c, m, request(api.Request{Kind: []uint16{0, 1, 3, 4, 6, 9}[n%6], Cookie: uint64(i), Length: uint32(n), Data: calls[:i]}))
		case what < 150:
			cut := int(what) * len(piece) / 200
			wantFeed(t, c, m, piece[:cut])
			wantFeed(t, c, m, piece[cut:])
		case what < 210:
			last, _ = m.take(n%20 - 2)
			if got, _ := c.Take(n%20 - 2); !same(got, last) {
				t.Fatalf("Take: %.200v, want %.200v", got, last)
			}
			want(t, "Take", c, m)
		case what < 235:
			wantAnswer(t, c, m, last, uint32(n%3*5), piece)
		case what < 254:
			wantOut(t, c, m)
		default:
			wantClose(t, c, m)
		}
	}
	wantOut(t, c, m)
}

func TestManyCalls(t *testing.T) {
	for seed := range uint64(300) {
		play(t, numbers(seed, 120))
	}
}

func TestManyCallsOfOneThatServes(t *testing.T) {
	for seed := range uint64(100) {
		calls := numbers(seed, 400)
		for i := 0; i < len(calls); i += 2 {
			calls[i] = 90 + calls[i]%160 // no bytes that close it
			if calls[i] >= 120 && calls[i] < 150 {
				calls[i] = 91
			}
		}
		calls[0] = 92
		play(t, calls)
	}
}

// stream is a client's bytes from the beginning on: what calls tell, one behind the other.
func stream(calls []byte) []byte {
	all := pieces()
	out := noNoughts
	if len(calls) > 0 && calls[0]%2 == 0 {
		out = greeting(good())
	}
	for _, n := range calls {
		out = slices.Concat(out, all[int(n)%len(all)])
	}
	return out[:min(len(out), 100000)]
}

// wantWhole is that bytes cut at some places do what they do as a whole.
func wantWhole(t testing.TB, b []byte, size func() int) {
	t.Helper()
	whole, _ := made(t)
	whole.Feed(b)
	cut := conn.New(table(t), 64)
	for left := b; len(left) > 0; {
		n := min(max(size(), 0), len(left))
		cut.Feed(left[:n])
		left = left[n:]
	}
	if got, sent := cut.Out(), whole.Out(); !bytes.Equal(got, sent) {
		t.Fatalf("%d bytes are sent, by the whole %d", len(got), len(sent))
	}
	for whole.State() != api.ConnClosed || cut.State() != api.ConnClosed {
		if got, waits := cut.Waits(), whole.Waits(); cut.State() != whole.State() || cut.Export() != whole.Export() || !sameList(got, waits) {
			t.Fatalf("state %d, %d wait, by the whole %d, %d", cut.State(), len(got), whole.State(), len(waits))
		}
		// What was not read yet is told as it is taken.
		a, is := whole.Take(1)
		b, too := cut.Take(1)
		if !same(a, b) || is != too {
			t.Fatalf("Take: %.200v, %v, by the whole %.200v, %v", b, too, a, is)
		}
		if !is {
			break
		}
	}
}

func TestHowBytesAreCutMakesNoDifference(t *testing.T) {
	for seed := range uint64(150) {
		from := numbers(seed, 200)
		b := stream(from[:1+int(from[1])%12])
		at := 0
		for _, most := range []int{1, 7, 40, 300, 30000} {
			if len(b) > 3000 && most == 1 {
				continue
			}
			wantWhole(t, b, func() int {
				at++
				return 1 + (int(from[at%len(from)])*257+at)%most
			})
		}
	}
}

func TestByteByByte(t *testing.T) {
	b := join(plain, option(3, nil), option(6, question(good(), 3)), option(7, question("no")), option(1, []byte(good())),
		reads(0, 14), request(api.Request{Kind: 1, Cookie: 14, Data: someBytes(65536)}), request(api.Request{Kind: 3}), reads(20, 30), request(api.Request{Kind: 2}))
	wantWhole(t, b, func() int { return 1 })
	wantWhole(t, b, func() int { return 2 })
}

func TestOneCutAnywhere(t *testing.T) {
	b := join(noNoughts, option(3, nil), option(6, question(good(), 3, 1)), option(7, question(good())),
		request(api.Request{Cookie: 9, Length: 4}), request(api.Request{Kind: 1, Data: []byte("abcdef")}), reads(3, 16), request(api.Request{Kind: 2}))
	for n := range len(b) + 1 {
		first := true
		wantWhole(t, b, func() int {
			if first {
				first = false
				return n
			}
			return len(b)
		})
	}
}

func FuzzCalls(f *testing.F) {
	f.Add([]byte{0, 1, 1, 2, 2, 3, 130, 3, 130, 4, 0, 0})
	f.Add(append([]byte{92, 0}, bytes.Repeat([]byte{91, 5, 160, 3}, 20)...))
	f.Fuzz(func(t *testing.T, calls []byte) {
		if len(calls) < 600 {
			play(t, calls)
		}
	})
}

func FuzzBytes(f *testing.F) {
	f.Add(greeting(good()), uint16(5))
	f.Add(join(greeting(good()), reads(0, 18)), uint16(29))
	f.Add(join(plain, option(1, []byte(good())), request(api.Request{Kind: 1, Data: []byte("abc")})), uint16(3))
	f.Fuzz(func(t *testing.T, b []byte, size uint16) {
		if len(b) > 5000 {
			return
		}
		c, m := made(t)
		wantFeed(t, c, m, b)
		wantTake(t, c, m, int(size)%18)
		wantOut(t, c, m)
		wantWhole(t, b, func() int { return 1 + int(size) })
	})
}

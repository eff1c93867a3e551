package conn_test

import (
	"bytes"
	"math"
	"testing"

	"coaming/api"
	"coaming/conn"
	"coaming/pass"
)

// edges are numbers at the edges of what a byte, two, or four can say.
var edges = []uint32{0, 1, 2, 3, 4, 5, 6, 7, 8, 9, 255, 256, 257, 259, 1 << 16, 1<<16 + 1, 1<<16 + 7, 1 << 24, 1<<24 + 3, 1<<31 - 1, 1 << 31, 1<<31 + 1, 1<<31 + 3, math.MaxUint32 - 1, math.MaxUint32}

func TestExample(t *testing.T) {
	c := conn.New(table(t), 64)
	c.Out()
	c.Feed([]byte{0, 0, 0, 3})
	if c.State() != api.ConnOption {
		t.Error(c.State())
	}
	c.Feed(option(api.OptAbort, nil))
	if b := c.Out(); !bytes.Equal(b, reply(api.OptAbort, api.RepAck, nil)) || c.State() != api.ConnClosed {
		t.Errorf("%x, %d", b, c.State())
	}
	c = conn.New(table(t), 64)
	c.Feed([]byte{0, 0, 0, 0})
	if c.State() != api.ConnClosed {
		t.Error(c.State())
	}
}

func TestNumbersAreTheDocuments(t *testing.T) {
	if got := [...]uint8{api.ConnHello, api.ConnOption, api.ConnServe, api.ConnClosed}; got != [...]uint8{1, 2, 3, 4} {
		t.Error(got)
	}
	if api.MaxHold != 131072 || api.MaxName != 255 || api.MaxOption != 1024 || api.MaxPipe != 16 || api.MaxLen != 65536 {
		t.Error("limits")
	}
}

func TestNewHasTheHelloToSend(t *testing.T) {
	c, m := made(t)
	if c.State() != 1 || len(c.Waits()) != 0 || c.Export() != (api.Export{}) {
		t.Error(c.State(), c.Waits(), c.Export())
	}
	if b := c.Out(); string(b) != "\x4e\x42\x44\x4d\x41\x47\x49\x43\x49\x48\x41\x56\x45\x4f\x50\x54\x00\x03" {
		t.Errorf("%x", b)
	}
	m.out = nil
	for range 3 {
		wantOut(t, c, m)
	}
}

func TestNothingIsTakenOrAnsweredAheadOfServing(t *testing.T) {
	c, m := made(t)
	for _, b := range [][]byte{{0, 0}, {0, 3}, option(3, nil), option(6, question(good()))} {
		for _, k := range []int{math.MinInt, -1, 0, 1, 16, math.MaxInt} {
			wantTake(t, c, m, k)
		}
		wantOut(t, c, m)
		wantAnswer(t, c, m, api.Request{Cookie: 5}, 0, []byte("abc"))
		wantAnswer(t, c, m, api.Request{Cookie: 5}, 5, nil)
		if b := c.Out(); len(b) != 0 {
			t.Errorf("%x", b)
		}
		wantFeed(t, c, m, b)
	}
}

func TestFlagsOfAnyNumber(t *testing.T) {
	for _, n := range edges {
		c, m := made(t)
		wantOut(t, c, m)
		if n == 1 || n == 3 {
			wantSent(t, c, m, four(n), nil, 2)
		} else {
			wantSent(t, c, m, four(n), nil, 4)
		}
	}
	for n := range uint32(1 << 8) {
		c, m := made(t)
		wantFeed(t, c, m, four(n<<8|3))
		c, m = made(t)
		wantFeed(t, c, m, four(n))
	}
}

func TestFlagsComeWhole(t *testing.T) {
	for n := range 4 {
		c, m := made(t)
		wantFeed(t, c, m, []byte{9, 9, 9, 9}[:n])
		if c.State() != api.ConnHello {
			t.Error(n, c.State())
		}
	}
}

func TestWhatIsRememberedOfTheFlags(t *testing.T) {
	e := api.Export{Tenant: 1, Size: 256}
	for _, flags := range [][]byte{plain, noNoughts} {
		c, m := made(t)
		wantFeed(t, c, m, flags)
		wantFeed(t, c, m, option(api.OptList, nil))
		wantOut(t, c, m)
		wantSent(t, c, m, option(api.OptExport, []byte(good())), old(e, flags[3] == 3), api.ConnServe)
	}
	// An OptGo has no noughts behind it, whatever was said.
	c, m := made(t)
	wantFeed(t, c, m, plain)
	wantOut(t, c, m)
	wantSent(t, c, m, option(api.OptGo, question(good())), told(7, e, 64, false), api.ConnServe)
}

// options is one that takes options, with nothing to send.
func options(t *testing.T) (*conn.Conn, *model) {
	t.Helper()
	c, m := made(t)
	wantFeed(t, c, m, noNoughts)
	wantOut(t, c, m)
	return c, m
}

func TestOptionsOfAnotherKind(t *testing.T) {
	known := map[uint32]bool{1: true, 2: true, 3: true, 6: true, 7: true}
	for _, kind := range edges {
		if known[kind] {
			continue
		}
		for _, data := range [][]byte{nil, []byte("a"), question(good()), []byte(good()), someBytes(1024)} {
			c, m := options(t)
			wantSent(t, c, m, option(kind, data), reply(kind, 1<<31+1, nil), api.ConnOption)
			wantSent(t, c, m, option(kind, data), reply(kind, 1<<31+1, nil), api.ConnOption)
		}
	}
}

func TestOptAbort(t *testing.T) {
	for _, data := range [][]byte{nil, []byte("a"), question(good()), someBytes(1024)} {
		c, m := options(t)
		wantSent(t, c, m, join(option(2, data), option(3, nil)), reply(2, 1, nil), api.ConnClosed)
		wantSent(t, c, m, option(3, nil), nil, api.ConnClosed)
	}
}

func TestOptList(t *testing.T) {
	c, m := options(t)
	wantSent(t, c, m, option(3, nil), reply(3, 1, nil), api.ConnOption)
	for _, data := range [][]byte{{0}, []byte("a"), []byte(good()), someBytes(1024)} {
		wantSent(t, c, m, option(3, data), reply(3, 1<<31+3, nil), api.ConnOption)
	}
	wantSent(t, c, m, option(3, nil), reply(3, 1, nil), api.ConnOption)
}

func TestOptInfoTellsAndOptGoServes(t *testing.T) {
	for _, of := range []struct {
		name string
		want api.Export
	}{
		{good(), api.Export{Tenant: 1, Size: 256}},
		{issued(api.Token{Tenant: 1, Serial: 76, Size: 8, ReadOnly: true}), api.Export{Tenant: 1, Size: 512, ReadOnly: true}},
		{issued(api.Token{Tenant: 2, Serial: 77, Size: 1}), api.Export{Tenant: 2, Size: 64}},
		{issued(api.Token{Tenant: 3, Size: 5, ReadOnly: true}), api.Export{Tenant: 3, Size: 320, ReadOnly: true}},
	} {
		for _, wants := range [][]uint16{nil, {0}, {1}, {2, 4}, {0x0300, 259, 0xff03}, {3}, {3, 3, 3}, {0, 1, 2, 3}, {3, 0}, make([]uint16, 400), append(make([]uint16, 400), 3)} {
			blocks := len(wants) > 0 && (wants[0] == 3 || wants[len(wants)-1] == 3)
			c, m := options(t)
			data := question(of.name, wants...)
			wantSent(t, c, m, option(6, data), told(6, of.want, 64, blocks), api.ConnOption)
			if c.Export() != (api.Export{}) {
				t.Error("an OptInfo is told it alone", c.Export())
			}
			wantSent(t, c, m, option(7, data), told(7, of.want, 64, blocks), api.ConnServe)
			if c.Export() != of.want {
				t.Error(c.Export(), of.want)
			}
		}
	}
}

func TestOptInfoAndOptGoThatAreRefused(t *testing.T) {
	const unknown, policy, invalid = 1<<31 + 6, 1<<31 + 2, 1<<31 + 3
	token := api.Token{Tenant: 1, Size: 4}
	wrong := append([]byte(good()[:79]), 'z')
	for _, of := range []struct {
		data   []byte
		answer uint32
	}{
		{nil, invalid},
		{[]byte("x"), invalid},
		{[]byte(good()), invalid},
		{question(good())[:85], invalid},
		{append(question(good()), 0), invalid},
		{append(question("x"), 0), invalid},
		{question(string(someBytes(256))), invalid},
		{join(four(80), []byte(good()), two(1)), invalid},
		{question(""), unknown},
		{question("x", 3), unknown},
		{question(good()[:79]), unknown},
		{question(good() + "a"), unknown},
		{question(string(someBytes(255))), unknown},
		{question("\x00"), unknown},
		{question(pass.Issue([]byte("k"), api.Token{Tenant: 0, Size: 4})), unknown},
		{question(pass.Issue([]byte("k"), api.Token{Tenant: 1 << 16, Size: 4})), unknown},
		{question(pass.Issue([]byte("k"), api.Token{Tenant: math.MaxUint32, Size: 4}), 3), unknown},
		{question(pass.Issue([]byte("l"), token)), policy},
		{question(pass.Issue(nil, token), 3), policy},
		{question(string(wrong)), policy},
		{question(issued(api.Token{Tenant: 1, Serial: 77, Size: 4})), policy},
		{question(issued(api.Token{Tenant: 1, Serial: 78, Size: 4, ReadOnly: true}), 3), policy},
		{question(issued(api.Token{Tenant: 1})), policy},
		{question(issued(api.Token{Tenant: 1, Size: 9})), policy},
		{question(issued(api.Token{Tenant: 2, Size: 6})), policy},
	} {
		c, m := options(t)
		for _, kind := range []uint32{6, 7, 7} {
			wantSent(t, c, m, option(kind, of.data), reply(kind, of.answer, nil), api.ConnOption)
			if c.Export() != (api.Export{}) {
				t.Error(c.Export())
			}
		}
		// Who was refused may ask again.
		wantSent(t, c, m, option(7, question(good())), told(7, api.Export{Tenant: 1, Size: 256}, 64, false), api.ConnServe)
	}
}

func TestOptExport(t *testing.T) {
	for _, of := range []struct {
		name string
		want api.Export
	}{
		{good(), api.Export{Tenant: 1, Size: 256}},
		{issued(api.Token{Tenant: 1, Size: 8, ReadOnly: true}), api.Export{Tenant: 1, Size: 512, ReadOnly: true}},
		{issued(api.Token{Tenant: 3, Size: 1 << 59}), api.Export{Tenant: 3, Size: 1<<64 - 1}},
	} {
		for _, flags := range [][]byte{plain, noNoughts} {
			c, m := made(t)
			wantFeed(t, c, m, flags)
			wantOut(t, c, m)
			wantSent(t, c, m, option(1, []byte(of.name)), old(of.want, flags[3] == 3), api.ConnServe)
			if c.Export() != of.want {
				t.Error(c.Export(), of.want)
			}
		}
	}
}

func TestOptExportThatIsRefusedCloses(t *testing.T) {
	for _, name := range append(names()[4:], good()[1:], good()+"a", good()+"\x00", string(someBytes(255)), string(someBytes(256)), string(someBytes(1024)), string(question(good()))) {
		c, m := options(t)
		wantSent(t, c, m, join(option(1, []byte(name)), option(3, nil)), nil, api.ConnClosed)
		if c.Export() != (api.Export{}) {
			t.Error(c.Export())
		}
	}
}

func TestOptionsThatAreNone(t *testing.T) {
	for _, b := range [][]byte{
		make([]byte, 16), bytes.Repeat([]byte{255}, 16), []byte("IHAVEOPU\x00\x00\x00\x03\x00\x00\x00\x00"), reads(0, 1),
		join([]byte("IHAVEOPT"), four(3), four(1025)), join([]byte("IHAVEOPT"), four(7), four(math.MaxUint32)), option(99, make([]byte, 1025)),
	} {
		c, m := options(t)
		wantSent(t, c, m, b[:15], nil, api.ConnOption)
		wantSent(t, c, m, b[15:], nil, api.ConnClosed)
		c, m = options(t)
		wantSent(t, c, m, join(option(3, nil), b, option(3, nil)), reply(3, 1, nil), api.ConnClosed)
	}
}

func TestOptionsComeWhole(t *testing.T) {
	for _, n := range []int{1, 100, 1023, 1024} {
		c, m := options(t)
		b := option(3, someBytes(n))
		wantSent(t, c, m, b[:16], nil, api.ConnOption)
		wantSent(t, c, m, b[16:16+n-1], nil, api.ConnOption)
		wantSent(t, c, m, b[16+n-1:], reply(3, 1<<31+3, nil), api.ConnOption)
	}
}

func TestManyOptionsAtOnce(t *testing.T) {
	c, m := made(t)
	b, sent := noNoughts, m.out
	for n := range uint32(200) {
		b = join(b, option(100+n, someBytes(int(n))))
		sent = join(sent, reply(100+n, 1<<31+1, nil))
	}
	wantSent(t, c, m, b, sent, api.ConnOption)
}

func TestSizeIsInBytes(t *testing.T) {
	for _, block := range []int{64, 128, 512, 4096} {
		for _, size := range []uint64{1, 2, 5, 1 << 32, 1 << 51, 1<<52 - 1, 1 << 52, 1<<52 + 1, 1<<58 - 1, 1 << 58, 1<<58 + 1, 1 << 63, 1<<63 + 1, math.MaxUint64 / 3, math.MaxUint64 - 1, math.MaxUint64} {
			for _, kind := range []uint32{1, 7} {
				c, m := madeOf(t, block)
				wantFeed(t, c, m, noNoughts)
				name := issued(api.Token{Tenant: 3, Size: size})
				data := []byte(name)
				if kind == 7 {
					data = question(name, 3)
				}
				wantFeed(t, c, m, option(kind, data))
				wantOut(t, c, m)
				if c.State() != api.ConnServe || c.Export().Size/uint64(block) != min(size, math.MaxUint64/uint64(block)) {
					t.Error(block, size, c.Export())
				}
			}
		}
	}
	c, _ := serveOf(t, 1<<58)
	if c.Export().Size != math.MaxUint64 {
		t.Error(c.Export())
	}
	c, _ = serveOf(t, 1<<58-1)
	if c.Export().Size != 1<<64-64 {
		t.Error(c.Export())
	}
}

// serveOf is one that serves tenant 3's export of so many blocks.
func serveOf(t *testing.T, size uint64) (*conn.Conn, *model) {
	t.Helper()
	c, m := made(t)
	wantFeed(t, c, m, greeting(issued(api.Token{Tenant: 3, Size: size})))
	return c, m
}

// No block's size makes it panic: what is too much for a field is taken as the other layers take it.
func TestBlocksOfAnySize(t *testing.T) {
	for _, block := range []int{0, 1, 63, math.MaxInt32, math.MaxInt, -1, -64, math.MinInt} {
		c := conn.New(table(t), block)
		c.Feed(join(noNoughts, option(7, question(issued(api.Token{Tenant: 3, Size: 3}), 3))))
		if c.State() != api.ConnServe || block >= 0 && block < 64 && c.Export().Size != uint64(block)*3 {
			t.Error(block, c.State(), c.Export())
		}
	}
}

func TestRequestsWait(t *testing.T) {
	c, m := serving(t)
	kinds := []uint16{0, 1, 3, 4, 5, 6, 7, 258, math.MaxUint16}
	for i, kind := range kinds {
		r := api.Request{Flags: uint16(i) * 7281, Kind: kind, Cookie: math.MaxUint64 - uint64(i), Offset: uint64(i) << 60, Length: math.MaxUint32 - uint32(i)}
		if kind == 1 {
			r.Length, r.Data = 300, someBytes(300)
		}
		wantSent(t, c, m, request(r), nil, api.ConnServe)
		if l := c.Waits(); len(l) != i+1 || !same(l[i], r) {
			t.Fatalf("%.200v, want %v behind the others", l, r)
		}
	}
	for k := len(kinds) - 1; k >= 0; k -= 2 {
		wantTake(t, c, m, k)
	}
	wantTake(t, c, m, -1)
	wantTake(t, c, m, 4)
	for range 5 {
		wantTake(t, c, m, 0)
	}
	wantOut(t, c, m)
}

func TestWritesOfAnyLength(t *testing.T) {
	for _, n := range []int{0, 1, 27, 28, 29, 255, 256, 65535, 65536} {
		c, m := serving(t)
		r := api.Request{Kind: 1, Cookie: 3, Length: uint32(n), Data: someBytes(n)}
		b := request(r)
		wantFeed(t, c, m, b[:len(b)-1])
		if len(c.Waits()) != 0 {
			t.Error("it has not come whole", n)
		}
		wantFeed(t, c, m, join(b[len(b)-1:], reads(4, 1)))
		if l := c.Waits(); len(l) != 2 || !same(l[0], r) {
			t.Error(n, len(l))
		}
	}
}

func TestRequestsThatAreNone(t *testing.T) {
	other := reads(0, 1)
	other[3]++
	for _, b := range [][]byte{make([]byte, 28), other, option(3, someBytes(20)), head(api.Request{Kind: 1}, 65537), head(api.Request{Kind: 1}, math.MaxUint32), answered(0, 5, someBytes(20))} {
		c, m := serving(t)
		wantFeed(t, c, m, reads(1, 3))
		wantSent(t, c, m, b[:27], nil, api.ConnServe)
		wantSent(t, c, m, b[27:], nil, api.ConnClosed)
		if c.Export() != (api.Export{Tenant: 1, Size: 256}) || len(c.Waits()) != 0 {
			t.Error(c.Export(), c.Waits())
		}
		wantTake(t, c, m, 0)
	}
}

func TestWhatStandsBehindTheOptionIsRead(t *testing.T) {
	c, m := made(t)
	wantFeed(t, c, m, join(greeting(good()), reads(0, 5)))
	if len(c.Waits()) != 5 {
		t.Error(c.Waits())
	}
	c, m = made(t)
	wantFeed(t, c, m, join(plain, option(1, []byte(good())), reads(0, 5)))
	if len(c.Waits()) != 5 {
		t.Error(c.Waits())
	}
	// No more options: they are no requests.
	c, m = made(t)
	wantFeed(t, c, m, join(greeting(good()), option(6, question(good()))))
	if c.State() != api.ConnClosed {
		t.Error(c.State())
	}
}

func TestNoMoreThanSixteenWait(t *testing.T) {
	c, m := serving(t)
	wantFeed(t, c, m, reads(0, 40))
	if l := c.Waits(); len(l) != 16 || l[15].Cookie != 15 {
		t.Fatal(len(l))
	}
	for n := range 24 {
		wantTake(t, c, m, n%16)
		if l := c.Waits(); len(l) != 16 || l[15].Cookie != uint64(16+n) {
			t.Fatal("it does not read on", n, len(l))
		}
	}
	for n := range 17 {
		wantTake(t, c, m, 0)
		if len(c.Waits()) != max(15-n, 0) {
			t.Fatal(n, len(c.Waits()))
		}
	}
}

func TestTakeOfNoneReadsNothing(t *testing.T) {
	c, m := serving(t)
	wantFeed(t, c, m, reads(0, 20))
	for _, k := range []int{math.MinInt, -16, -1, 16, 17, 19, 256, 1 << 32, math.MaxInt} {
		wantTake(t, c, m, k)
	}
	if l := c.Waits(); len(l) != 16 || l[0].Cookie != 0 {
		t.Error(len(l))
	}
}

func TestWhatIsWrongBehindAFullPipeIsReadLater(t *testing.T) {
	for _, wrong := range [][]byte{make([]byte, 28), head(api.Request{Kind: 1}, 65537), request(api.Request{Kind: 2})} {
		c, m := serving(t)
		wantFeed(t, c, m, join(reads(0, 17), wrong, reads(30, 1)))
		wantTake(t, c, m, 15)
		if c.State() != api.ConnServe || len(c.Waits()) != 16 {
			t.Fatal(c.State(), len(c.Waits()))
		}
		wantAnswer(t, c, m, api.Request{Cookie: 15}, 0, nil)
		r, is := c.Take(0)
		m.take(0)
		want(t, "Take", c, m)
		if !is || r.Cookie != 0 || c.State() != api.ConnClosed || len(c.Waits()) != 0 {
			t.Fatal(r, is, c.State())
		}
		// What was taken as it closed is not answered; what was answered is still sent.
		wantAnswer(t, c, m, r, 0, []byte("abcd"))
		if b := c.Out(); !bytes.Equal(b, answered(0, 15, nil)) {
			t.Errorf("%x", b)
		}
	}
}

func TestCmdDisc(t *testing.T) {
	for _, r := range []api.Request{{Kind: 2}, {Kind: 2, Flags: 7, Cookie: 9, Offset: math.MaxUint64, Length: math.MaxUint32}} {
		c, m := serving(t)
		wantFeed(t, c, m, reads(0, 3))
		wantAnswer(t, c, m, api.Request{Cookie: 8}, 5, nil)
		wantFeed(t, c, m, join(request(r), reads(5, 2)))
		if c.State() != api.ConnClosed || len(c.Waits()) != 0 || c.Export() != (api.Export{Tenant: 1, Size: 256}) {
			t.Error(c.State(), c.Waits(), c.Export())
		}
		wantOut(t, c, m)
	}
}

func TestAnswer(t *testing.T) {
	c, m := serving(t)
	for _, answer := range edges {
		for _, data := range [][]byte{nil, {}, []byte("abc"), someBytes(65536)} {
			r := api.Request{Flags: 3, Kind: 1, Cookie: uint64(answer)<<32 | 7, Offset: 9, Length: 2, Data: []byte("other")}
			c.Answer(r, answer, data)
			sent := answered(answer, r.Cookie, nil)
			if answer == 0 {
				sent = answered(0, r.Cookie, data)
			}
			if b := c.Out(); !bytes.Equal(b, sent) {
				t.Errorf("%d, %d bytes: %x", answer, len(data), short(b))
			}
		}
	}
	wantAnswer(t, c, m, api.Request{Cookie: 1}, 0, []byte("a"))
	wantAnswer(t, c, m, api.Request{Cookie: 2}, 1, []byte("b"))
	wantAnswer(t, c, m, api.Request{Cookie: 3}, 0, nil)
	wantSent(t, c, m, nil, join(answered(0, 1, []byte("a")), answered(1, 2, nil), answered(0, 3, nil)), api.ConnServe)
}

// An answer takes nothing out: that was done by who asks for it.
func TestAnswerTakesNothingOut(t *testing.T) {
	c, m := serving(t)
	wantFeed(t, c, m, reads(0, 20))
	for n := range uint64(20) {
		wantAnswer(t, c, m, api.Request{Cookie: n}, 0, nil)
	}
	if len(c.Waits()) != 16 {
		t.Error(len(c.Waits()))
	}
}

func TestCloseInEachState(t *testing.T) {
	for _, b := range [][]byte{nil, {0, 0, 0}, noNoughts, join(noNoughts, option(3, nil), []byte("IHAVE")), greeting(good()), join(greeting(good()), reads(0, 30))} {
		c, m := made(t)
		wantFeed(t, c, m, b)
		wantAnswer(t, c, m, api.Request{Cookie: 5}, 0, []byte("abc"))
		wantClose(t, c, m)
		wantClose(t, c, m)
		if c.State() != api.ConnClosed || len(c.Waits()) != 0 {
			t.Error(c.State(), c.Waits())
		}
		wantTake(t, c, m, 0)
		wantFeed(t, c, m, join(noNoughts, option(3, nil)))
		wantFeed(t, c, m, reads(0, 1))
		wantFeed(t, c, m, make([]byte, 131073))
		wantAnswer(t, c, m, api.Request{Cookie: 6}, 0, []byte("abc"))
		if len(m.out) < 18 {
			t.Error("what it has to send is lost")
		}
		wantOut(t, c, m)
		wantOut(t, c, m)
	}
}

func TestHowMuchIsKept(t *testing.T) {
	for _, over := range []int{-1, 0, 1, 2, 131072} {
		state := api.ConnServe
		if over > 0 {
			state = api.ConnClosed
		}
		// As a whole, byte by byte at the edge, and with what was read not counted.
		c, m := serving(t)
		wantFeed(t, c, m, append(reads(0, 20), make([]byte, 131072+over-20*28)...))
		if c.State() != state {
			t.Error("as a whole", over, c.State())
		}
		c, m = serving(t)
		wantFeed(t, c, m, reads(0, 16))
		wantFeed(t, c, m, append(reads(16, 3), make([]byte, 130000)...))
		wantFeed(t, c, m, make([]byte, 131072+over-130000-3*28))
		if c.State() != state {
			t.Error("in two", over, c.State())
		}
		c, m = serving(t)
		wantFeed(t, c, m, reads(0, 18))
		wantTake(t, c, m, 3)
		wantTake(t, c, m, 3)
		wantFeed(t, c, m, make([]byte, 131071+over))
		wantFeed(t, c, m, make([]byte, 1))
		if c.State() != state {
			t.Error("behind some that were read", over, c.State())
		}
	}
}

func TestHowMuchIsKeptAheadOfServing(t *testing.T) {
	for _, kept := range []int{0, 3} {
		for _, over := range []int{0, 1} {
			c, m := made(t)
			wantFeed(t, c, m, noNoughts[:kept])
			b := join(noNoughts[kept:], bytes.Repeat(option(3, nil), 9000))[:131072-kept+over]
			wantFeed(t, c, m, b)
			if closed := c.State() == api.ConnClosed; closed != (over > 0) {
				t.Error(kept, over, c.State())
			}
			wantOut(t, c, m)
		}
	}
	for _, over := range []int{0, 1} {
		c, m := options(t)
		wantFeed(t, c, m, option(3, make([]byte, 1000))[:900])
		wantFeed(t, c, m, join(make([]byte, 116), bytes.Repeat(option(3, nil), 9000))[:131072-900+over])
		if closed := c.State() == api.ConnClosed; closed != (over > 0) {
			t.Error(over, c.State())
		}
		wantOut(t, c, m)
	}
}

// What was read does not count, though more is left than was read.
func TestWhatWasReadCountsNoMore(t *testing.T) {
	for _, over := range []int{0, 1} {
		c, m := serving(t)
		wantFeed(t, c, m, reads(0, 16))
		wantFeed(t, c, m, append(reads(16, 4681), 0, 0, 0, 0)) // 131072 of them
		for n := range 3 {
			wantTake(t, c, m, n)
		}
		wantFeed(t, c, m, make([]byte, 3*28))
		wantTake(t, c, m, 0)
		wantFeed(t, c, m, make([]byte, 28+over))
		if closed := c.State() == api.ConnClosed; closed != (over > 0) {
			t.Error(over, c.State())
		}
	}
}

// No bytes at all close nothing, however many are kept.
func TestNoBytes(t *testing.T) {
	for _, b := range [][]byte{nil, {0, 0}, noNoughts, greeting(good()), join(greeting(good()), reads(0, 16))} {
		c, m := made(t)
		wantFeed(t, c, m, b)
		for _, none := range [][]byte{nil, {}} {
			wantFeed(t, c, m, none)
		}
		if c.State() == api.ConnClosed {
			t.Error(len(b))
		}
	}
	c, m := serving(t)
	wantFeed(t, c, m, reads(0, 16))
	wantFeed(t, c, m, make([]byte, 131072))
	wantFeed(t, c, m, nil)
	if c.State() != api.ConnServe {
		t.Error("none is more than may be kept")
	}
	wantFeed(t, c, m, []byte{0})
	if c.State() != api.ConnClosed {
		t.Error("one is more than may be kept")
	}
}

func TestConnectionsAreApart(t *testing.T) {
	shared := table(t)
	a, b := conn.New(shared, 64), conn.New(shared, 128)
	ma, mb := newModel(shared, 64), newModel(shared, 128)
	wantFeed(t, a, ma, join(plain, option(7, question(good())), reads(0, 20)))
	want(t, "another one", b, mb)
	wantFeed(t, b, mb, join(noNoughts, option(6, question(good(), 3)), option(1, []byte(good())), reads(50, 3)))
	want(t, "the first one", a, ma)
	wantTake(t, a, ma, 3)
	wantAnswer(t, b, mb, api.Request{Cookie: 1}, 0, []byte("b"))
	wantClose(t, b, mb)
	want(t, "the first one", a, ma)
	wantOut(t, a, ma)
	wantOut(t, b, mb)
	want(t, "one more", conn.New(shared, 64), newModel(shared, 64))
}

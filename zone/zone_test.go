package zone_test

import (
	"bytes"
	"math"
	"slices"
	"testing"

	"coaming/api"
	"coaming/zone"
)

// small is the smallest shape that may be.
var small = shape(6, 8, 64, 2)

func shape(zones, blocks, block, reserve int) api.Shape {
	return api.Shape{Zones: zones, ZoneBlocks: blocks, Block: block, Reserve: reserve}
}

// wrongZones are numbers of zones that a small device does not have.
var wrongZones = []int{math.MinInt, -6, -1, 6, 7, 255, 256, math.MaxInt}

// filled is a block of which every byte is told apart from those beside it and from the other blocks', and none is 00.
func filled(n, size int) []byte {
	out := make([]byte, size)
	for i := range out {
		out[i] = byte(1 + (n*37+i)%255)
	}
	return out
}

// torn is a block's first bytes, and noughts.
func torn(block []byte, n int) []byte {
	return append(bytes.Clone(block[:n]), make([]byte, len(block)-n)...)
}

// some are so many blocks of a small device, from the one numbered first on.
func some(first, n int) [][]byte {
	var out [][]byte
	for i := range n {
		out = append(out, filled(first+i, small.Block))
	}
	return out
}

// zones are those of a small device, all empty but one.
func zones(at int, z api.Zone) []api.Zone {
	out := make([]api.Zone, small.Zones)
	out[at] = z
	return out
}

func copied(l []api.Zone) []api.Zone {
	out := slices.Clone(l)
	for i := range out {
		out[i].Blocks = slices.Clone(out[i].Blocks)
		for j := range out[i].Blocks {
			out[i].Blocks[j] = bytes.Clone(out[i].Blocks[j])
		}
	}
	return out
}

func sameZone(a, b api.Zone) bool {
	return a.Durable == b.Durable && slices.EqualFunc(a.Blocks, b.Blocks, bytes.Equal)
}

// want asks a device for all that it tells, by every call that tells something.
func want(t *testing.T, what string, d *zone.Dev, l []api.Zone) {
	t.Helper()
	if got := d.Zones(); !slices.EqualFunc(got, l, sameZone) {
		t.Fatalf("%s: the zones differ: %d of them, want %d", what, len(got), len(l))
	}
	for i, z := range l {
		if n, m := d.At(i); n != len(z.Blocks) || m != z.Durable {
			t.Fatalf("%s: At(%d): %d, %d, want %d, %d", what, i, n, m, len(z.Blocks), z.Durable)
		}
		for j, block := range z.Blocks {
			wantRead(t, what, d, api.Addr{Zone: i, Block: j}, block)
		}
		wantNoRead(t, d, api.Addr{Zone: i, Block: len(z.Blocks)}, api.ErrZoneRead)
	}
}

func wantRead(t *testing.T, what string, d *zone.Dev, a api.Addr, block []byte) {
	t.Helper()
	if got, errno := d.Read(a); errno != api.OK || !bytes.Equal(got, block) {
		t.Fatalf("%s: Read(%v): %x, %d, want %x", what, a, got, errno, block)
	}
}

func wantNoRead(t *testing.T, d *zone.Dev, a api.Addr, errno api.Errno) {
	t.Helper()
	if b, got := d.Read(a); len(b) != 0 || got != errno {
		t.Fatalf("Read(%v): %x, %d, want error %d alone", a, b, got, errno)
	}
}

func wantAppend(t *testing.T, d *zone.Dev, at, block int, data []byte) {
	t.Helper()
	if a, errno := d.Append(at, data); errno != api.OK || a != (api.Addr{Zone: at, Block: block}) {
		t.Fatalf("Append(%d) of %d bytes: %v, %d, want block %d", at, len(data), a, errno, block)
	}
}

func wantNoAppend(t *testing.T, d *zone.Dev, at int, data []byte, errno api.Errno) {
	t.Helper()
	if a, got := d.Append(at, data); a != (api.Addr{}) || got != errno {
		t.Fatalf("Append(%d) of %d bytes: %v, %d, want error %d alone", at, len(data), a, got, errno)
	}
}

// opened is a small device that holds these zones.
func opened(t *testing.T, l []api.Zone) *zone.Dev {
	t.Helper()
	d := zone.Open(small, l)
	if d == nil {
		t.Fatal("Open: nil")
	}
	return d
}

func TestExamples(t *testing.T) {
	for _, row := range []struct {
		loss api.Loss
		last []byte
	}{
		{api.Loss{Keep: 1}, filled(1, 64)},
		{api.Loss{Torn: 3}, torn(filled(1, 64), 3)},
	} {
		d := zone.New(small)
		wantAppend(t, d, 0, 0, filled(0, 64))
		d.Flush()
		wantAppend(t, d, 0, 1, filled(1, 64))
		wantAppend(t, d, 0, 2, filled(2, 64))
		d.Crash([]api.Loss{row.loss})
		want(t, "example", d, zones(0, api.Zone{Blocks: [][]byte{filled(0, 64), row.last}, Durable: 2}))
	}
}

func TestErrorsNumbers(t *testing.T) {
	for errno, n := range map[api.Errno]uint16{api.ErrZoneArg: 100, api.ErrZoneFull: 101, api.ErrZoneRead: 102} {
		if uint16(errno) != n {
			t.Errorf("%d, want %d", errno, n)
		}
	}
}

func TestRight(t *testing.T) {
	far := []int{math.MinInt, math.MinInt + 3, -1 << 32, -64, -2, -1, 0, 1, 1 << 32, 1<<32 + 64, 1 << 62, math.MaxInt}
	for _, n := range far {
		for _, s := range []api.Shape{shape(n, 8, 64, 2), shape(6, n, 64, 2), shape(6, 8, n, 2), shape(6, 8, 64, n), shape(n, n, n, n)} {
			wantRight(t, s, false)
		}
	}
	for n := range 5000 {
		wantRight(t, shape(n, 8, 64, 2), n >= 6 && n <= 256)
		wantRight(t, shape(6, n, 64, 2), n >= 8 && n <= 4096)
		wantRight(t, shape(6, 8, n, 2), slices.Contains([]int{64, 128, 256, 512, 1024, 2048, 4096}, n))
	}
	wantRight(t, shape(6, 8, 8192, 2), false)
	for n := range 300 {
		for reserve := range 300 {
			wantRight(t, shape(n, 8, 64, reserve), n >= 6 && n <= 256 && reserve >= 2 && reserve <= n-4)
		}
	}
	wantRight(t, shape(256, 4096, 4096, 252), true)
}

func wantRight(t *testing.T, s api.Shape, right bool) {
	t.Helper()
	if got := zone.Right(s); got != right {
		t.Fatalf("Right(%v): %v", s, got)
	}
	if right {
		return
	}
	// As many zones as the shape says, where such a list can be made: it is the shape alone that is wrong.
	if zone.New(s) != nil || zone.Open(s, make([]api.Zone, max(0, min(s.Zones, 5000)))) != nil {
		t.Fatalf("New or Open of %v: not nil", s)
	}
}

func TestNewIsEmpty(t *testing.T) {
	for _, s := range []api.Shape{small, shape(7, 9, 128, 3), shape(256, 4096, 4096, 252)} {
		for what, d := range map[string]*zone.Dev{"New": zone.New(s), "Open": zone.Open(s, make([]api.Zone, s.Zones))} {
			if d == nil || d.Shape() != s {
				t.Fatalf("%s of %v", what, s)
			}
			want(t, what, d, make([]api.Zone, s.Zones))
			wantAppend(t, d, s.Zones-1, 0, filled(1, s.Block))
			wantNoAppend(t, d, s.Zones, filled(1, s.Block), api.ErrZoneArg)
		}
	}
}

func TestGreatestShape(t *testing.T) {
	s := shape(256, 4096, 4096, 252)
	d := zone.New(s)
	for i := range 4096 {
		wantAppend(t, d, 255, i, filled(i, 4096))
	}
	wantNoAppend(t, d, 255, filled(0, 4096), api.ErrZoneFull)
	d.Crash(append(make([]api.Loss, 255), api.Loss{Keep: 4094, Torn: 4095}))
	if n, m := d.At(255); n != 4095 || m != 4095 {
		t.Fatal(n, m)
	}
	for i := range 4094 {
		wantRead(t, "kept", d, api.Addr{Zone: 255, Block: i}, filled(i, 4096))
	}
	wantRead(t, "torn", d, api.Addr{Zone: 255, Block: 4094}, torn(filled(4094, 4096), 4095))
}

func TestOpenHolds(t *testing.T) {
	for n := range small.ZoneBlocks + 1 {
		for durable := range n + 1 {
			l := zones(5, api.Zone{Blocks: some(3, n), Durable: durable})
			l[0] = api.Zone{Blocks: some(90, 2), Durable: 1}
			before := copied(l)
			d := opened(t, l)
			if !slices.EqualFunc(l, before, sameZone) {
				t.Fatal("Open changed what it was given")
			}
			if d.Shape() != small {
				t.Fatal(d.Shape())
			}
			want(t, "Open", d, l)
			want(t, "Open of Zones", opened(t, d.Zones()), l)
			if n == small.ZoneBlocks {
				wantNoAppend(t, d, 5, filled(1, 64), api.ErrZoneFull)
			} else {
				wantAppend(t, d, 5, n, filled(1, 64))
			}
		}
	}
}

func TestOpenOfWrongZones(t *testing.T) {
	for _, n := range []int{0, 1, 5, 7, 256} {
		if zone.Open(small, make([]api.Zone, n)) != nil {
			t.Errorf("%d zones", n)
		}
	}
	if zone.Open(small, nil) != nil {
		t.Error("no zones")
	}
	// What lies behind the list's length is no zone of it.
	if zone.Open(small, make([]api.Zone, 5, 6)) != nil || zone.Open(small, make([]api.Zone, 7)[:6]) == nil {
		t.Error("the list's length")
	}
	for at := range small.Zones {
		for _, n := range []int{9, 10, 4096} {
			if zone.Open(small, zones(at, api.Zone{Blocks: some(0, n)})) != nil {
				t.Errorf("%d blocks", n)
			}
		}
		for _, n := range []int{0, 3, 8} {
			for _, durable := range []int{math.MinInt, -1, n + 1, math.MaxInt} {
				if zone.Open(small, zones(at, api.Zone{Blocks: some(0, n), Durable: durable})) != nil {
					t.Errorf("%d blocks, %d durable", n, durable)
				}
			}
		}
	}
}

func TestOpenOfWrongBlocks(t *testing.T) {
	for _, size := range []int{0, 1, 32, 63, 65, 127, 128, 4096} {
		for at := range small.Zones {
			for place := range small.ZoneBlocks {
				for _, n := range []int{place + 1, small.ZoneBlocks} {
					blocks := some(0, n)
					blocks[place] = filled(0, size)
					if zone.Open(small, zones(at, api.Zone{Blocks: blocks, Durable: place})) != nil {
						t.Fatalf("block %d of %d in zone %d has %d bytes", place, n, at, size)
					}
				}
			}
		}
	}
	nobody := some(0, 2)
	nobody[1] = nil
	if zone.Open(small, zones(0, api.Zone{Blocks: nobody})) != nil {
		t.Error("a nil block")
	}
}

func TestAppend(t *testing.T) {
	d := zone.New(small)
	model := make([]api.Zone, small.Zones)
	for i := range small.ZoneBlocks {
		for at := range small.Zones {
			data := filled(i*small.Zones+at, 64)
			wantAppend(t, d, at, i, data)
			model[at].Blocks = append(model[at].Blocks, data)
			want(t, "Append", d, model)
		}
	}
	for at := range small.Zones {
		wantNoAppend(t, d, at, filled(1, 64), api.ErrZoneFull)
	}
	want(t, "Append to full zones", d, model)
}

func TestAppendErrors(t *testing.T) {
	model := zones(2, api.Zone{Blocks: some(0, 8), Durable: 3})
	model[1] = api.Zone{Blocks: some(20, 3), Durable: 2}
	d := opened(t, model)
	for _, at := range wrongZones {
		for _, size := range []int{0, 63, 64, 65} {
			wantNoAppend(t, d, at, filled(1, size), api.ErrZoneArg)
		}
	}
	for _, size := range []int{0, 1, 32, 63, 65, 128, 4096} {
		for at := range small.Zones {
			wantNoAppend(t, d, at, filled(1, size), api.ErrZoneArg) // zone 2 is full too
		}
	}
	wantNoAppend(t, d, 0, nil, api.ErrZoneArg)
	wantNoAppend(t, d, 0, make([]byte, 63, 64), api.ErrZoneArg)
	wantNoAppend(t, d, 2, filled(1, 64), api.ErrZoneFull)
	want(t, "refused", d, model)
}

func TestReadErrors(t *testing.T) {
	d := opened(t, zones(1, api.Zone{Blocks: some(0, 3), Durable: 1}))
	for _, at := range wrongZones {
		for _, block := range []int{math.MinInt, -1, 0, 1, 3, math.MaxInt} {
			wantNoRead(t, d, api.Addr{Zone: at, Block: block}, api.ErrZoneArg)
		}
	}
	for _, block := range []int{math.MinInt, -1, 3, 4, 7, 8, 9, 64, math.MaxInt} {
		wantNoRead(t, d, api.Addr{Zone: 1, Block: block}, api.ErrZoneRead)
	}
	for _, block := range []int{math.MinInt, -1, 0, 1, math.MaxInt} {
		wantNoRead(t, d, api.Addr{Zone: 0, Block: block}, api.ErrZoneRead)
	}
}

func TestReset(t *testing.T) {
	full := make([]api.Zone, small.Zones)
	for i := range full {
		full[i] = api.Zone{Blocks: some(i*8, 8-i), Durable: 8 - i - i/2}
	}
	for at := range full {
		d := opened(t, full)
		left := copied(full)
		left[at] = api.Zone{}
		if errno := d.Reset(at); errno != api.OK {
			t.Fatal(errno)
		}
		want(t, "Reset", d, left)
		for i := range left {
			left[i].Blocks = left[i].Blocks[:left[i].Durable]
		}
		d.Crash(nil)
		want(t, "Crash behind Reset", d, left)
		wantAppend(t, d, at, 0, filled(200, 64))
		left[at].Blocks = [][]byte{filled(200, 64)}
		want(t, "Append behind Reset", d, left)
		d.Crash(append(make([]api.Loss, at), api.Loss{Keep: math.MaxInt, Torn: math.MaxInt}))
		left[at].Durable = 1
		want(t, "Crash behind all", d, left)
		if d.Reset(at) != api.OK || d.Reset(at) != api.OK {
			t.Fatal("twice")
		}
	}
}

func TestResetErrors(t *testing.T) {
	l := zones(0, api.Zone{Blocks: some(0, 3), Durable: 1})
	l[5] = api.Zone{Blocks: some(9, 1)}
	d := opened(t, l)
	for _, at := range wrongZones {
		if errno := d.Reset(at); errno != api.ErrZoneArg {
			t.Errorf("Reset(%d): %d", at, errno)
		}
	}
	want(t, "refused", d, l)
}

func TestFlush(t *testing.T) {
	l := make([]api.Zone, small.Zones)
	for i := range l {
		l[i] = api.Zone{Blocks: some(i*8, i+2), Durable: i}
	}
	l[3] = api.Zone{}
	d := opened(t, l)
	d.Flush()
	for i := range l {
		l[i].Durable = len(l[i].Blocks)
	}
	want(t, "Flush", d, l)
	d.Flush()
	want(t, "Flush again", d, l)
	d.Crash(nil)
	want(t, "Crash", d, l)
	wantAppend(t, d, 0, 2, filled(99, 64))
	l[0].Blocks = append(l[0].Blocks, filled(99, 64))
	want(t, "Append", d, l)
}

func TestAtOfNoZone(t *testing.T) {
	l := make([]api.Zone, small.Zones)
	for i := range l {
		l[i] = api.Zone{Blocks: some(0, 3), Durable: 2}
	}
	d := opened(t, l)
	for _, at := range wrongZones {
		if n, m := d.At(at); n != 0 || m != 0 {
			t.Errorf("At(%d): %d, %d", at, n, m)
		}
	}
}

// crashed is what the document says that a crash leaves of a zone, told by numbers.
func crashed(z api.Zone, loss api.Loss, size int) api.Zone {
	undone := z.Blocks[z.Durable:]
	keep, n := max(loss.Keep, 0), min(max(loss.Torn, 0), size)
	out := slices.Clone(z.Blocks[:z.Durable])
	if keep >= len(undone) {
		return api.Zone{Blocks: append(out, undone...), Durable: len(z.Blocks)}
	}
	out = append(out, undone[:keep]...)
	if n > 0 {
		out = append(out, torn(undone[keep], n))
	}
	return api.Zone{Blocks: out, Durable: len(out)}
}

func TestCrash(t *testing.T) {
	keeps := []int{math.MinInt, -1, 0, 1, 2, 3, 4, 5, 7, 8, 9, math.MaxInt}
	torns := []int{math.MinInt, -1, 0, 1, 2, 3, 32, 62, 63, 64, 65, 128, math.MaxInt}
	for n := range small.ZoneBlocks + 1 {
		for durable := range n + 1 {
			for _, keep := range keeps {
				for _, tear := range torns {
					z := api.Zone{Blocks: some(n*9+durable, n), Durable: durable}
					loss := api.Loss{Keep: keep, Torn: tear}
					d := opened(t, zones(4, z))
					d.Crash([]api.Loss{{}, {}, {}, {}, loss})
					want(t, "Crash", d, zones(4, crashed(z, loss, 64)))
				}
			}
		}
	}
}

func TestCrashNamesZonesByPlaces(t *testing.T) {
	l := make([]api.Zone, small.Zones)
	losses := make([]api.Loss, small.Zones+3)
	for i := range l {
		l[i] = api.Zone{Blocks: some(i*8, 6), Durable: i % 3}
		losses[i] = api.Loss{Keep: (i * 5) % 4, Torn: (i * 7) % 5}
	}
	for i := range losses[small.Zones:] {
		losses[small.Zones+i] = api.Loss{Keep: 4, Torn: 64} // of no zone
	}
	for n := range len(losses) + 1 {
		d := opened(t, l)
		before := slices.Clone(losses)
		d.Crash(losses[:n:n])
		left := make([]api.Zone, small.Zones)
		for i := range left {
			var loss api.Loss
			if i < n {
				loss = losses[i]
			}
			left[i] = crashed(l[i], loss, 64)
		}
		want(t, "Crash", d, left)
		e := opened(t, l)
		e.Crash(losses[:n]) // more losses lie behind the list's length
		want(t, "Crash of a longer memory", e, left)
		if !slices.Equal(losses, before) {
			t.Fatal("Crash changed its losses")
		}
	}
	d := opened(t, l)
	d.Crash(nil)
	e := opened(t, l)
	e.Crash([]api.Loss{})
	want(t, "no losses", d, e.Zones())
}

func TestWhatStaysIsDurable(t *testing.T) {
	l := zones(0, api.Zone{Blocks: some(0, 5), Durable: 2})
	d := opened(t, l)
	d.Crash([]api.Loss{{Keep: 1, Torn: 5}})
	left := zones(0, api.Zone{Blocks: append(some(0, 3), torn(filled(3, 64), 5)), Durable: 4})
	want(t, "Crash", d, left)
	for _, losses := range [][]api.Loss{nil, {{Torn: 2}}, {{Keep: 9, Torn: 9}}, {{Keep: -1, Torn: -1}}} {
		d.Crash(losses)
		want(t, "Crash again", d, left)
	}
	// A torn block has its place for good: the next one stands behind it.
	wantAppend(t, d, 0, 4, filled(50, 64))
	left[0].Blocks = append(left[0].Blocks, filled(50, 64))
	want(t, "Append", d, left)
}

// What holds: what is durable stays through each crash, and is read as it was written, till Reset.
func TestDurableStays(t *testing.T) {
	d := zone.New(small)
	model := make([]api.Zone, small.Zones)
	x := uint32(7)
	draw := func(n int) int {
		x = x*1664525 + 1013904223
		return int(x>>8) % n
	}
	for step := range 3000 {
		at := draw(small.Zones)
		switch draw(5) {
		case 0, 1:
			if _, errno := d.Append(at, filled(step, 64)); errno == api.OK {
				model[at].Blocks = append(model[at].Blocks, filled(step, 64))
			}
		case 2:
			d.Flush()
			for i := range model {
				model[i].Durable = len(model[i].Blocks)
			}
		case 3:
			losses := make([]api.Loss, draw(8))
			for i := range losses {
				losses[i] = api.Loss{Keep: draw(5) - 1, Torn: draw(70) - 3}
			}
			for i := range model {
				for j, block := range model[i].Blocks[:model[i].Durable] {
					wantRead(t, "ahead of the crash", d, api.Addr{Zone: i, Block: j}, block)
				}
			}
			d.Crash(losses)
			for i, z := range d.Zones() {
				if z.Durable != len(z.Blocks) || z.Durable < model[i].Durable || !slices.EqualFunc(z.Blocks[:model[i].Durable], model[i].Blocks[:model[i].Durable], bytes.Equal) {
					t.Fatalf("step %d: zone %d lost what was durable", step, i)
				}
				model[i] = z
			}
		case 4:
			if draw(6) == 0 {
				d.Reset(at)
				model[at] = api.Zone{}
			}
		}
	}
}

func TestMemoryOfArguments(t *testing.T) {
	l := zones(1, api.Zone{Blocks: some(0, 3), Durable: 2})
	kept := copied(l)
	d := opened(t, l)
	data := append(filled(9, 64), filled(10, 64)...)
	before := bytes.Clone(data)
	wantAppend(t, d, 1, 3, data[:64])
	if !bytes.Equal(data, before) {
		t.Error("Append changed its data")
	}
	kept[1].Blocks = append(kept[1].Blocks, filled(9, 64))
	clear(data)
	for _, block := range l[1].Blocks {
		clear(block)
	}
	clear(l[1].Blocks)
	clear(l)
	want(t, "cleared arguments", d, kept)
}

func TestOpenOfOneBlockManyTimes(t *testing.T) {
	block := filled(3, 64)
	l := make([]api.Zone, small.Zones)
	for i := range l {
		l[i] = api.Zone{Blocks: slices.Repeat([][]byte{block}, 8)}
	}
	d := opened(t, l)
	d.Crash([]api.Loss{{Keep: 1, Torn: 1}, {Keep: 9}, {Torn: 2}})
	wantRead(t, "a block that shared memory with a torn one", d, api.Addr{Zone: 1, Block: 7}, filled(3, 64))
	wantRead(t, "whole", d, api.Addr{}, filled(3, 64))
	wantRead(t, "torn", d, api.Addr{Block: 1}, torn(filled(3, 64), 1))
	wantRead(t, "torn", d, api.Addr{Zone: 2}, torn(filled(3, 64), 2))
	if !bytes.Equal(block, filled(3, 64)) {
		t.Error("Open's blocks were changed")
	}
}

// spoil writes over all memory of zones, that behind lists' lengths too.
func spoil(l []api.Zone) {
	for _, z := range l[:cap(l)] {
		for _, block := range z.Blocks[:cap(z.Blocks)] {
			block = block[:cap(block)]
			for i := range block {
				block[i] = 0xee
			}
		}
		clear(z.Blocks[:cap(z.Blocks)])
	}
	clear(l[:cap(l)])
}

func TestMemoryOfAnswers(t *testing.T) {
	l := zones(1, api.Zone{Blocks: some(0, 5), Durable: 2})
	l[3] = api.Zone{Blocks: some(30, 8), Durable: 8}
	left := copied(l)
	left[1].Durable = 5
	crashed := opened(t, l)
	wantAppend(t, crashed, 1, 5, filled(99, 64))
	crashed.Crash([]api.Loss{{}, {Keep: 3}})
	for _, row := range []struct {
		d *zone.Dev
		l []api.Zone
	}{{opened(t, l), l}, {crashed, left}} {
		first, second := row.d.Zones(), row.d.Zones()
		spoil(first)
		if !slices.EqualFunc(second, row.l, sameZone) {
			t.Error("two answers of Zones share memory")
		}
		spoil(second)
		want(t, "spoilt answers", row.d, row.l)
		a, _ := row.d.Read(api.Addr{Zone: 1, Block: 4})
		b, _ := row.d.Read(api.Addr{Zone: 1, Block: 4})
		clear(a[:cap(a)])
		if !bytes.Equal(b, filled(4, 64)) {
			t.Error("two answers of Read share memory")
		}
		clear(b[:cap(b)])
		want(t, "spoilt blocks", row.d, row.l)
	}
}

// One answer's lists have memory of their own, behind their lengths too.
func TestListsOfOneAnswerAreApart(t *testing.T) {
	l := zones(1, api.Zone{Blocks: some(0, 5), Durable: 2})
	l[2] = api.Zone{Blocks: some(30, 8), Durable: 8}
	out := opened(t, l).Zones()
	for i := range out {
		for j := range out[i].Blocks {
			_ = append(out[i].Blocks[j], filled(77, 64)...)
		}
		_ = append(out[i].Blocks, filled(78, 64))
	}
	if !slices.EqualFunc(out, l, sameZone) {
		t.Error("lists of one answer overlap")
	}
}

// A crash leaves Zones' earlier answers as they were, and what is behind a crash is written over nothing else.
func TestEarlierAnswersStay(t *testing.T) {
	l := zones(0, api.Zone{Blocks: some(0, 6), Durable: 1})
	d := opened(t, l)
	early := d.Zones()
	block, _ := d.Read(api.Addr{Block: 2})
	d.Crash([]api.Loss{{Keep: 1, Torn: 1}})
	wantAppend(t, d, 0, 3, filled(60, 64))
	d.Flush()
	d.Reset(0)
	wantAppend(t, d, 0, 0, filled(61, 64))
	if !slices.EqualFunc(early, l, sameZone) || !bytes.Equal(block, filled(2, 64)) {
		t.Error("an earlier answer was changed")
	}
}

func TestDevicesAreApart(t *testing.T) {
	l := zones(2, api.Zone{Blocks: some(0, 5), Durable: 2})
	a, b, c := opened(t, l), opened(t, l), opened(t, l)
	b.Crash([]api.Loss{{}, {}, {Keep: 1, Torn: 9}})
	wantAppend(t, b, 2, 4, filled(50, 64))
	c.Flush()
	c.Reset(2)
	wantAppend(t, c, 2, 0, filled(51, 64))
	want(t, "the first of three", a, l)
	want(t, "what they were opened with", opened(t, l), l)
	want(t, "a new one", zone.New(small), make([]api.Zone, small.Zones))
}

func TestCallsThatTellChangeNothing(t *testing.T) {
	l := zones(2, api.Zone{Blocks: some(0, 5), Durable: 2})
	d := opened(t, l)
	for range 3 {
		want(t, "asked again", d, l)
		d.Shape()
	}
	d.Crash(nil)
	want(t, "asking flushes nothing", d, zones(2, api.Zone{Blocks: some(0, 2), Durable: 2}))
}

// FuzzDevice holds a device against a list of zones on which the document's words are done, for any calls.
func FuzzDevice(f *testing.F) {
	f.Add([]byte{0, 0, 64, 2, 0, 0, 0, 0, 64, 3, 0, 3})
	f.Add([]byte{0, 1, 64, 0, 1, 64, 3, 1, 1, 1, 2, 5, 1, 1, 0})
	f.Add([]byte{4, 0, 1, 7, 64, 0, 255, 64, 5, 9, 9, 3, 6})
	f.Fuzz(func(t *testing.T, b []byte) {
		next := func() int {
			if len(b) == 0 {
				return 0
			}
			x := b[0]
			b = b[1:]
			return int(x)
		}
		d := zone.New(small)
		model := make([]api.Zone, small.Zones)
		for step := 0; len(b) > 0 && step < 200; step++ {
			kind := next()
			at := int(int8(next()))
			has := at >= 0 && at < small.Zones
			switch kind % 6 {
			case 0, 5:
				data := filled(step, 60+next()%8)
				switch {
				case !has || len(data) != 64:
					wantNoAppend(t, d, at, data, api.ErrZoneArg)
				case len(model[at].Blocks) == 8:
					wantNoAppend(t, d, at, data, api.ErrZoneFull)
				default:
					wantAppend(t, d, at, len(model[at].Blocks), data)
					model[at].Blocks = append(model[at].Blocks, data)
				}
			case 1:
				errno := d.Reset(at)
				if has {
					model[at] = api.Zone{}
				}
				if has != (errno == api.OK) || !has && errno != api.ErrZoneArg {
					t.Fatal(at, errno)
				}
			case 2:
				d.Flush()
				for i := range model {
					model[i].Durable = len(model[i].Blocks)
				}
			case 3:
				losses := make([]api.Loss, next()%8)
				for i := range losses {
					losses[i] = api.Loss{Keep: int(int8(next())) / 8, Torn: int(int8(next()))}
				}
				d.Crash(losses)
				losses = append(losses, make([]api.Loss, small.Zones)...)
				for i := range model {
					model[i] = crashed(model[i], losses[i], 64)
				}
			case 4:
				a := api.Addr{Zone: at, Block: int(int8(next()))}
				switch {
				case !has:
					wantNoRead(t, d, a, api.ErrZoneArg)
				case a.Block < 0 || a.Block >= len(model[at].Blocks):
					wantNoRead(t, d, a, api.ErrZoneRead)
				default:
					wantRead(t, "Read", d, a, model[at].Blocks[a.Block])
				}
				d = opened(t, d.Zones())
			}
			want(t, "any calls", d, model)
		}
	})
}

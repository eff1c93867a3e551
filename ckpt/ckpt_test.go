package ckpt_test

import (
	"bytes"
	"encoding/binary"
	"encoding/hex"
	"hash/crc32"
	"math"
	"slices"
	"testing"

	"coaming/api"
	"coaming/ckpt"
)

// Where a block's numbers stand.
const (
	sumAt    = 4
	placeAt  = 8
	manyAt   = 12
	seqAt    = 16
	countAt  = 24
	placesAt = 26
	perPlace = 16
)

func shape(zones, blocks, block, reserve int) api.Shape {
	return api.Shape{Zones: zones, ZoneBlocks: blocks, Block: block, Reserve: reserve}
}

// small is the smallest shape that may be.
func small() api.Shape { return shape(6, 8, 64, 2) }

// rooms are the sizes that a block may have, and the document's room of each.
func rooms() map[int]int {
	return map[int]int{64: 2, 128: 6, 256: 14, 512: 30, 1024: 62, 2048: 126, 4096: 254}
}

// sizes are those of rooms, rising.
func sizes() []int { return []int{64, 128, 256, 512, 1024, 2048, 4096} }

// numbers give any, without a short period, the same in every run.
type numbers struct{ x uint64 }

func (n *numbers) next() uint64 {
	n.x = n.x*6364136223846793005 + 1442695040888963407
	return n.x>>29 ^ n.x<<35
}

func (n *numbers) below(limit int) int { return int(n.next() % uint64(limit)) }

func (n *numbers) bytes(count int) []byte {
	out := make([]byte, count)
	for i := range out {
		out[i] = byte(n.next())
	}
	return out
}

// state is any with so many places, of few tenants, for a shape.
func (n *numbers) state(s api.Shape, places int) api.State {
	st := api.State{Seq: n.next()}
	tenant, block := uint32(n.next()%5), n.next()%7
	for range places {
		at := api.Addr{Zone: 2 + n.below(s.Zones-2), Block: n.below(s.ZoneBlocks)}
		st.Places = append(st.Places, api.Place{Tenant: tenant, Block: block, At: at})
		if block++; n.next()%9 == 0 {
			tenant, block = tenant+1+uint32(n.next()%1000), n.next()>>32
		}
	}
	return st
}

// sealed is a block with the sum that it should have, by the library.
func sealed(b []byte) []byte {
	out := bytes.Clone(b)
	clear(out[sumAt : sumAt+4])
	binary.BigEndian.PutUint32(out[sumAt:], crc32.ChecksumIEEE(out))
	return out
}

// sheet is one block, by the library, with whatever numbers; it may be too long, and has its last byte still.
func sheet(block, place, many int, seq uint64, places []api.Place) []byte {
	out := []byte{0x43, 0x4b, 0x50, 0x54, 0, 0, 0, 0}
	out = binary.BigEndian.AppendUint32(out, uint32(place))
	out = binary.BigEndian.AppendUint32(out, uint32(many))
	out = binary.BigEndian.AppendUint64(out, seq)
	out = binary.BigEndian.AppendUint16(out, uint16(len(places)))
	for _, p := range places {
		out = binary.BigEndian.AppendUint32(out, p.Tenant)
		out = binary.BigEndian.AppendUint64(out, p.Block)
		out = binary.BigEndian.AppendUint16(out, uint16(p.At.Zone))
		out = binary.BigEndian.AppendUint16(out, uint16(p.At.Block))
	}
	out = append(out, make([]byte, max(block-len(out), 0))...)[:block]
	out[block-1] = 0xe7
	return sealed(out)
}

// laid is a state's blocks, by the library, also of a state that has none.
func laid(block int, st api.State) [][]byte {
	room := rooms()[block]
	many := max(1, (len(st.Places)+room-1)/room)
	var out [][]byte
	for i := range many {
		out = append(out, sheet(block, i, many, st.Seq, st.Places[i*room:min((i+1)*room, len(st.Places))]))
	}
	return out
}

// may says whether the document lets a state be for a shape that is right, but for its length.
func may(s api.Shape, st api.State) bool {
	for i, p := range st.Places {
		if p.At.Zone < 2 || p.At.Zone >= s.Zones || p.At.Block < 0 || p.At.Block >= s.ZoneBlocks {
			return false
		}
		if i == 0 {
			continue
		}
		q := st.Places[i-1]
		if p.Tenant < q.Tenant || p.Tenant == q.Tenant && p.Block <= q.Block {
			return false
		}
	}
	return true
}

// told is the state that blocks are, by the library, for a shape that is right.
func told(s api.Shape, l [][]byte) (api.State, bool) {
	var st api.State
	for _, b := range l {
		if len(b) != s.Block {
			return api.State{}, false
		}
		st.Seq = binary.BigEndian.Uint64(b[seqAt:])
		count := int(binary.BigEndian.Uint16(b[countAt:]))
		if count > rooms()[s.Block] {
			return api.State{}, false
		}
		for i := range count {
			x := b[placesAt+i*perPlace:]
			st.Places = append(st.Places, api.Place{
				Tenant: binary.BigEndian.Uint32(x),
				Block:  binary.BigEndian.Uint64(x[4:]),
				At:     api.Addr{Zone: int(binary.BigEndian.Uint16(x[12:])), Block: int(binary.BigEndian.Uint16(x[14:]))},
			})
		}
	}
	is := len(l) <= s.ZoneBlocks && may(s, st) && slices.EqualFunc(laid(s.Block, st), l, bytes.Equal)
	return st, is
}

// torn is a block of which the first so many bytes are left.
func torn(b []byte, left int) []byte {
	return append(bytes.Clone(b[:left]), make([]byte, len(b)-left)...)
}

// copied are blocks in memory of their own.
func copied(l [][]byte) [][]byte {
	out := make([][]byte, len(l))
	for i, b := range l {
		out[i] = bytes.Clone(b)
	}
	return out
}

// with are blocks of which one is another.
func with(l [][]byte, at int, b []byte) [][]byte {
	out := slices.Clone(l)
	out[at] = b
	return out
}

func same(a, b api.State) bool { return a.Seq == b.Seq && slices.Equal(a.Places, b.Places) }

func sameBlocks(a, b [][]byte) bool { return slices.EqualFunc(a, b, bytes.Equal) }

func wantEncode(t *testing.T, s api.Shape, st api.State) [][]byte {
	t.Helper()
	l, errno := ckpt.Encode(s, st)
	if errno != api.OK || !sameBlocks(l, laid(s.Block, st)) {
		t.Fatalf("Encode of %d places for %v: %d blocks, %d, and not the right ones", len(st.Places), s, len(l), errno)
	}
	return l
}

func wantNoEncode(t *testing.T, what string, s api.Shape, st api.State, want api.Errno) {
	t.Helper()
	if l, errno := ckpt.Encode(s, st); len(l) != 0 || errno != want {
		t.Errorf("Encode of %s (%d places) for %v: %d blocks, %d, want error %d alone", what, len(st.Places), s, len(l), errno, want)
	}
}

func wantDecode(t *testing.T, s api.Shape, l [][]byte, want api.State) {
	t.Helper()
	if st, errno := ckpt.Decode(s, l); errno != api.OK || !same(st, want) {
		t.Fatalf("Decode of %d blocks for %v: %d with %d places, %d, want %d with %d", len(l), s, st.Seq, len(st.Places), errno, want.Seq, len(want.Places))
	}
}

func wantNoDecode(t *testing.T, what string, s api.Shape, l [][]byte) {
	t.Helper()
	if st, errno := ckpt.Decode(s, l); st.Seq != 0 || len(st.Places) != 0 || errno != api.ErrCkptForm {
		t.Errorf("Decode of %s (%d blocks) for %v: %v, %d, want error 141 alone", what, len(l), s, st, errno)
	}
}

func TestErrorsAreTheDocuments(t *testing.T) {
	if api.ErrCkptLong != 140 || api.ErrCkptForm != 141 || api.ErrCkptNone != 142 {
		t.Errorf("%d, %d, %d", api.ErrCkptLong, api.ErrCkptForm, api.ErrCkptNone)
	}
}

func TestRoom(t *testing.T) {
	want := rooms()
	for block := -5000; block <= 70000; block++ {
		if got := ckpt.Room(block); got != want[block] {
			t.Errorf("Room of %d: %d, want %d", block, got, want[block])
		}
	}
	far := []int{math.MinInt, math.MinInt + 64, math.MinInt32, math.MaxInt32, math.MaxInt - 63, math.MaxInt}
	for bit := 13; bit < 63; bit++ {
		far = append(far, -1<<bit, 1<<bit, 1<<bit+64, 1<<bit+4096)
	}
	for _, block := range far {
		if got := ckpt.Room(block); got != 0 {
			t.Errorf("Room of %d: %d", block, got)
		}
	}
}

// The document's numbers, each byte of them in its place.
func TestBytesOfACheckpoint(t *testing.T) {
	s := shape(256, 4096, 64, 2)
	st := api.State{Seq: 0x0102030405060708, Places: []api.Place{
		{Tenant: 0x11121314, Block: 0x15161718191a1b1c, At: api.Addr{Zone: 2, Block: 7}},
		{Tenant: 0x11121314, Block: 0x15161718191a1b1d, At: api.Addr{Zone: 255, Block: 0}},
		{Tenant: 0x21222324, Block: 0x25262728292a2b2c, At: api.Addr{Zone: 3, Block: 0x0ffe}},
	}}
	texts := []string{
		"434b5054" + "06e339fb" + "00000000" + "00000002" + "0102030405060708" + "0002" +
			"11121314" + "15161718191a1b1c" + "0002" + "0007" +
			"11121314" + "15161718191a1b1d" + "00ff" + "0000" +
			"0000000000" + "e7",
		"434b5054" + "b645685d" + "00000001" + "00000002" + "0102030405060708" + "0001" +
			"21222324" + "25262728292a2b2c" + "0003" + "0ffe" +
			"00000000000000000000000000000000" + "0000000000" + "e7",
	}
	var want [][]byte
	for _, text := range texts {
		b, err := hex.DecodeString(text)
		if err != nil {
			t.Fatal(err)
		}
		want = append(want, b)
	}
	if l, errno := ckpt.Encode(s, st); errno != api.OK || !sameBlocks(l, want) {
		t.Errorf("Encode: %x, %d, want %x", l, errno, want)
	}
	wantDecode(t, s, want, st)
}

// A state without places has a block still, whatever the shape.
func TestEncodeOfNothing(t *testing.T) {
	for _, block := range sizes() {
		for _, seq := range []uint64{0, 1, 5, 1<<32 - 1, 1 << 63, math.MaxUint64} {
			for _, places := range [][]api.Place{nil, {}} {
				s := shape(6, 8, block, 2)
				st := api.State{Seq: seq, Places: places}
				l := wantEncode(t, s, st)
				if len(l) != 1 || len(l[0]) != block {
					t.Errorf("Encode of nothing: %d blocks", len(l))
				}
				wantDecode(t, s, l, st)
			}
		}
	}
}

// Any count of places that fits, for each size of a block; at the edges a block more is asked for.
func TestThereAndBack(t *testing.T) {
	n := &numbers{1}
	for _, block := range sizes() {
		s := shape(12, 8, block, 3)
		room := rooms()[block]
		for places := range 8*room + 1 {
			if r := places % room; places > 40 && r > 1 && r < room-1 {
				continue
			}
			st := n.state(s, places)
			l := wantEncode(t, s, st)
			if want := max(1, (places+room-1)/room); len(l) != want {
				t.Fatalf("%d places: %d blocks, want %d", places, len(l), want)
			}
			wantDecode(t, s, l, st)
		}
	}
}

func TestThereAndBackForAnyShape(t *testing.T) {
	n := &numbers{2}
	for range 200 {
		zones := 6 + n.below(251)
		s := shape(zones, 8+n.below(100), 64<<n.below(4), 2+n.below(zones-5))
		st := n.state(s, n.below(s.ZoneBlocks*rooms()[s.Block]+1))
		wantDecode(t, s, wantEncode(t, s, st), st)
	}
}

// As many places as there ever may be, and one more.
func TestTheGreatestCheckpoint(t *testing.T) {
	s := shape(256, 4096, 4096, 2)
	st := (&numbers{3}).state(s, 4096*254)
	l, errno := ckpt.Encode(s, st)
	if errno != api.OK || len(l) != 4096 {
		t.Fatalf("Encode: %d blocks, %d", len(l), errno)
	}
	wantDecode(t, s, l, st)
	last := st.Places[len(st.Places)-1]
	last.Block++
	st.Places = append(st.Places, last)
	wantNoEncode(t, "one more", s, st, api.ErrCkptLong)
}

func TestEdgesOfNumbers(t *testing.T) {
	s := shape(256, 4096, 64, 252)
	for _, seq := range []uint64{0, 1, 255, 256, 1<<32 - 1, 1 << 32, 1 << 63, math.MaxUint64} {
		for _, places := range [][]api.Place{
			{{At: api.Addr{Zone: 2}}},
			{{At: api.Addr{Zone: 255, Block: 4095}}},
			{{Tenant: math.MaxUint32, Block: math.MaxUint64, At: api.Addr{Zone: 255, Block: 4095}}},
			{{Tenant: 1, Block: math.MaxUint64, At: api.Addr{Zone: 2}}, {Tenant: 2, At: api.Addr{Zone: 2, Block: 1}}},
			{{Tenant: 1, Block: 1<<63 - 1, At: api.Addr{Zone: 9}}, {Tenant: 1, Block: 1 << 63, At: api.Addr{Zone: 8}}},
			{{Tenant: 1<<31 - 1, At: api.Addr{Zone: 9}}, {Tenant: 1 << 31, At: api.Addr{Zone: 8}}},
			{{Tenant: 0, Block: 256, At: api.Addr{Zone: 9, Block: 256}}, {Tenant: 255, At: api.Addr{Zone: 8, Block: 255}}, {Tenant: 256, At: api.Addr{Zone: 8, Block: 257}}},
		} {
			st := api.State{Seq: seq, Places: places}
			wantDecode(t, s, wantEncode(t, s, st), st)
		}
	}
}

// The document says of tenants and blocks that they rise, not of where they are: places may fall, and two blocks be at one.
func TestWhereBlocksAreMayBeInAnyOrder(t *testing.T) {
	high, low := api.Addr{Zone: 5, Block: 7}, api.Addr{Zone: 2, Block: 0}
	for _, at := range [][]api.Addr{{high, low, high}, {low, high, low}, {low, low, low}, {high, high, high}} {
		st := api.State{Seq: 1}
		for i, a := range at {
			st.Places = append(st.Places, api.Place{Tenant: 1, Block: uint64(i), At: a})
		}
		wantDecode(t, small(), wantEncode(t, small(), st), st)
	}
}

// wrongShapes are those that may not be, each for one number alone.
func wrongShapes() []api.Shape {
	out := []api.Shape{{}}
	for _, n := range []int{math.MinInt, -64, -1, 0, 1, 5, 257, 512, math.MaxInt} {
		out = append(out, shape(n, 8, 64, 2))
	}
	for _, n := range []int{math.MinInt, -1, 0, 1, 7, 4097, 8192, math.MaxInt} {
		out = append(out, shape(6, n, 64, 2))
	}
	for _, n := range []int{math.MinInt, -64, 0, 1, 26, 27, 32, 43, 63, 65, 96, 100, 127, 4095, 4097, 8192, 1 << 40, math.MaxInt} {
		out = append(out, shape(6, 8, n, 2))
	}
	for _, n := range []int{math.MinInt, -1, 0, 1, 3, 4, math.MaxInt} {
		out = append(out, shape(6, 8, 64, n))
	}
	return append(out, shape(256, 8, 64, 253))
}

func TestWrongShapes(t *testing.T) {
	n := &numbers{4}
	for _, s := range wrongShapes() {
		for _, places := range []int{0, 1, 2, 3, 16, 17, 1000} {
			st := n.state(small(), places)
			wantNoEncode(t, "any state", s, st, api.ErrCkptForm)
			wantNoDecode(t, "any blocks", s, laid(64, st))
		}
		wantNoDecode(t, "nothing", s, nil)
		wantNoDecode(t, "a block of no bytes", s, [][]byte{nil})
		if s.Block > 26 && s.Block < 10000 {
			wantNoDecode(t, "a block of that length", s, [][]byte{sheet(s.Block, 0, 1, 1, nil)})
		}
	}
}

// wrongSpots are those that no block of the log has, of a small shape.
func wrongSpots() []api.Addr {
	var out []api.Addr
	for _, zone := range []int{math.MinInt, -256, -1, 0, 1, 6, 7, 256, 65536, 65536 + 2, 1<<32 + 2, math.MaxInt} {
		out = append(out, api.Addr{Zone: zone}, api.Addr{Zone: zone, Block: 7}, api.Addr{Zone: zone, Block: 8})
	}
	for _, block := range []int{math.MinInt, -8, -1, 8, 9, 4096, 65536, 1 << 32, math.MaxInt} {
		out = append(out, api.Addr{Zone: 2, Block: block}, api.Addr{Zone: 5, Block: block})
	}
	return out
}

// One wrong place is enough, wherever it stands; and no blocks are such a state's.
func TestWrongSpots(t *testing.T) {
	n := &numbers{5}
	for _, at := range wrongSpots() {
		for _, places := range []int{1, 2, 5, 16} {
			for i := range places {
				st := n.state(small(), places)
				st.Places[i].At = at
				wantNoEncode(t, "a wrong spot", small(), st, api.ErrCkptForm)
				if at.Zone == int(uint16(at.Zone)) && at.Block == int(uint16(at.Block)) {
					wantNoDecode(t, "a wrong spot", small(), laid(64, st))
				}
			}
		}
	}
	for zone := 2; zone < 6; zone++ {
		for block := range 8 {
			st := api.State{Seq: 9, Places: []api.Place{{Tenant: 4, Block: 3, At: api.Addr{Zone: zone, Block: block}}}}
			wantDecode(t, small(), wantEncode(t, small(), st), st)
		}
	}
}

// Which spots there are is the shape's to say.
func TestSpotsOfTheShape(t *testing.T) {
	st := api.State{Places: []api.Place{{At: api.Addr{Zone: 9, Block: 20}}}}
	right, fewerZones, fewerBlocks := shape(10, 21, 64, 2), shape(9, 21, 64, 2), shape(10, 20, 64, 2)
	l := wantEncode(t, right, st)
	wantDecode(t, right, l, st)
	wantDecode(t, shape(256, 4096, 64, 100), l, st)
	for _, s := range []api.Shape{fewerZones, fewerBlocks} {
		wantNoEncode(t, "a spot that is not there", s, st, api.ErrCkptForm)
		wantNoDecode(t, "a spot that is not there", s, l)
	}
}

// Two places one behind the other that do not rise are enough, wherever they stand, also where one block ends and the next one begins.
func TestPlacesThatDoNotRise(t *testing.T) {
	at := api.Addr{Zone: 3, Block: 4}
	pairs := [][2]api.Place{
		{{Tenant: 5, Block: 5, At: at}, {Tenant: 5, Block: 5, At: at}},
		{{Tenant: 5, Block: 5, At: at}, {Tenant: 5, Block: 5, At: api.Addr{Zone: 3, Block: 5}}},
		{{Tenant: 5, Block: 5, At: at}, {Tenant: 5, Block: 4, At: at}},
		{{Tenant: 5, Block: 5, At: at}, {Tenant: 4, Block: 5, At: at}},
		{{Tenant: 5, Block: 5, At: at}, {Tenant: 4, Block: 6, At: at}},
		{{Tenant: 5, Block: 5, At: at}, {Tenant: 4, Block: math.MaxUint64, At: at}},
		{{Tenant: 5, Block: 1 << 63, At: at}, {Tenant: 5, Block: 1<<63 - 1, At: at}},
		{{Tenant: 5, Block: 1 << 32, At: at}, {Tenant: 5, Block: 1, At: at}},
		{{Tenant: 1 << 31, Block: 5, At: at}, {Tenant: 5, Block: 6, At: at}},
	}
	for _, pair := range pairs {
		for ahead := range 6 {
			st := api.State{Seq: 1}
			for i := range ahead {
				st.Places = append(st.Places, api.Place{Tenant: 1, Block: uint64(i), At: at})
			}
			wantEncode(t, small(), st)
			st.Places = append(st.Places, pair[0])
			wantEncode(t, small(), st)
			st.Places = append(st.Places, pair[1])
			wantNoEncode(t, "places that do not rise", small(), st, api.ErrCkptForm)
			wantNoDecode(t, "places that do not rise", small(), laid(64, st))
			st.Places = append(st.Places, api.Place{Tenant: math.MaxUint32, Block: 1, At: at})
			wantNoEncode(t, "places of which some do not rise", small(), st, api.ErrCkptForm)
			wantNoDecode(t, "places of which some do not rise", small(), laid(64, st))
		}
	}
}

func TestEncodeOfTooMany(t *testing.T) {
	n := &numbers{6}
	for _, block := range sizes() {
		for _, blocks := range []int{8, 9, 40} {
			s := shape(6, blocks, block, 2)
			most := blocks * rooms()[block]
			st := n.state(s, most)
			wantDecode(t, s, wantEncode(t, s, st), st)
			for _, places := range []int{most + 1, most + 2, most + rooms()[block], 2 * most, most + 65536} {
				st := n.state(s, places)
				wantNoEncode(t, "too many", s, st, api.ErrCkptLong)
			}
			long := laid(block, n.state(s, most+1))
			wantNoDecode(t, "one block too many", s, long)
			wantNoDecode(t, "one block too many, of which the last is left away", s, long[:blocks])
		}
	}
}

// Where both errors apply it is the form's, wherever the fault stands.
func TestFormIsToldAheadOfLength(t *testing.T) {
	n := &numbers{7}
	for _, places := range []int{17, 18, 40} {
		for i := range places {
			st := n.state(small(), places)
			wantNoEncode(t, "too many", small(), st, api.ErrCkptLong)
			st.Places[i].At.Zone = 1
			wantNoEncode(t, "too many with a wrong spot", small(), st, api.ErrCkptForm)
			st.Places[i].At.Zone = 2
			if i > 0 {
				st.Places[i].Tenant, st.Places[i].Block = st.Places[i-1].Tenant, st.Places[i-1].Block
				wantNoEncode(t, "too many that do not rise", small(), st, api.ErrCkptForm)
			}
		}
		wantNoEncode(t, "too many for no shape", api.Shape{}, n.state(small(), places), api.ErrCkptForm)
	}
}

func TestDecodeOfNothing(t *testing.T) {
	n := &numbers{8}
	for _, block := range sizes() {
		s := shape(6, 8, block, 2)
		wantNoDecode(t, "nil", s, nil)
		wantNoDecode(t, "nothing", s, [][]byte{})
		wantNoDecode(t, "a block that is nil", s, [][]byte{nil})
		wantNoDecode(t, "blocks of no bytes", s, make([][]byte, 3))
		for _, b := range []byte{0, 1, 0x43, 0xe7, 0xff} {
			full := bytes.Repeat([]byte{b}, block)
			wantNoDecode(t, "one byte again and again", s, [][]byte{full})
			wantNoDecode(t, "one byte again and again", s, [][]byte{full, full})
		}
		wantNoDecode(t, "any bytes", s, [][]byte{n.bytes(block)})
	}
}

// All blocks, each once, in their order, and nothing else.
func TestDecodeOfOtherBlocks(t *testing.T) {
	n := &numbers{9}
	for _, block := range []int{64, 256} {
		s := shape(6, 8, block, 2)
		for many := 1; many <= 8; many++ {
			st := n.state(s, many*rooms()[block]-1)
			l := laid(block, st)
			wantDecode(t, s, l, st)
			for i := range many {
				wantNoDecode(t, "a front", s, l[:i])
				wantNoDecode(t, "an end", s, l[i+1:])
				wantNoDecode(t, "all but one", s, slices.Delete(slices.Clone(l), i, i+1))
				wantNoDecode(t, "one twice", s, slices.Insert(slices.Clone(l), i, l[i]))
				wantNoDecode(t, "one more behind", s, append(slices.Clone(l), l[i]))
				wantNoDecode(t, "one of no bytes", s, with(l, i, nil))
				wantNoDecode(t, "one of 00", s, with(l, i, make([]byte, block)))
				for j := range i {
					turned := slices.Clone(l)
					turned[i], turned[j] = l[j], l[i]
					wantNoDecode(t, "two the other way round", s, turned)
					wantNoDecode(t, "one instead of another", s, with(l, i, l[j]))
				}
			}
			wantNoDecode(t, "00 behind", s, append(slices.Clone(l), make([]byte, block)))
			wantNoDecode(t, "no bytes behind", s, append(slices.Clone(l), nil))
			wantNoDecode(t, "twice all", s, slices.Concat(l, l))
		}
	}
}

// Blocks of two states are none, though they fit one another but for what they are of.
func TestDecodeOfBlocksOfTwoStates(t *testing.T) {
	s := small()
	st := (&numbers{10}).state(s, 6)
	st.Seq = 7
	l := laid(64, st)
	for _, seq := range []uint64{0, 6, 8, 7 + 1<<32, 7 + 1<<56, math.MaxUint64} {
		newer := laid(64, api.State{Seq: seq, Places: st.Places})
		for i := range l {
			wantNoDecode(t, "a block with another Seq", s, with(l, i, newer[i]))
			wantNoDecode(t, "blocks with another Seq but one", s, with(newer, i, l[i]))
		}
	}
	for i := range l {
		for _, place := range []int{i - 1, i + 1, i + 256, 3, math.MaxUint32} {
			if place != i {
				wantNoDecode(t, "a block of another place", s, with(l, i, sheet(64, place, 3, 7, st.Places[2*i:2*i+2])))
			}
		}
		for _, many := range []int{0, 1, 2, 4, 3 + 256, math.MaxUint32} {
			wantNoDecode(t, "a block of another count", s, with(l, i, sheet(64, i, many, 7, st.Places[2*i:2*i+2])))
		}
	}
}

// Room in all but the last one, which has what is left, and not nothing.
func TestDecodeOfPlacesOtherwiseSpread(t *testing.T) {
	s := small()
	p := (&numbers{11}).state(s, 5).Places
	for _, spread := range [][]int{{1, 2, 2}, {2, 1, 2}, {0, 2, 2, 1}, {2, 2, 1, 0}, {2, 2, 0, 1}, {1, 1, 1, 1, 1}, {2, 2, 0}, {2, 0}, {1, 0}, {0, 0}, {0, 1}, {1, 1}} {
		var l [][]byte
		from := 0
		for i, n := range spread {
			l = append(l, sheet(64, i, len(spread), 3, p[from:from+n]))
			from += n
		}
		wantNoDecode(t, "places otherwise spread", s, l)
	}
}

// Each bit counts, whichever number it is of, the sum's own and those behind the places too.
func TestDecodeOfEachBitTurnedOver(t *testing.T) {
	n := &numbers{12}
	for _, block := range []int{64, 128} {
		s := shape(6, 8, block, 2)
		for _, places := range []int{0, 1, rooms()[block] + 1} {
			l := wantEncode(t, s, n.state(s, places))
			for _, b := range l {
				for i := range b {
					for bit := range 8 {
						b[i] ^= 1 << bit
						wantNoDecode(t, "a bit turned over", s, l)
						b[i] ^= 1 << bit
					}
				}
			}
		}
	}
}

// With the right sum each other fault is one still.
func TestDecodeWithTheRightSum(t *testing.T) {
	n := &numbers{13}
	for _, block := range sizes() {
		s := shape(6, 8, block, 2)
		room := rooms()[block]
		for _, places := range []int{0, 1, room, room + 1, 2 * room} {
			l := laid(block, n.state(s, places))
			for k, b := range l {
				turned := func(what string, i, bit int) {
					bad := bytes.Clone(b)
					bad[i] ^= 1 << bit
					wantNoDecode(t, what, s, with(l, k, sealed(bad)))
				}
				for bit := range 8 {
					for i := range 4 {
						turned("another magic", i, bit)
					}
					for i := placeAt; i < seqAt; i++ {
						turned("another place or count", i, bit)
					}
					turned("another last byte", block-1, bit)
				}
				for i := placesAt + min(room, places-k*room)*perPlace; i < block-1; i++ {
					turned("no 00 behind the places", i, i%8)
				}
			}
		}
	}
}

// Each sum counts its own four bytes as 00, not as anything else, and its own block alone.
func TestDecodeOfOtherSums(t *testing.T) {
	s := small()
	l := laid(64, (&numbers{14}).state(s, 4))
	for k, b := range l {
		front := torn(b, 63)
		clear(front[sumAt : sumAt+4])
		all := slices.Concat(l...)
		clear(all[64*k+sumAt : 64*k+sumAt+4])
		for _, sum := range []uint32{0, math.MaxUint32, crc32.ChecksumIEEE(b), crc32.ChecksumIEEE(front), crc32.ChecksumIEEE(all),
			crc32.ChecksumIEEE(slices.Concat(b[:sumAt], b[sumAt+4:])), ^binary.BigEndian.Uint32(b[sumAt:]), binary.LittleEndian.Uint32(b[sumAt:])} {
			bad := bytes.Clone(b)
			binary.BigEndian.PutUint32(bad[sumAt:], sum)
			wantNoDecode(t, "another sum", s, with(l, k, bad))
		}
	}
}

// How many places stand in a block is what it says, and neither fewer nor more.
func TestDecodeOfOtherCounts(t *testing.T) {
	n := &numbers{15}
	for _, block := range sizes() {
		s := shape(6, 8, block, 2)
		room := rooms()[block]
		for _, places := range []int{1, room, 2 * room} {
			l := laid(block, n.state(s, places))
			for k, b := range l {
				now := min(room, places-k*room)
				for _, count := range []int{0, now - 1, now + 1, room + 1, room + 2, now + 256, 32768, 65535} {
					bad := bytes.Clone(b)
					binary.BigEndian.PutUint16(bad[countAt:], uint16(count))
					// One block without places is a checkpoint, where nothing stands behind: here places do.
					wantNoDecode(t, "another count", s, with(l, k, sealed(bad)))
				}
			}
		}
	}
}

// Bytes 00 behind the places are no places, though they could be taken for such a tenant's.
func TestNoPlacesBehindTheLast(t *testing.T) {
	s := small()
	b := sheet(64, 0, 1, 1, []api.Place{{At: api.Addr{Zone: 2}}})
	for _, count := range []byte{0, 2, 3} {
		b[countAt+1] = count
		wantNoDecode(t, "another count", s, [][]byte{sealed(b)})
	}
}

// Blocks of one size are none of another one.
func TestDecodeOfOtherLengths(t *testing.T) {
	n := &numbers{16}
	for _, block := range sizes() {
		s := shape(6, 8, block, 2)
		st := n.state(s, rooms()[block]+1)
		l := laid(block, st)
		for k, b := range l {
			for _, length := range []int{1, 4, 25, 26, 27, 41, 42, 43, block / 2, block - 1} {
				wantNoDecode(t, "a front of a block", s, with(l, k, b[:length]))
				wantNoDecode(t, "an end of a block", s, with(l, k, b[block-length:]))
			}
			for _, more := range []int{1, 64, block, 8192} {
				wantNoDecode(t, "more bytes behind", s, with(l, k, append(bytes.Clone(b), make([]byte, more)...)))
			}
		}
		for _, other := range sizes() {
			if other != block {
				wantNoDecode(t, "blocks of another size", shape(6, 8, other, 2), l)
				wantNoDecode(t, "a block of another size", shape(6, 8, other, 2), laid(block, api.State{Seq: 1}))
			}
		}
		wantNoDecode(t, "all in one", s, [][]byte{slices.Concat(l...)})
	}
	for _, length := range []int{43, 63, 65, 96, 8192, 65536} {
		wantNoDecode(t, "no block's length", small(), [][]byte{sheet(length, 0, 1, 1, nil)})
	}
	big := n.state(shape(256, 4096, 4096, 2), 65535)
	wantNoDecode(t, "as many places as can be counted", small(), [][]byte{sheet(1<<21, 0, 1, 1, big.Places)})
}

// Very many blocks are passed over at once, though each of them is one.
func TestDecodeOfManyBlocks(t *testing.T) {
	b := sheet(4096, 0, 1, 1, (&numbers{17}).state(shape(6, 8, 4096, 2), 254).Places)
	many := make([][]byte, 1<<16)
	for i := range many {
		many[i] = b
	}
	wantNoDecode(t, "a block again and again", shape(6, 4096, 4096, 2), many)
	wantNoDecode(t, "a block again and again", shape(6, 8, 4096, 2), many[:8])
}

// However little is torn off a block, 00 stands at its end, whatever its sum may be.
func TestTornBlocksAreNoCheckpoint(t *testing.T) {
	n := &numbers{18}
	for _, block := range []int{64, 128, 512} {
		s := shape(6, 8, block, 2)
		for _, places := range []int{0, rooms()[block], rooms()[block] + 1} {
			l := wantEncode(t, s, n.state(s, places))
			for k, b := range l {
				for left := range block {
					wantNoDecode(t, "a torn block", s, with(l, k, torn(b, left)))
					wantNoDecode(t, "a torn block with the right sum", s, with(l, k, sealed(torn(b, left))))
				}
			}
		}
	}
}

// What Reserve says changes no block.
func TestReserveMakesNoDifference(t *testing.T) {
	st := (&numbers{19}).state(small(), 5)
	l := wantEncode(t, small(), st)
	for _, s := range []api.Shape{shape(10, 8, 64, 2), shape(10, 8, 64, 6), shape(256, 4096, 64, 252)} {
		wantDecode(t, s, l, st)
		if !sameBlocks(wantEncode(t, s, st), l) {
			t.Errorf("other blocks for %v", s)
		}
	}
}

func TestWhatIsHandedInStays(t *testing.T) {
	n := &numbers{20}
	mem := n.state(small(), 20).Places
	was := slices.Clone(mem)
	for _, count := range []int{0, 1, 5, 16, 17} {
		st := api.State{Seq: 3, Places: mem[:count]}
		ckpt.Encode(small(), st)
		ckpt.Encode(api.Shape{}, st)
		if !slices.Equal(mem, was) {
			t.Fatal("Encode changed its state")
		}
	}
	for _, l := range [][][]byte{laid(64, n.state(small(), 5)), {n.bytes(64)}, {make([]byte, 64), nil}} {
		var long, before [][]byte
		for _, b := range l {
			long = append(long, append(bytes.Clone(b), n.bytes(64)...))
		}
		before = copied(long)
		given := make([][]byte, 0, len(l)+1)
		for i, b := range l {
			given = append(given, long[i][:len(b)])
		}
		ckpt.Decode(small(), given)
		if !sameBlocks(long, before) || len(given) != len(l) || given[:len(l)+1][len(l)] != nil {
			t.Error("Decode changed its blocks")
		}
	}
}

// What lies behind a list's length is not looked at.
func TestBehindTheLengthIsNotRead(t *testing.T) {
	n := &numbers{21}
	mem := n.state(small(), 5).Places
	for i := 2; i < 5; i++ {
		mem[i] = api.Place{}
	}
	st := api.State{Seq: 2, Places: mem[:2]}
	wantEncode(t, small(), st)
	l := laid(64, st)
	wantDecode(t, small(), append(l, n.bytes(64))[:1], st)
	long := append(bytes.Clone(l[0]), n.bytes(64)...)
	wantDecode(t, small(), [][]byte{long[:64]}, st)
	for length := range 64 {
		wantNoDecode(t, "a front", small(), [][]byte{l[0][:length]})
	}
}

func TestAnswersAreNewMemory(t *testing.T) {
	st := (&numbers{22}).state(small(), 5)
	was := api.State{Seq: st.Seq, Places: slices.Clone(st.Places)}
	first, _ := ckpt.Encode(small(), st)
	second, _ := ckpt.Encode(small(), st)
	for i, b := range first {
		clear(b[:cap(b)])
		if !sameBlocks(first[i+1:], laid(64, was)[i+1:]) {
			t.Error("two blocks of one answer share memory")
		}
	}
	clear(first[:cap(first)])
	clear(st.Places)
	if !sameBlocks(second, laid(64, was)) {
		t.Error("two answers of Encode share memory, or one and its state")
	}
	a, _ := ckpt.Decode(small(), second)
	b, _ := ckpt.Decode(small(), second)
	clear(a.Places[:cap(a.Places)])
	for _, block := range second {
		clear(block)
	}
	if !same(b, was) {
		t.Error("two answers of Decode share memory, or one and its blocks")
	}
}

// Nothing is kept: what was asked before makes no difference, nor what was wrong.
func TestNothingIsKept(t *testing.T) {
	n := &numbers{23}
	st := n.state(small(), 5)
	l := wantEncode(t, small(), st)
	for range 3 {
		wantNoEncode(t, "too many", small(), n.state(small(), 17), api.ErrCkptLong)
		wantNoEncode(t, "a wrong spot", small(), api.State{Places: make([]api.Place, 1)}, api.ErrCkptForm)
		wantNoDecode(t, "any bytes", small(), [][]byte{n.bytes(64)})
		wantEncode(t, small(), st)
		wantDecode(t, small(), l, st)
	}
}

// cut is bytes in blocks of one size, the last one shorter.
func cut(b []byte, size int) [][]byte { return slices.Collect(slices.Chunk(b, size)) }

// FuzzDecode: Decode tells of any blocks the state that they are, and that is encoded to just these; with the right sums more of them are one.
func FuzzDecode(f *testing.F) {
	n := &numbers{24}
	for _, places := range []int{0, 1, 2, 3, 5, 16} {
		f.Add(slices.Concat(laid(64, n.state(small(), places))...), places%2 == 0)
	}
	f.Add(make([]byte, 64), true)
	f.Add([]byte("CKPT"), false)
	f.Fuzz(func(t *testing.T, b []byte, seal bool) {
		l := copied(cut(b, 64))
		for i := range l {
			if seal && len(l[i]) == 64 {
				l[i] = sealed(l[i])
			}
		}
		st, is := told(small(), l)
		if !is {
			wantNoDecode(t, "any blocks", small(), l)
			return
		}
		wantDecode(t, small(), l, st)
		if again, errno := ckpt.Encode(small(), st); errno != api.OK || !sameBlocks(again, l) {
			t.Fatalf("%x is told as %v, and that encoded as %x, %d", l, st, again, errno)
		}
	})
}

// FuzzEncode: any two places, for any shape, are encoded just where the document says so, and told again.
func FuzzEncode(f *testing.F) {
	f.Add(uint64(7), uint32(1), uint64(2), 2, 3, uint32(1), uint64(3), 5, 7, 6, 8, 64, 2)
	f.Add(uint64(0), uint32(2), uint64(2), 2, 3, uint32(1), uint64(3), 5, 7, 6, 8, 64, 2)
	f.Add(uint64(0), uint32(1), uint64(2), 2, 3, uint32(1), uint64(3), 6, 7, 6, 8, 4096, 2)
	f.Add(uint64(0), uint32(1), uint64(2), 255, 3, uint32(1), uint64(3), 5, 4095, 256, 4096, 128, 252)
	f.Add(uint64(0), uint32(1), uint64(2), 3, 3, uint32(1), uint64(3), 5, 4, 6, 8, 65, 2)
	f.Fuzz(func(t *testing.T, seq uint64, t1 uint32, b1 uint64, z1, a1 int, t2 uint32, b2 uint64, z2, a2 int, zones, blocks, block, reserve int) {
		s := shape(zones, blocks, block, reserve)
		st := api.State{Seq: seq, Places: []api.Place{
			{Tenant: t1, Block: b1, At: api.Addr{Zone: z1, Block: a1}},
			{Tenant: t2, Block: b2, At: api.Addr{Zone: z2, Block: a2}},
		}}
		right := zones >= 6 && zones <= 256 && blocks >= 8 && blocks <= 4096 && rooms()[block] > 0 && reserve >= 2 && reserve <= zones-4
		if right && may(s, st) {
			wantDecode(t, s, wantEncode(t, s, st), st)
		} else {
			wantNoEncode(t, "any state", s, st, api.ErrCkptForm)
		}
	})
}

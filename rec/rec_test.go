package rec_test

import (
	"bytes"
	"encoding/binary"
	"encoding/hex"
	"hash/crc32"
	"math"
	"slices"
	"testing"

	"coaming/api"
	"coaming/rec"
)

// Where a block's numbers stand.
const (
	sumAt   = 4
	seqAt   = 8
	countAt = 16
	itemsAt = 18
	perItem = 19
)

// rooms are the sizes that a block may have, and the document's room of each.
func rooms() map[int]int {
	return map[int]int{64: 2, 128: 5, 256: 12, 512: 25, 1024: 52, 2048: 106, 4096: 214}
}

// sizes are those of rooms, rising.
func sizes() []int { return []int{64, 128, 256, 512, 1024, 2048, 4096} }

// numbers give any, without a short period, the same in every run.
type numbers struct{ x uint64 }

func (n *numbers) next() uint64 {
	n.x = n.x*6364136223846793005 + 1442695040888963407
	return n.x>>29 ^ n.x<<35
}

func (n *numbers) bytes(count int) []byte {
	out := make([]byte, count)
	for i := range out {
		out[i] = byte(n.next())
	}
	return out
}

func (n *numbers) item() api.Item {
	x := api.Item{Tenant: uint32(n.next()), Block: n.next(), Kind: api.ItemDrop}
	if n.next()%3 > 0 {
		x.Kind, x.Sum, x.End = api.ItemData, uint32(n.next()), uint16(n.next()%4097)
	}
	return x
}

func (n *numbers) record(items int) api.Record {
	r := api.Record{Seq: n.next()}
	for range items {
		r.Items = append(r.Items, n.item())
	}
	return r
}

// sealed is a block with the sum that it should have, by the library.
func sealed(b []byte) []byte {
	out := bytes.Clone(b)
	clear(out[sumAt : sumAt+4])
	binary.BigEndian.PutUint32(out[sumAt:], crc32.ChecksumIEEE(out))
	return out
}

// laid is a record's block, by the library, also of a record that has none; it may be too long, and has its last byte still.
func laid(r api.Record, block int) []byte {
	out := []byte{0x43, 0x4c, 0x4f, 0x47, 0, 0, 0, 0}
	out = binary.BigEndian.AppendUint64(out, r.Seq)
	out = binary.BigEndian.AppendUint16(out, uint16(len(r.Items)))
	for _, x := range r.Items {
		out = binary.BigEndian.AppendUint32(out, x.Tenant)
		out = binary.BigEndian.AppendUint64(out, x.Block)
		out = append(out, x.Kind)
		out = binary.BigEndian.AppendUint32(out, x.Sum)
		out = binary.BigEndian.AppendUint16(out, x.End)
	}
	out = append(out, make([]byte, max(block-len(out), 0))...)[:block]
	out[block-1] = 0xe7
	return sealed(out)
}

// told is the record that bytes are, by the library.
func told(b []byte) (api.Record, bool) {
	room := rooms()[len(b)]
	if room == 0 {
		return api.Record{}, false
	}
	r := api.Record{Seq: binary.BigEndian.Uint64(b[seqAt:])}
	count := int(binary.BigEndian.Uint16(b[countAt:]))
	if count == 0 || count > room {
		return api.Record{}, false
	}
	for i := range count {
		x := b[itemsAt+i*perItem:]
		r.Items = append(r.Items, api.Item{
			Tenant: binary.BigEndian.Uint32(x),
			Block:  binary.BigEndian.Uint64(x[4:]),
			Kind:   x[12],
			Sum:    binary.BigEndian.Uint32(x[13:]),
			End:    binary.BigEndian.Uint16(x[17:]),
		})
		if !may(r.Items[i]) {
			return api.Record{}, false
		}
	}
	return r, bytes.Equal(laid(r, len(b)), b)
}

// may says whether an item is one that a record may have.
func may(x api.Item) bool {
	return x.Kind == 1 && x.End <= 4096 || x.Kind == 2 && x.Sum == 0 && x.End == 0
}

// torn is a block of which the first so many bytes are left.
func torn(b []byte, left int) []byte {
	return append(bytes.Clone(b[:left]), make([]byte, len(b)-left)...)
}

func same(a, b api.Record) bool { return a.Seq == b.Seq && slices.Equal(a.Items, b.Items) }

func wantEncode(t *testing.T, r api.Record, block int) []byte {
	t.Helper()
	b, errno := rec.Encode(r, block)
	if want := laid(r, block); errno != api.OK || !bytes.Equal(b, want) {
		t.Fatalf("Encode of %d items for %d: %x, %d, want %x", len(r.Items), block, b, errno, want)
	}
	return b
}

func wantNoEncode(t *testing.T, what string, r api.Record, block int) {
	t.Helper()
	if b, errno := rec.Encode(r, block); len(b) != 0 || errno != api.ErrRecLong {
		t.Errorf("Encode of %s for %d: %x, %d, want error 110 alone", what, block, b, errno)
	}
}

func wantDecode(t *testing.T, b []byte, want api.Record) {
	t.Helper()
	if r, errno := rec.Decode(b); errno != api.OK || !same(r, want) {
		t.Fatalf("Decode of %d bytes: %v, %d, want %v", len(b), r, errno, want)
	}
}

func wantNoDecode(t *testing.T, what string, b []byte) {
	t.Helper()
	if r, errno := rec.Decode(b); r.Seq != 0 || len(r.Items) != 0 || errno != api.ErrRecForm {
		t.Errorf("Decode of %s (%d bytes): %v, %d, want error 111 alone", what, len(b), r, errno)
	}
}

func TestExample(t *testing.T) {
	if a, b := rec.Room(64), rec.Room(4096); a != 2 || b != 214 {
		t.Errorf("Room: %d, %d", a, b)
	}
	wantNoDecode(t, "64 bytes 00", make([]byte, 64))
}

func TestErrorsAreTheDocuments(t *testing.T) {
	if api.ErrRecLong != 110 || api.ErrRecForm != 111 {
		t.Errorf("%d, %d", api.ErrRecLong, api.ErrRecForm)
	}
}

func TestRoom(t *testing.T) {
	want := rooms()
	for block := -5000; block <= 70000; block++ {
		if got := rec.Room(block); got != want[block] {
			t.Errorf("Room of %d: %d, want %d", block, got, want[block])
		}
	}
	far := []int{math.MinInt, math.MinInt + 64, math.MinInt32, math.MaxInt32, math.MaxInt - 63, math.MaxInt}
	for bit := 13; bit < 63; bit++ {
		far = append(far, -1<<bit, 1<<bit, 1<<bit+64, 1<<bit+4096)
	}
	for _, block := range far {
		if got := rec.Room(block); got != 0 {
			t.Errorf("Room of %d: %d", block, got)
		}
	}
}

// The document's numbers, each byte of them in its place.
func TestBytesOfARecord(t *testing.T) {
	r := api.Record{Seq: 0x0102030405060708, Items: []api.Item{
		{Tenant: 0x11121314, Block: 0x15161718191a1b1c, Kind: api.ItemData, Sum: 0x1d1e1f20, End: 0x0ffe},
		{Tenant: 0x21222324, Block: 0x25262728292a2b2c, Kind: api.ItemDrop},
	}}
	want, err := hex.DecodeString("434c4f47" + "b1d9ef24" + "0102030405060708" + "0002" +
		"11121314" + "15161718191a1b1c" + "01" + "1d1e1f20" + "0ffe" +
		"21222324" + "25262728292a2b2c" + "02" + "00000000" + "0000" +
		"00000000000000" + "e7")
	if err != nil {
		t.Fatal(err)
	}
	if b, errno := rec.Encode(r, 64); errno != api.OK || !bytes.Equal(b, want) {
		t.Errorf("Encode: %x, %d, want %x", b, errno, want)
	}
	wantDecode(t, want, r)
}

// Every number that may be, with any count of items, in every block.
func TestThereAndBack(t *testing.T) {
	n := &numbers{11}
	for _, block := range sizes() {
		room := rooms()[block]
		for items := 1; items <= room; items++ {
			r := n.record(items)
			wantDecode(t, wantEncode(t, r, block), r)
		}
	}
}

func TestEdgesOfNumbers(t *testing.T) {
	for _, seq := range []uint64{0, 1, 255, 256, 1<<32 - 1, 1 << 32, 1 << 63, math.MaxUint64} {
		for _, x := range []api.Item{
			{Kind: api.ItemData},
			{Kind: api.ItemDrop},
			{Tenant: 1, Block: 1, Kind: api.ItemData, Sum: 1, End: 1},
			{Tenant: math.MaxUint32, Block: math.MaxUint64, Kind: api.ItemData, Sum: math.MaxUint32, End: 4096},
			{Tenant: math.MaxUint32, Block: math.MaxUint64, Kind: api.ItemDrop},
			{Tenant: 1 << 31, Block: 1 << 63, Kind: api.ItemData, Sum: 1 << 31, End: 4095},
			{Tenant: 256, Block: 1 << 32, Kind: api.ItemData, Sum: 256, End: 256},
		} {
			for _, block := range sizes() {
				r := api.Record{Seq: seq, Items: []api.Item{x}}
				wantDecode(t, wantEncode(t, r, block), r)
			}
		}
	}
}

// A record may say the same twice, and in any order: nothing is sorted or left out.
func TestItemsStandAsTheyAre(t *testing.T) {
	high := api.Item{Tenant: 9, Block: 9, Kind: api.ItemData, Sum: 9, End: 9}
	low := api.Item{Tenant: 1, Block: 1, Kind: api.ItemDrop}
	for _, l := range [][]api.Item{{high, low}, {low, high}, {high, high}, {low, low}, {high, low, high}, {low, low, low, low, low}} {
		r := api.Record{Seq: 3, Items: l}
		wantDecode(t, wantEncode(t, r, 128), r)
	}
}

func TestEncodeOfTooManyOrNone(t *testing.T) {
	n := &numbers{12}
	for _, block := range sizes() {
		room := rooms()[block]
		wantNoEncode(t, "nothing", api.Record{}, block)
		wantNoEncode(t, "a number alone", api.Record{Seq: 5, Items: []api.Item{}}, block)
		wantEncode(t, n.record(room), block)
		for _, items := range []int{room + 1, room + 2, 2 * room, 256 + 1, 65536, 65536 + 1, 1 << 17} {
			if items > room {
				wantNoEncode(t, "too many items", n.record(items), block)
			}
		}
	}
}

func TestEncodeForNoBlock(t *testing.T) {
	n := &numbers{13}
	for _, items := range []int{0, 1, 2, 214} {
		r := n.record(items)
		for _, block := range []int{math.MinInt, -4096, -64, -1, 0, 1, 2, 18, 19, 32, 38, 63, 65, 96, 100, 127, 129, 4095, 4097, 6144, 8192, 65536, 1 << 30, 1 << 62, math.MaxInt} {
			wantNoEncode(t, "some items", r, block)
		}
	}
}

// wrongItems are those that no record may have, of each fault that the document names, and its nearest ones.
func wrongItems() []api.Item {
	var out []api.Item
	for kind := range 256 {
		if kind != 1 && kind != 2 {
			out = append(out, api.Item{Kind: uint8(kind)}, api.Item{Tenant: 1, Block: 2, Kind: uint8(kind), Sum: 3, End: 4})
		}
	}
	for _, end := range []uint16{4097, 4098, 4352, 8192, 1 << 15, 1<<15 + 1, math.MaxUint16} {
		out = append(out, api.Item{Kind: api.ItemData, End: end}, api.Item{Kind: api.ItemDrop, End: end})
	}
	for bit := range 32 {
		out = append(out, api.Item{Kind: api.ItemDrop, Sum: 1 << bit})
	}
	for bit := range 16 {
		out = append(out, api.Item{Kind: api.ItemDrop, End: 1 << bit})
	}
	return append(out, api.Item{Kind: api.ItemDrop, Sum: math.MaxUint32, End: 4096})
}

// One wrong item is enough, wherever it stands; and no bytes are such a record's.
func TestWrongItems(t *testing.T) {
	n := &numbers{14}
	for _, x := range wrongItems() {
		for _, items := range []int{1, 2, 5} {
			for at := range items {
				r := n.record(items)
				r.Items[at] = x
				wantNoEncode(t, "a wrong item", r, 128)
				wantNoDecode(t, "a wrong item", laid(r, 128))
			}
		}
	}
}

func TestDecodeOfNothing(t *testing.T) {
	wantNoDecode(t, "nil", nil)
	wantNoDecode(t, "nothing", []byte{})
	for _, block := range sizes() {
		for _, b := range []byte{0, 1, 0x43, 0xe7, 0xff} {
			wantNoDecode(t, "one byte again and again", bytes.Repeat([]byte{b}, block))
		}
		wantNoDecode(t, "any bytes", (&numbers{15}).bytes(block))
		wantNoDecode(t, "no items", laid(api.Record{Seq: 1}, block))
	}
}

// Each bit counts, whichever number it is of, the sum's own and those behind the items too.
func TestDecodeOfEachBitTurnedOver(t *testing.T) {
	n := &numbers{16}
	for _, block := range []int{64, 128, 256} {
		for _, items := range []int{1, rooms()[block]} {
			b := wantEncode(t, n.record(items), block)
			for i := range b {
				for bit := range 8 {
					b[i] ^= 1 << bit
					wantNoDecode(t, "a bit turned over", b)
					b[i] ^= 1 << bit
				}
			}
		}
	}
}

// With the right sum each other fault is one still.
func TestDecodeWithTheRightSum(t *testing.T) {
	n := &numbers{17}
	for _, block := range sizes() {
		for _, items := range []int{1, 2, rooms()[block]} {
			b := laid(n.record(items), block)
			turned := func(what string, i, bit int) {
				bad := bytes.Clone(b)
				bad[i] ^= 1 << bit
				wantNoDecode(t, what, sealed(bad))
			}
			for bit := range 8 {
				for i := range 4 {
					turned("another magic", i, bit)
				}
				turned("another last byte", block-1, bit)
			}
			for i := itemsAt + items*perItem; i < block-1; i++ {
				turned("no 00 behind the items", i, i%8)
			}
		}
	}
}

// The sum counts its own four bytes as 00, not as anything else.
func TestDecodeOfOtherSums(t *testing.T) {
	b := laid((&numbers{18}).record(2), 64)
	for _, bad := range [][]byte{make([]byte, 4), {255, 255, 255, 255}, binary.BigEndian.AppendUint32(nil, crc32.ChecksumIEEE(b)), {b[7], b[6], b[5], b[4]}, {^b[4], ^b[5], ^b[6], ^b[7]}} {
		wantNoDecode(t, "another sum", slices.Concat(b[:sumAt], bad, b[sumAt+4:]))
	}
	without := crc32.ChecksumIEEE(slices.Concat(b[:sumAt], b[sumAt+4:]))
	wantNoDecode(t, "the sum of all other bytes", slices.Concat(b[:sumAt], binary.BigEndian.AppendUint32(nil, without), b[sumAt+4:]))
	front := sealed(torn(b, 63))
	front[63] = 0xe7
	wantNoDecode(t, "a sum without the last byte", front)
}

// How many items there are is what the block says, and neither fewer nor more.
func TestDecodeOfOtherCounts(t *testing.T) {
	n := &numbers{19}
	for _, block := range sizes() {
		room := rooms()[block]
		for _, items := range []int{1, room / 2, room} {
			r := n.record(items)
			b := laid(r, block)
			for _, count := range []int{0, items - 1, items + 1, room + 1, room + 2, items + 256, 32768, 65535} {
				bad := bytes.Clone(b)
				binary.BigEndian.PutUint16(bad[countAt:], uint16(count))
				wantNoDecode(t, "another count", sealed(bad))
			}
			wantDecode(t, b, r)
		}
	}
}

// Bytes 00 behind the items are no items.
func TestNoItemsBehindTheLast(t *testing.T) {
	b := laid(api.Record{Seq: 1, Items: []api.Item{{Kind: api.ItemData}, {Kind: api.ItemData}}}, 64)
	b[countAt+1] = 1
	wantNoDecode(t, "one item fewer", sealed(b))
}

// In 512 bytes 26 items are all there is: the last one's last byte is no end of the block, though it may be e7.
func TestNoRoomForTheLastByte(t *testing.T) {
	r := api.Record{Seq: 1}
	for i := range 26 {
		r.Items = append(r.Items, api.Item{Tenant: 1, Block: uint64(i), Kind: api.ItemData, Sum: 2, End: 0xe7})
	}
	wantNoEncode(t, "26 items", r, 512)
	wantNoDecode(t, "26 items", laid(r, 512))
	r.Items = r.Items[:25]
	wantDecode(t, wantEncode(t, r, 512), r)
}

// A record of one size is none of another one.
func TestDecodeOfOtherLengths(t *testing.T) {
	n := &numbers{20}
	for _, block := range sizes() {
		b := laid(n.record(rooms()[block]), block)
		for _, length := range []int{1, 4, 17, 18, 19, 36, 37, 38, block / 2, block - 1} {
			wantNoDecode(t, "a front", b[:length])
			wantNoDecode(t, "an end", b[block-length:])
		}
		for _, more := range []int{1, 64, block, 8192} {
			wantNoDecode(t, "more bytes behind", append(bytes.Clone(b), make([]byte, more)...))
		}
		wantNoDecode(t, "twice the same", append(bytes.Clone(b), b...))
	}
	r := n.record(1)
	for _, length := range []int{38, 63, 65, 96, 100, 127, 192, 4095, 4097, 6144, 8192, 65536} {
		wantNoDecode(t, "no block's length", laid(r, length))
	}
	big := n.record(65535)
	wantNoDecode(t, "as many items as can be counted", laid(big, 1<<21))
}

// However little is torn off a block, 00 stands at its end, whatever its sum may be.
func TestTornBlocksAreNoRecords(t *testing.T) {
	n := &numbers{21}
	for _, block := range sizes() {
		for _, items := range []int{1, rooms()[block]} {
			b := wantEncode(t, n.record(items), block)
			for left := range block {
				wantNoDecode(t, "a torn block", torn(b, left))
			}
			for _, left := range []int{8, 16, 18, 37, block - 20, block - 2, block - 1} {
				wantNoDecode(t, "a torn block with the right sum", sealed(torn(b, left)))
			}
		}
	}
}

func TestEnds(t *testing.T) {
	for _, data := range [][]byte{nil, {}, {0}, make([]byte, 64), make([]byte, 4096), make([]byte, 1<<17)} {
		if got := rec.Ends(data); got != 0 {
			t.Errorf("Ends of %d bytes 00: %d", len(data), got)
		}
	}
	for _, length := range []int{1, 2, 64, 300} {
		for last := range length {
			for _, b := range []byte{1, 0x80, 0xe7, 0xff} {
				data := make([]byte, length)
				data[last] = b
				if got := rec.Ends(data); got != last+1 {
					t.Errorf("Ends of %d bytes with the last %02x at %d: %d", length, b, last, got)
				}
				data[0] = b
				if got := rec.Ends(data); got != last+1 {
					t.Errorf("Ends of %d bytes with %02x at 0 and at %d: %d", length, b, last, got)
				}
			}
		}
	}
	for _, length := range []int{4095, 4096, 4097, 65535, 65536, 65537, 1 << 20} {
		data := bytes.Repeat([]byte{1}, length)
		if got := rec.Ends(data); got != length {
			t.Errorf("Ends of %d bytes 01: %d", length, got)
		}
		if got := rec.Ends(append(data, 0, 0, 0)); got != length {
			t.Errorf("Ends of %d bytes 01 and three 00: %d", length, got)
		}
	}
}

// itemOf is the item that says what data are, by the library.
func itemOf(data []byte) api.Item {
	return api.Item{Tenant: 7, Block: 8, Kind: api.ItemData, Sum: crc32.ChecksumIEEE(data), End: uint16(len(bytes.TrimRight(data, "\x00")))}
}

// someData are data of which some end in 00.
func someData() [][]byte {
	n := &numbers{22}
	out := [][]byte{nil, {}, {0}, {1}, {1, 0, 2, 0}, make([]byte, 64), make([]byte, 4096), torn(n.bytes(64), 1), torn(n.bytes(4096), 4000)}
	for _, length := range []int{1, 63, 64, 65, 4096, 5000, 65535} {
		out = append(out, n.bytes(length))
	}
	return out
}

func TestCheck(t *testing.T) {
	for _, data := range someData() {
		x := itemOf(data)
		if !rec.Check(x, data) {
			t.Errorf("Check of %d bytes: false", len(data))
		}
		if !rec.Check(api.Item{Tenant: math.MaxUint32, Block: math.MaxUint64, Kind: api.ItemData, Sum: x.Sum, End: x.End}, data) {
			t.Error("Check looks at the tenant, or the block")
		}
		for kind := range 256 {
			y := x
			y.Kind = uint8(kind)
			if got := rec.Check(y, data); got != (kind == 1) {
				t.Errorf("Check of kind %d: %v", kind, got)
			}
		}
		for bit := range 32 {
			y := x
			y.Sum ^= 1 << bit
			if rec.Check(y, data) {
				t.Errorf("Check of another sum: true")
			}
		}
		for bit := range 16 {
			y := x
			y.End ^= 1 << bit
			if rec.Check(y, data) {
				t.Errorf("Check of another end: true")
			}
		}
	}
}

func TestCheckOfOtherData(t *testing.T) {
	data := (&numbers{23}).bytes(64)
	x := itemOf(data)
	for i := range data {
		for bit := range 8 {
			data[i] ^= 1 << bit
			if rec.Check(x, data) {
				t.Errorf("Check with a bit of byte %d turned over: true", i)
			}
			data[i] ^= 1 << bit
		}
		if rec.Check(x, data[:i]) {
			t.Errorf("Check of the first %d bytes: true", i)
		}
	}
	if rec.Check(x, append(bytes.Clone(data), 0)) {
		t.Error("Check of one byte more: true")
	}
}

// No End is what 65536 bytes and more end with.
func TestCheckDoesNotWrapRound(t *testing.T) {
	for _, length := range []int{65536, 65537, 65539, 1<<17 + 5} {
		data := bytes.Repeat([]byte{3}, length)
		if rec.Check(itemOf(data), data) {
			t.Errorf("Check of %d bytes: true", length)
		}
	}
}

func TestTornDataAreTold(t *testing.T) {
	for _, data := range someData() {
		x := itemOf(data)
		for left := range len(data) {
			if left > 200 && left%97 > 0 {
				continue
			}
			rest := torn(data, left)
			if got, want := rec.Check(x, rest), bytes.Equal(rest, data); got != want {
				t.Errorf("Check of %d bytes of %d: %v", left, len(data), got)
			}
		}
	}
}

// Bytes that add nothing to a sum: without them it is the same, so it is End alone that tells.
func TestTornDataWithTheSameSum(t *testing.T) {
	nothing := []byte{0x41, 0x06, 0x71, 0xdb, 0x01}
	for _, front := range []int{0, 1, 32, 59, 4091} {
		data := append((&numbers{24}).bytes(front), nothing...)
		rest := torn(data, front)
		if crc32.ChecksumIEEE(data) != crc32.ChecksumIEEE(rest) {
			t.Fatal("the sums differ")
		}
		if !rec.Check(itemOf(data), data) || rec.Check(itemOf(data), rest) || rec.Check(itemOf(rest), data) {
			t.Errorf("behind %d bytes", front)
		}
	}
}

// And of two that end alike it is the sum that tells.
func TestOtherDataWithTheSameEnd(t *testing.T) {
	a, b := []byte("abc"), []byte("abd")
	if rec.Check(itemOf(a), b) || rec.Check(itemOf(b), a) {
		t.Error("Check of other data: true")
	}
}

func TestWhatIsHandedInStays(t *testing.T) {
	n := &numbers{25}
	mem := n.record(5).Items
	was := slices.Clone(mem)
	r := api.Record{Seq: 1, Items: mem[:2]}
	rec.Encode(r, 64)
	rec.Encode(r, 65)
	if r.Seq != 1 || len(r.Items) != 2 || !slices.Equal(mem, was) {
		t.Error("Encode changed its record")
	}
	for _, b := range [][]byte{laid(r, 64), n.bytes(64), make([]byte, 64)} {
		long := append(bytes.Clone(b), n.bytes(64)...)
		before := bytes.Clone(long)
		rec.Decode(long[:64])
		rec.Ends(long[:64])
		rec.Check(itemOf(long[:64]), long[:64])
		if !bytes.Equal(long, before) {
			t.Error("bytes were changed")
		}
	}
}

// What lies behind a list's length is not looked at.
func TestBehindTheLengthIsNotRead(t *testing.T) {
	n := &numbers{26}
	r := n.record(3)
	r.Items = append(r.Items[:1], api.Item{Kind: 9}, api.Item{Kind: 9})
	short := api.Record{Seq: r.Seq, Items: r.Items[:1]}
	wantEncode(t, short, 64)
	wantNoEncode(t, "no items", api.Record{Items: r.Items[:0]}, 64)
	for _, block := range sizes() {
		r := n.record(rooms()[block])
		mem := append(laid(r, block), n.bytes(block)...)
		wantDecode(t, mem[:block], r)
		for length := range min(block, 300) {
			wantNoDecode(t, "a front", mem[:length])
		}
	}
	data := []byte{1, 0, 2, 0, 5}
	if rec.Ends(data[:2]) != 1 || rec.Ends(data[:4]) != 3 || rec.Ends(data[:0]) != 0 {
		t.Error("Ends reads on")
	}
	if !rec.Check(itemOf([]byte{1, 0, 2, 0}), data[:4]) {
		t.Error("Check reads on")
	}
}

func TestAnswersAreNewMemory(t *testing.T) {
	r := (&numbers{27}).record(2)
	was := api.Record{Seq: r.Seq, Items: slices.Clone(r.Items)}
	first, _ := rec.Encode(r, 64)
	second, _ := rec.Encode(r, 64)
	clear(first[:cap(first)])
	if !bytes.Equal(second, laid(was, 64)) {
		t.Error("two answers of Encode share memory")
	}
	r.Items[0] = api.Item{}
	if !bytes.Equal(second, laid(was, 64)) {
		t.Error("Encode's answer is not its own")
	}
	a, _ := rec.Decode(second)
	b, _ := rec.Decode(second)
	clear(a.Items[:cap(a.Items)])
	if !same(b, was) {
		t.Error("two answers of Decode share memory")
	}
	clear(second)
	if !same(b, was) {
		t.Error("Decode's answer is not its own")
	}
}

// Nothing is kept: what was asked before makes no difference, nor what was wrong.
func TestNothingIsKept(t *testing.T) {
	n := &numbers{28}
	r := n.record(2)
	b := wantEncode(t, r, 64)
	for range 3 {
		wantNoEncode(t, "nothing", api.Record{}, 64)
		wantNoDecode(t, "any bytes", n.bytes(64))
		wantEncode(t, r, 64)
		wantDecode(t, b, r)
	}
}

// FuzzDecode: Decode tells of any bytes the record that they are, and that is encoded to just these; with the right sum more of them are one.
func FuzzDecode(f *testing.F) {
	n := &numbers{29}
	for _, block := range []int{64, 128, 512} {
		f.Add(laid(n.record(1), block), false)
		f.Add(laid(n.record(rooms()[block]), block), true)
	}
	f.Add(make([]byte, 64), true)
	f.Add([]byte("CLOG"), false)
	f.Fuzz(func(t *testing.T, b []byte, seal bool) {
		if seal && len(b) >= 8 {
			b = sealed(b)
		}
		r, is := told(b)
		if !is {
			wantNoDecode(t, "any bytes", b)
			return
		}
		wantDecode(t, b, r)
		if again, errno := rec.Encode(r, len(b)); errno != api.OK || !bytes.Equal(again, b) {
			t.Fatalf("%x is told as %v, and that encoded as %x, %d", b, r, again, errno)
		}
	})
}

// FuzzEncode: any record of two items, for any block, is encoded just where the document says so, and told again.
func FuzzEncode(f *testing.F) {
	f.Add(uint64(7), uint32(1), uint64(2), uint8(1), uint32(3), uint16(4), 64)
	f.Add(uint64(0), uint32(5), uint64(6), uint8(2), uint32(0), uint16(0), 4096)
	f.Add(uint64(0), uint32(5), uint64(6), uint8(2), uint32(1), uint16(0), 4096)
	f.Add(uint64(0), uint32(5), uint64(6), uint8(1), uint32(1), uint16(4097), 128)
	f.Add(uint64(0), uint32(5), uint64(6), uint8(3), uint32(1), uint16(0), 65)
	f.Fuzz(func(t *testing.T, seq uint64, tenant uint32, number uint64, kind uint8, sum uint32, end uint16, block int) {
		x := api.Item{Tenant: tenant, Block: number, Kind: kind, Sum: sum, End: end}
		r := api.Record{Seq: seq, Items: []api.Item{{Kind: api.ItemDrop}, x}}
		if rooms()[block] > 0 && may(x) {
			wantDecode(t, wantEncode(t, r, block), r)
		} else {
			wantNoEncode(t, "any record", r, block)
		}
	})
}

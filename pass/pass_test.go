package pass_test

import (
	"bytes"
	"crypto/hmac"
	"crypto/sha256"
	"encoding/base32"
	"encoding/binary"
	"math"
	"reflect"
	"slices"
	"strings"
	"testing"

	"coaming/api"
	"coaming/pass"
)

const signs = "abcdefghijklmnopqrstuvwxyz234567"

// wantedBody is a token's body, by the library.
func wantedBody(k api.Token) []byte {
	b := []byte{1}
	b = binary.BigEndian.AppendUint32(b, k.Tenant)
	b = binary.BigEndian.AppendUint32(b, k.Serial)
	b = binary.BigEndian.AppendUint64(b, k.Size)
	if k.ReadOnly {
		return append(b, 1)
	}
	return append(b, 0)
}

// library is the library's way to write the same signs.
func library() *base32.Encoding {
	return base32.NewEncoding(signs).WithPadding(base32.NoPadding)
}

func text(b []byte) string { return library().EncodeToString(b) }

// tagged is the text of a body, whatever it is, with its tag by a key, by the library.
func tagged(key, body []byte) string {
	h := hmac.New(sha256.New, key)
	h.Write(body)
	return text(h.Sum(bytes.Clone(body)))
}

// edges are tokens with the least and greatest numbers, and one bit a number.
func edges() []api.Token {
	out := []api.Token{
		{},
		{Tenant: 1, Serial: 2, Size: 3},
		{Tenant: 0x01020304, Serial: 0x05060708, Size: 0x090a0b0c0d0e0f10},
		{Tenant: math.MaxUint32}, {Serial: math.MaxUint32}, {Size: math.MaxUint64},
		{Tenant: math.MaxUint32, Serial: math.MaxUint32, Size: math.MaxUint64},
	}
	for bit := range 64 {
		out = append(out, api.Token{Size: 1 << bit})
	}
	for bit := range 32 {
		out = append(out, api.Token{Tenant: 1 << bit}, api.Token{Serial: 1 << bit})
	}
	for _, k := range out {
		k.ReadOnly = true
		out = append(out, k)
	}
	return out
}

func wantLook(t *testing.T, name string, want api.Token) {
	t.Helper()
	if k, e := pass.Look(name); e != api.OK || k != want {
		t.Errorf("Look of %q: %+v, %v, want %+v", name, k, e, want)
	}
}

func wantForm(t *testing.T, name string) {
	t.Helper()
	if k, e := pass.Look(name); e != api.ErrPassForm || k != (api.Token{}) {
		t.Errorf("Look of %q: %+v, %v, want ErrPassForm", name, k, e)
	}
	// Whoever the tenant is and whatever it allows, the form is asked for first.
	table := newTable(t, api.Tenant{Key: []byte("k"), Gone: []uint32{0}})
	wantRefused(t, table, name, api.ErrPassForm)
	wantRefused(t, newTable(t), name, api.ErrPassForm)
}

func newTable(t *testing.T, l ...api.Tenant) *pass.Table {
	t.Helper()
	table, e := pass.New(l)
	if e != api.OK || table == nil {
		t.Fatalf("New: %v, %v", table, e)
	}
	return table
}

func wantTaken(t *testing.T, table *pass.Table, key string, k api.Token) {
	t.Helper()
	if got, e := table.Check(pass.Issue([]byte(key), k)); e != api.OK || got != k {
		t.Errorf("Check of %+v: %+v, %v", k, got, e)
	}
}

func wantRefused(t *testing.T, table *pass.Table, name string, want api.Errno) {
	t.Helper()
	if k, e := table.Check(name); e != want || k != (api.Token{}) {
		t.Errorf("Check of %q: %+v, %v, want %v", name, k, e, want)
	}
}

func TestExamples(t *testing.T) {
	k := api.Token{Tenant: 1, Serial: 2, Size: 3}
	name := pass.Issue([]byte("k"), k)
	wantLook(t, name, k)
	wantRefused(t, newTable(t, api.Tenant{ID: 1, Key: []byte("l"), Size: 3}), name, api.ErrPassTag)
	wantTaken(t, newTable(t, api.Tenant{ID: 1, Key: []byte("k"), Size: 3}), "k", k)
}

// The layout, written out by hand: a token must be readable by whoever has the document alone.
func TestBody(t *testing.T) {
	k := api.Token{Tenant: 0x01020304, Serial: 0x05060708, Size: 0x090a0b0c0d0e0f10}
	body := []byte{1, 1, 2, 3, 4, 5, 6, 7, 8, 9, 10, 11, 12, 13, 14, 15, 16, 0}
	if got := pass.Issue([]byte("k"), k); got != tagged([]byte("k"), body) {
		t.Errorf("%+v: %q", k, got)
	}
	k.ReadOnly = true
	body[17] = 1
	if got := pass.Issue([]byte("k"), k); got != tagged([]byte("k"), body) {
		t.Errorf("%+v: %q", k, got)
	}
}

func TestIssueAgainstTheLibrary(t *testing.T) {
	for _, n := range []int{0, 1, 31, 32, 63, 64, 65, 200} {
		key := bytes.Repeat([]byte{7}, n)
		for _, k := range edges() {
			name := pass.Issue(key, k)
			if want := tagged(key, wantedBody(k)); name != want || len(name) != 80 {
				t.Errorf("Issue of %+v by %d bytes: %q, want %q", k, n, name, want)
			}
			wantLook(t, name, k)
		}
	}
	if pass.Issue(nil, api.Token{}) != pass.Issue([]byte{}, api.Token{}) {
		t.Error("no key and an empty one: texts differ")
	}
}

func TestLookAsksForNoTag(t *testing.T) {
	for _, k := range edges() {
		body := wantedBody(k)
		wantLook(t, text(append(bytes.Clone(body), make([]byte, 32)...)), k)
		wantLook(t, text(append(bytes.Clone(body), bytes.Repeat([]byte{255}, 32)...)), k)
	}
}

func TestLookOfOtherLengths(t *testing.T) {
	long := append(wantedBody(api.Token{Tenant: 1, Size: 1}), make([]byte, 200)...)
	for n := range len(long) + 1 {
		if n != 50 {
			wantForm(t, text(long[:n]))
		}
	}
	wantForm(t, text(append(long, make([]byte, 1<<20)...)))
	name := pass.Issue([]byte("k"), api.Token{Size: 1})
	for n := range len(name) {
		wantForm(t, name[:n])
		wantForm(t, name[n+1:])
		wantForm(t, name+name[:n+1])
	}
}

func TestLookOfOtherFirstBytes(t *testing.T) {
	for c := range 256 {
		body := wantedBody(api.Token{})
		body[0] = byte(c)
		if name := tagged([]byte("k"), body); c == 1 {
			wantLook(t, name, api.Token{})
		} else {
			wantForm(t, name)
		}
	}
}

func TestLookOfOtherRights(t *testing.T) {
	for c := range 256 {
		body := wantedBody(api.Token{})
		body[17] = byte(c)
		if name := tagged([]byte("k"), body); c <= 1 {
			wantLook(t, name, api.Token{ReadOnly: c == 1})
		} else {
			wantForm(t, name)
		}
	}
}

func TestLookOfOtherSigns(t *testing.T) {
	name := pass.Issue([]byte("k"), api.Token{Size: 1})
	for i := range len(name) {
		for _, sign := range []string{"A", "1", "8", "0", "=", " ", "\x00", "\xff", "é"} {
			wantForm(t, name[:i]+sign+name[i+1:])
		}
		wantForm(t, name[:i]+"-"+name[i:])
	}
	wantForm(t, strings.ToUpper(name))
	wantForm(t, name+"\n")
	wantForm(t, name+"a")
	wantForm(t, name+"aa")
}

func TestCheckTakesWhatIsAllowed(t *testing.T) {
	table := newTable(t,
		api.Tenant{ID: 0, Key: []byte{0}, Size: 1},
		api.Tenant{ID: 1, Key: []byte("k"), Size: 3, Gone: []uint32{9, 4}},
		api.Tenant{ID: math.MaxUint32, Key: bytes.Repeat([]byte("l"), 100), Size: math.MaxUint64},
	)
	for _, ro := range []bool{false, true} {
		wantTaken(t, table, "\x00", api.Token{Size: 1, ReadOnly: ro})
		for size := range uint64(3) {
			wantTaken(t, table, "k", api.Token{Tenant: 1, Serial: 5, Size: size + 1, ReadOnly: ro})
		}
		wantTaken(t, table, strings.Repeat("l", 100), api.Token{Tenant: math.MaxUint32, Serial: math.MaxUint32, Size: math.MaxUint64, ReadOnly: ro})
	}
}

func TestCheckOfOthersTenants(t *testing.T) {
	table := newTable(t, api.Tenant{ID: 1, Key: []byte("k"), Size: 3}, api.Tenant{ID: 1 << 31, Key: []byte("k"), Size: 3})
	for _, id := range []uint32{0, 2, 1 << 8, 1 << 24, 1<<31 + 1, math.MaxUint32} {
		wantRefused(t, table, pass.Issue([]byte("k"), api.Token{Tenant: id, Size: 1}), api.ErrPassTenant)
		// Neither the tag nor what is allowed is asked for then.
		wantRefused(t, table, pass.Issue(nil, api.Token{Tenant: id}), api.ErrPassTenant)
	}
	wantRefused(t, newTable(t), pass.Issue(nil, api.Token{}), api.ErrPassTenant)
}

func TestCheckOfOthersTags(t *testing.T) {
	table := newTable(t, api.Tenant{ID: 1, Key: []byte("key"), Size: 3}, api.Tenant{ID: 2, Key: []byte("other"), Size: 3})
	k := api.Token{Tenant: 1, Serial: 5, Size: 2}
	for _, key := range []string{"", "k", "ke", "kez", "key ", "Key", "other"} {
		wantRefused(t, table, pass.Issue([]byte(key), k), api.ErrPassTag)
	}
	good, err := library().DecodeString(pass.Issue([]byte("key"), k))
	if err != nil {
		t.Fatal(err)
	}
	for bit := range 8 * 32 {
		bad := bytes.Clone(good)
		bad[18+bit/8] ^= 1 << (bit % 8)
		wantRefused(t, table, text(bad), api.ErrPassTag)
	}
}

// The tag is the whole body's: what the token says can't be changed without the key.
func TestCheckOfChangedBodies(t *testing.T) {
	table := newTable(t, api.Tenant{ID: 1, Key: []byte("key"), Size: math.MaxUint64})
	good, err := library().DecodeString(pass.Issue([]byte("key"), api.Token{Tenant: 1, Serial: 5, Size: 2, ReadOnly: true}))
	if err != nil {
		t.Fatal(err)
	}
	for bit := range 8 * 18 {
		want := api.ErrPassTag
		switch at := bit / 8; {
		case at == 0, at == 17 && bit%8 != 0:
			want = api.ErrPassForm
		case at < 5 && at > 0:
			want = api.ErrPassTenant
		}
		bad := bytes.Clone(good)
		bad[bit/8] ^= 1 << (bit % 8)
		wantRefused(t, table, text(bad), want)
	}
}

// Two tenants that have one key are two tenants still.
func TestCheckAsksTheTokensOwnTenant(t *testing.T) {
	table := newTable(t,
		api.Tenant{ID: 1, Key: []byte("k"), Size: 3, Gone: []uint32{7}},
		api.Tenant{ID: 2, Key: []byte("k"), Size: 5, Gone: []uint32{8}},
	)
	for _, c := range []struct {
		k api.Token
		e api.Errno
	}{
		{api.Token{Tenant: 1, Serial: 7, Size: 3}, api.ErrPassGone},
		{api.Token{Tenant: 2, Serial: 8, Size: 3}, api.ErrPassGone},
		{api.Token{Tenant: 1, Serial: 8, Size: 5}, api.ErrPassRight},
		{api.Token{Tenant: 2, Serial: 7, Size: 6}, api.ErrPassRight},
	} {
		wantRefused(t, table, pass.Issue([]byte("k"), c.k), c.e)
	}
	wantTaken(t, table, "k", api.Token{Tenant: 1, Serial: 8, Size: 3})
	wantTaken(t, table, "k", api.Token{Tenant: 2, Serial: 7, Size: 5})
	good := pass.Issue([]byte("k"), api.Token{Tenant: 1, Serial: 1, Size: 3})
	other := pass.Issue([]byte("k"), api.Token{Tenant: 2, Serial: 1, Size: 3})
	// 18 bytes end within a sign; 40 signs are 25 bytes, seven of the tag's among them.
	wantRefused(t, table, other[:40]+good[40:], api.ErrPassTag)
}

func TestCheckOfGoneOnes(t *testing.T) {
	gone := []uint32{9, 0, 5, math.MaxUint32, 9}
	table := newTable(t, api.Tenant{ID: 1, Key: []byte("k"), Size: 3, Gone: gone})
	for _, serial := range []uint32{0, 1, 4, 5, 6, 8, 9, 10, math.MaxUint32 - 1, math.MaxUint32} {
		k := api.Token{Tenant: 1, Serial: serial, Size: 3}
		if !slices.Contains(gone, serial) {
			wantTaken(t, table, "k", k)
			continue
		}
		wantRefused(t, table, pass.Issue([]byte("k"), k), api.ErrPassGone)
		// The tag ahead of that, the size behind it.
		wantRefused(t, table, pass.Issue([]byte("l"), k), api.ErrPassTag)
		k.Size = 4
		wantRefused(t, table, pass.Issue([]byte("k"), k), api.ErrPassGone)
		k.Size = 0
		wantRefused(t, table, pass.Issue([]byte("k"), k), api.ErrPassGone)
		wantRefused(t, table, pass.Issue([]byte("l"), k), api.ErrPassTag)
	}
}

func TestCheckOfSizes(t *testing.T) {
	for _, has := range []uint64{0, 1, 2, 1 << 32, 1 << 63, math.MaxUint64 - 1, math.MaxUint64} {
		table := newTable(t, api.Tenant{ID: 1, Key: []byte("k"), Quota: 5, Size: has})
		for _, size := range []uint64{0, 1, 2, 3, 1 << 32, 1<<32 + 1, 1 << 63, 1<<63 + 1, math.MaxUint64 - 1, math.MaxUint64} {
			for _, ro := range []bool{false, true} {
				k := api.Token{Tenant: 1, Size: size, ReadOnly: ro}
				if size > 0 && size <= has {
					wantTaken(t, table, "k", k)
				} else {
					wantRefused(t, table, pass.Issue([]byte("k"), k), api.ErrPassRight)
					wantRefused(t, table, pass.Issue([]byte("l"), k), api.ErrPassTag)
				}
			}
		}
	}
}

// tenants are n of them that may stand in one table.
func tenants(n int) []api.Tenant {
	var out []api.Tenant
	for i := range n {
		out = append(out, api.Tenant{ID: uint32(i) * 0x3000001, Key: []byte{byte(i)}, Quota: uint64(i), Size: 100 + uint64(i), Gone: []uint32{uint32(i)}})
	}
	return out
}

func wantNoTable(t *testing.T, l []api.Tenant, want api.Errno) {
	t.Helper()
	if table, e := pass.New(l); e != want || table != nil {
		t.Errorf("New of %d tenants: %v, %v, want %v", len(l), table, e, want)
	}
}

func TestNewOfEveryCount(t *testing.T) {
	for n := range 65 {
		l := tenants(n)
		table := newTable(t, l...)
		for _, tenant := range l {
			if got, ok := table.Tenant(tenant.ID); !ok || !reflect.DeepEqual(got, tenant) {
				t.Errorf("%d tenants: %+v, %v, want %+v", n, got, ok, tenant)
			}
			wantTaken(t, table, string(tenant.Key), api.Token{Tenant: tenant.ID, Serial: 1000, Size: tenant.Size})
		}
	}
	newTable(t, []api.Tenant{}...)
}

func TestNewOfTooMany(t *testing.T) {
	for _, n := range []int{65, 66, 128, 1000} {
		wantNoTable(t, tenants(n), api.ErrLimit)
		// The limit is asked for ahead of what the tenants are.
		wantNoTable(t, make([]api.Tenant, n), api.ErrLimit)
	}
	l := tenants(65)
	newTable(t, l[:64]...)
}

func TestNewOfOneNumberTwice(t *testing.T) {
	for _, n := range []int{2, 3, 64} {
		for i := range n {
			for _, j := range []int{0, n / 2, n - 1} {
				l := tenants(n)
				l[i].ID = l[j].ID
				if i != j {
					wantNoTable(t, l, api.ErrArg)
				}
			}
		}
	}
	same := api.Tenant{ID: 1, Key: []byte("k"), Size: 1}
	wantNoTable(t, []api.Tenant{same, same}, api.ErrArg)
}

func TestNewOfNoKey(t *testing.T) {
	for _, n := range []int{1, 2, 64} {
		for i := range n {
			for _, key := range [][]byte{nil, {}, []byte("key")[:0]} {
				l := tenants(n)
				l[i].Key = key
				wantNoTable(t, l, api.ErrArg)
			}
		}
	}
	newTable(t, api.Tenant{Key: []byte{0}})
}

func TestTenantThatIsNone(t *testing.T) {
	table := newTable(t, api.Tenant{ID: 1, Key: []byte("k"), Quota: 2, Size: 3, Gone: []uint32{4}})
	for _, id := range []uint32{0, 2, 1 << 8, 1 << 16, math.MaxUint32} {
		if got, ok := table.Tenant(id); ok || !reflect.DeepEqual(got, api.Tenant{}) {
			t.Errorf("tenant %d: %+v, %v", id, got, ok)
		}
	}
	if got, ok := newTable(t).Tenant(0); ok || !reflect.DeepEqual(got, api.Tenant{}) {
		t.Errorf("an empty table: %+v, %v", got, ok)
	}
}

func TestTablesKeepWhatTheyWereGiven(t *testing.T) {
	key, gone := []byte("key and more"), []uint32{4, 5, 6}
	l := []api.Tenant{{ID: 1, Key: key[:3], Quota: 2, Size: 3, Gone: gone[:1]}, {ID: 2, Key: []byte("l"), Size: 3, Gone: []uint32{}}}
	table := newTable(t, l...)
	if string(key) != "key and more" || !slices.Equal(gone, []uint32{4, 5, 6}) {
		t.Error("New changed its argument")
	}
	copy(key, "other bytes.")
	copy(gone, []uint32{7, 8, 9})
	l[0], l[1] = l[1], api.Tenant{}
	want := api.Tenant{ID: 1, Key: []byte("key"), Quota: 2, Size: 3, Gone: []uint32{4}}
	for range 2 {
		got, ok := table.Tenant(1)
		if !ok || !reflect.DeepEqual(got, want) {
			t.Fatalf("%+v, want %+v", got, want)
		}
		// What is answered is the asker's: what it does with it, and behind it, the table does not see.
		got.Key[0], got.Gone[0] = 'x', 5
		for i := range got.Key[:cap(got.Key)] {
			got.Key[:cap(got.Key)][i] = 'y'
		}
		got.Size, got.ID = 100, 100
	}
	wantRefused(t, table, pass.Issue([]byte("key"), api.Token{Tenant: 1, Serial: 4, Size: 1}), api.ErrPassGone)
	wantTaken(t, table, "key", api.Token{Tenant: 1, Serial: 5, Size: 3})
	wantTaken(t, table, "key", api.Token{Tenant: 1, Serial: 7, Size: 3})
	if got, ok := table.Tenant(2); !ok || len(got.Gone) != 0 || string(got.Key) != "l" {
		t.Errorf("%+v, %v", got, ok)
	}
}

// A list's memory behind its length is no part of it, to read or to hand out.
func TestNothingBehindLengths(t *testing.T) {
	key, gone := []byte("key and more"), []uint32{4, 5, 6}
	table := newTable(t, api.Tenant{ID: 1, Key: key[:3], Size: 3, Gone: gone[:1]})
	got, _ := table.Tenant(1)
	if bytes.Contains(got.Key[:cap(got.Key)], []byte(" and")) || slices.Contains(got.Gone[:cap(got.Gone)], 5) {
		t.Error("what lies behind a length was handed out")
	}
	mem := []byte("key and more")
	if name := pass.Issue(mem[:3], api.Token{Tenant: 1, Size: 3}); string(mem) != "key and more" || name != pass.Issue([]byte("key"), api.Token{Tenant: 1, Size: 3}) {
		t.Errorf("Issue by a piece of a list: %q, %q", name, mem)
	}
}

func TestTablesAreApart(t *testing.T) {
	one := newTable(t, api.Tenant{ID: 1, Key: []byte("k"), Size: 3})
	two := newTable(t, api.Tenant{ID: 1, Key: []byte("l"), Size: 4}, api.Tenant{ID: 2, Key: []byte("m"), Size: 3})
	wantTaken(t, one, "k", api.Token{Tenant: 1, Size: 3})
	wantTaken(t, two, "l", api.Token{Tenant: 1, Size: 4})
	wantRefused(t, one, pass.Issue([]byte("l"), api.Token{Tenant: 1, Size: 3}), api.ErrPassTag)
	wantRefused(t, one, pass.Issue([]byte("m"), api.Token{Tenant: 2, Size: 3}), api.ErrPassTenant)
	// Checking changes nothing: neither what is taken nor what is refused.
	wantTaken(t, one, "k", api.Token{Tenant: 1, Size: 3})
}

func FuzzIssueThenLook(f *testing.F) {
	f.Add([]byte("k"), uint32(1), uint32(2), uint64(3), false, uint64(3))
	f.Add([]byte{}, uint32(0), uint32(0), uint64(0), true, uint64(0))
	f.Fuzz(func(t *testing.T, key []byte, tenant, serial uint32, size uint64, ro bool, has uint64) {
		k := api.Token{Tenant: tenant, Serial: serial, Size: size, ReadOnly: ro}
		name := pass.Issue(key, k)
		if name != tagged(key, wantedBody(k)) {
			t.Errorf("Issue of %+v by %x: %q", k, key, name)
		}
		wantLook(t, name, k)
		own := append(bytes.Clone(key), 1)
		table := newTable(t, api.Tenant{ID: tenant, Key: own, Size: has})
		if size == 0 || size > has {
			wantRefused(t, table, pass.Issue(own, k), api.ErrPassRight)
		} else {
			wantTaken(t, table, string(own), k)
		}
		wantRefused(t, table, name, api.ErrPassTag)
	})
}

func FuzzAnyName(f *testing.F) {
	f.Add("")
	f.Add(pass.Issue([]byte("k"), api.Token{Tenant: 1, Serial: 2, Size: 3}))
	f.Add(text(append(wantedBody(api.Token{Tenant: 1, Size: 3}), make([]byte, 32)...)))
	f.Add(strings.Repeat("a", 80))
	f.Fuzz(func(t *testing.T, name string) {
		table := newTable(t, api.Tenant{ID: 1, Key: []byte("k"), Size: 3})
		k, e := pass.Look(name)
		if e != api.OK {
			wantForm(t, name)
			return
		}
		b, err := library().DecodeString(name)
		if err != nil || len(b) != 50 || text(b) != name || !bytes.Equal(b[:18], wantedBody(k)) {
			t.Errorf("Look of %q: %+v", name, k)
		}
		if got, e := table.Check(name); e == api.OK && (got != k || name != pass.Issue([]byte("k"), k)) {
			t.Errorf("Check of %q: %+v", name, got)
		}
	})
}

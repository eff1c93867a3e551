package pipe_test

import (
	"bytes"
	"math"
	"runtime"
	"slices"
	"testing"

	"coaming/api"
	"coaming/pipe"
)

// places are numbers at the edges of what may be asked for, some of them with the low bits of a place that there is.
var places = []int{math.MinInt, math.MinInt + 1, -1 << 32, -1<<32 + 1, -65536, -256, -255, -17, -16, -15, -2, -1, 0, 1, 2, 7, 14, 15, 16, 17, 31, 255, 256, 257, 1 << 16, 1<<16 + 1, 1<<31 - 1, 1 << 31, 1 << 32, 1<<32 + 1, 1<<62 + 1, math.MaxInt - 1, math.MaxInt}

// numbered is a request none of whose fields is that of one with another number.
func numbered(n int) api.Request {
	u := uint64(n)
	return api.Request{
		Flags:  uint16(n),
		Kind:   uint16(n + 1000),
		Cookie: u<<56 | u,
		Offset: u<<48 | 0xffff,
		Length: uint32(n)<<24 | 3,
		Data:   []byte{byte(n), 0, 0xff, byte(n)},
	}
}

// odd are requests as they may be, and as none may be: a pipe asks for nothing of that.
func odd() []api.Request {
	return []api.Request{
		{},
		{Data: []byte{}},
		{Data: []byte{0}},
		{Flags: math.MaxUint16, Kind: math.MaxUint16, Cookie: math.MaxUint64, Offset: math.MaxUint64, Length: math.MaxUint32},
		{Kind: api.CmdWrite, Length: 5, Data: []byte("abc")},
		{Kind: api.CmdRead, Length: api.MaxLen, Data: []byte("abcdef")},
		{Kind: api.CmdDisc},
		{Flags: api.FlagFUA, Kind: api.CmdWrite, Cookie: 1 << 63, Offset: 1 << 63, Length: api.MaxLen, Data: bytes.Repeat([]byte{1, 2, 3, 0}, api.MaxLen/4)},
		{Kind: api.CmdZero, Data: bytes.Repeat([]byte{9}, api.MaxLen+1)},
	}
}

func same(a, b api.Request) bool {
	return a.Flags == b.Flags && a.Kind == b.Kind && a.Cookie == b.Cookie && a.Offset == b.Offset && a.Length == b.Length && bytes.Equal(a.Data, b.Data)
}

func sameList(a, b []api.Request) bool { return slices.EqualFunc(a, b, same) }

// copied is a request that shares no memory with r.
func copied(r api.Request) api.Request {
	r.Data = bytes.Clone(r.Data)
	return r
}

// spoil writes to all memory of a request's data, also to what lies behind their length.
func spoil(r api.Request) {
	data := r.Data[:cap(r.Data)]
	for i := range data {
		data[i] ^= 0xa5
	}
}

// model is what the document says of a pipe, told by its words alone.
type model struct{ waiting []api.Request }

func (m *model) add(r api.Request) bool {
	if len(m.waiting) == 16 {
		return false
	}
	m.waiting = append(m.waiting, copied(r))
	return true
}

func (m *model) take(k int) (api.Request, bool) {
	var taken api.Request
	var left []api.Request
	is := false
	for place, r := range m.waiting {
		if place == k {
			taken, is = r, true
		} else {
			left = append(left, r)
		}
	}
	m.waiting = left
	return taken, is
}

// want asks for all that a pipe tells without being changed.
func want(t *testing.T, what string, p *pipe.Pipe, waiting ...api.Request) {
	t.Helper()
	if got := p.Len(); got != len(waiting) {
		t.Fatalf("%s: Len: %d, want %d", what, got, len(waiting))
	}
	if got := p.Full(); got != (len(waiting) == 16) {
		t.Fatalf("%s: Full: %v, where %d wait", what, got, len(waiting))
	}
	if got := p.All(); !sameList(got, waiting) {
		t.Fatalf("%s: All: %v, want %v", what, got, waiting)
	}
}

func wantAdd(t *testing.T, p *pipe.Pipe, m *model, r api.Request) {
	t.Helper()
	is := m.add(r)
	if got := p.Add(r); got != is {
		t.Fatalf("Add of %v: %v, want %v", r, got, is)
	}
	want(t, "Add", p, m.waiting...)
}

func wantTake(t *testing.T, p *pipe.Pipe, m *model, k int) {
	t.Helper()
	r, is := m.take(k)
	if got, ok := p.Take(k); !same(got, r) || ok != is {
		t.Fatalf("Take(%d): %v, %v, want %v, %v", k, got, ok, r, is)
	}
	want(t, "Take", p, m.waiting...)
}

func wantClear(t *testing.T, p *pipe.Pipe, m *model) {
	t.Helper()
	p.Clear()
	m.waiting = nil
	want(t, "Clear", p)
}

// with is a pipe in which so many wait, numbered from 0 on.
func with(t *testing.T, count int) (*pipe.Pipe, *model) {
	t.Helper()
	p, m := pipe.New(), &model{}
	if p == nil {
		t.Fatal("New: nil")
	}
	want(t, "New", p)
	for n := range count {
		wantAdd(t, p, m, numbered(n))
	}
	return p, m
}

func TestExample(t *testing.T) {
	a, b, c := api.Request{Cookie: 1}, api.Request{Cookie: 2, Data: []byte("b")}, api.Request{Cookie: 3}
	p := pipe.New()
	for _, r := range []api.Request{a, b, c} {
		if !p.Add(r) {
			t.Error("Add", r)
		}
	}
	if r, is := p.Take(1); !is || !same(r, b) {
		t.Error("Take(1)", r, is)
	}
	if l := p.All(); !sameList(l, []api.Request{a, c}) {
		t.Error("All", l)
	}
	if r, is := p.Take(2); is || !same(r, api.Request{}) {
		t.Error("Take(2)", r, is)
	}
	want(t, "behind it", p, a, c)
}

func TestNoneWaitsAtFirst(t *testing.T) {
	p, m := with(t, 0)
	for _, k := range places {
		wantTake(t, p, m, k)
	}
	wantClear(t, p, m)
}

func TestSixteenMayWait(t *testing.T) {
	p, m := with(t, 16)
	if !p.Full() || p.Len() != 16 || len(m.waiting) != 16 || api.MaxPipe != 16 {
		t.Error(p.Len())
	}
	for n := range 20 {
		if p.Add(numbered(n + 16)) {
			t.Error("one more than may wait", n)
		}
		want(t, "what is full", p, m.waiting...)
	}
}

func TestAddToOneThatIsFullDoesNothing(t *testing.T) {
	for k := range 16 {
		p, m := with(t, 16)
		wantAdd(t, p, m, numbered(77))
		wantTake(t, p, m, k)
		wantAdd(t, p, m, numbered(78))
		wantAdd(t, p, m, numbered(79))
		for range 17 {
			wantTake(t, p, m, 0)
		}
	}
}

func TestTakeOfEveryPlace(t *testing.T) {
	for count := range 17 {
		for _, k := range places {
			p, m := with(t, count)
			wantTake(t, p, m, k)
			wantAdd(t, p, m, numbered(90))
			wantTake(t, p, m, p.Len()-1)
			wantTake(t, p, m, k)
		}
		for k := range count {
			p, m := with(t, count)
			wantTake(t, p, m, k)
			if len(m.waiting) != count-1 {
				t.Fatal(k, len(m.waiting))
			}
		}
	}
}

func TestNothingIsTakenWhereNoneIs(t *testing.T) {
	for count := range 17 {
		p, m := with(t, count)
		for _, k := range append([]int{count, count + 1}, places...) {
			if k >= 0 && k < count {
				continue
			}
			r, is := p.Take(k)
			if is || !same(r, api.Request{}) || r.Data != nil {
				t.Fatalf("Take(%d) of %d: %v, %v", k, count, r, is)
			}
			want(t, "nothing taken", p, m.waiting...)
		}
	}
}

func TestAllAreTakenInAnyOrder(t *testing.T) {
	for stride := range 16 {
		p, m := with(t, 16)
		var seen [16]int
		for k := 0; p.Len() > 0; k += stride {
			place := k % p.Len()
			r, _ := m.take(place)
			got, is := p.Take(place)
			if !is || !same(got, r) {
				t.Fatalf("Take(%d): %v, %v, want %v", place, got, is, r)
			}
			seen[got.Flags]++
		}
		if seen != [16]int{1, 1, 1, 1, 1, 1, 1, 1, 1, 1, 1, 1, 1, 1, 1, 1} {
			t.Error(stride, seen)
		}
		want(t, "all taken", p)
	}
}

func TestWhatIsAddedIsTakenAsItWas(t *testing.T) {
	for count := range 8 {
		for _, r := range odd() {
			p, m := with(t, count)
			wantAdd(t, p, m, r)
			wantAdd(t, p, m, numbered(50))
			if got, is := p.Take(count); !is || !same(got, r) {
				t.Fatalf("Take(%d): %v, %v, want %v", count, got, is, r)
			}
		}
	}
}

func TestThoseThatAreAlikeAllWait(t *testing.T) {
	p, m := with(t, 0)
	for range 17 {
		wantAdd(t, p, m, numbered(5))
	}
	for k := range 17 {
		wantTake(t, p, m, (16-k)/2)
	}
}

func TestFieldsAreEachKept(t *testing.T) {
	p, m := with(t, 3)
	for _, r := range []api.Request{{Flags: 1}, {Kind: 1}, {Cookie: 1}, {Offset: 1}, {Length: 1}, {Data: []byte{1}}} {
		wantAdd(t, p, m, r)
	}
	wantTake(t, p, m, 0)
	for range 8 {
		wantTake(t, p, m, 1)
	}
}

func TestClearOfAnyNumber(t *testing.T) {
	for count := range 17 {
		p, m := with(t, count)
		wantClear(t, p, m)
		wantTake(t, p, m, 0)
		for n := range 17 {
			wantAdd(t, p, m, numbered(n+30))
		}
		wantTake(t, p, m, count)
		wantClear(t, p, m)
		wantClear(t, p, m)
	}
}

func TestPipesAreApart(t *testing.T) {
	a, ma := with(t, 3)
	b, mb := with(t, 16)
	wantTake(t, a, ma, 1)
	want(t, "another one", b, mb.waiting...)
	wantClear(t, b, mb)
	want(t, "the first one", a, ma.waiting...)
	wantAdd(t, b, mb, numbered(8))
	want(t, "the first one", a, ma.waiting...)
	with(t, 0)
}

func TestDataAreNeitherChangedNorKept(t *testing.T) {
	p := pipe.New()
	full := []byte("abcdef")
	r := api.Request{Kind: api.CmdWrite, Data: full[1:3]}
	p.Add(r)
	p.Add(r)
	p.All()
	if string(full) != "abcdef" || !same(r, api.Request{Kind: api.CmdWrite, Data: []byte("bc")}) {
		t.Fatalf("%q, %v", full, r)
	}
	spoil(api.Request{Data: full})
	wanted := api.Request{Kind: api.CmdWrite, Data: []byte("bc")}
	want(t, "what was handed in is written to", p, wanted, wanted)
	taken, _ := p.Take(0)
	spoil(taken)
	want(t, "one is taken", p, wanted)
	if full[1] != 'b'^0xa5 {
		t.Errorf("%x", full)
	}
}

// TestNothingBehindTheDataIsHandedOut asks for what lies behind the length of what was handed in.
func TestNothingBehindTheDataIsHandedOut(t *testing.T) {
	p := pipe.New()
	full := bytes.Repeat([]byte{7}, 64)
	p.Add(api.Request{Data: full[:3]})
	all := p.All()
	taken, _ := p.Take(0)
	for _, r := range []api.Request{all[0], taken} {
		if behind := r.Data[3:cap(r.Data)]; bytes.IndexByte(behind, 7) >= 0 {
			t.Errorf("%x", behind)
		}
	}
}

func TestAllIsNewMemory(t *testing.T) {
	p, m := with(t, 4)
	a, b := p.All(), p.All()
	for i, r := range a[:cap(a)] {
		spoil(r)
		a[:cap(a)][i] = numbered(99)
	}
	_ = append(a, numbered(98))
	if !sameList(b, m.waiting) {
		t.Fatal(b)
	}
	want(t, "a list is written to", p, m.waiting...)
	for i, r := range b {
		spoil(r)
		if !sameList(b[i+1:], m.waiting[i+1:]) {
			t.Fatal("lists of one answer share memory")
		}
	}
	wantTake(t, p, m, 1)
	wantAdd(t, p, m, numbered(20))
}

func TestAllDoesNotChangeWithThePipe(t *testing.T) {
	p, m := with(t, 5)
	before := slices.Clone(m.waiting)
	all := p.All()
	wantTake(t, p, m, 0)
	wantAdd(t, p, m, numbered(30))
	wantClear(t, p, m)
	wantAdd(t, p, m, numbered(31))
	if !sameList(all, before) {
		t.Error(all)
	}
}

func TestWhatIsTakenIsNewMemory(t *testing.T) {
	p, m := with(t, 16)
	all := p.All()
	first, _ := p.Take(3)
	m.take(3)
	second, _ := p.Take(3)
	m.take(3)
	spoil(first)
	want(t, "one is written to", p, m.waiting...)
	if !same(second, numbered(4)) || !same(all[3], numbered(3)) {
		t.Error(second, all[3])
	}
	for n := range 2 {
		wantAdd(t, p, m, numbered(n+40))
	}
	wantClear(t, p, m)
	wantAdd(t, p, m, numbered(60))
	if !same(second, numbered(4)) {
		t.Error("it changes with its pipe", second)
	}
}

// heap is how many bytes are in use, when those that nobody can reach are gone.
func heap() uint64 {
	var m runtime.MemStats
	runtime.GC()
	runtime.ReadMemStats(&m)
	return m.HeapAlloc
}

func TestWhatDoesNotWaitIsNotKept(t *testing.T) {
	long := api.Request{Data: make([]byte, 1<<20)}
	for name, empty := range map[string]func(p *pipe.Pipe){
		"taken from the front": func(p *pipe.Pipe) {
			for p.Len() > 0 {
				p.Take(0)
			}
		},
		"taken from the end": func(p *pipe.Pipe) {
			for p.Len() > 0 {
				p.Take(p.Len() - 1)
			}
		},
		"cleared": (*pipe.Pipe).Clear,
	} {
		before := heap()
		p := pipe.New()
		for p.Add(long) {
		}
		empty(p)
		if after := heap(); after > before+1<<19 {
			t.Errorf("%s: %d bytes more than at first", name, after-before)
		}
		want(t, name, p)
	}
	runtime.KeepAlive(long.Data)
}

// play does the calls that bytes tell, two bytes a call.
func play(t *testing.T, calls []byte) {
	p, m := with(t, 0)
	for i := 0; i+1 < len(calls); i += 2 {
		what, n := calls[i], int(calls[i+1])
		switch {
		case what < 120:
			wantAdd(t, p, m, api.Request{Flags: uint16(what), Kind: uint16(n), Cookie: uint64(i), Data: calls[i:min(i+2+n%2, len(calls))]})
		case what < 250:
			wantTake(t, p, m, n%20-2)
		case what < 253:
			wantTake(t, p, m, places[n%len(places)])
		default:
			wantClear(t, p, m)
		}
	}
}

// numbers are some bytes, in an order that is always the same.
func numbers(seed uint64, count int) []byte {
	out := make([]byte, count)
	for i := range out {
		seed = seed*6364136223846793005 + 1442695040888963407
		out[i] = byte(seed >> 56)
	}
	return out
}

func TestManyCalls(t *testing.T) {
	for seed := range uint64(60) {
		play(t, numbers(seed, 1000))
	}
}

func FuzzCalls(f *testing.F) {
	f.Add([]byte{0, 1, 1, 2, 2, 3, 130, 3, 130, 4, 0, 0})
	f.Add(append(bytes.Repeat([]byte{5, 5}, 17), 130, 17, 252, 0, 255, 0, 5, 5, 0))
	f.Fuzz(func(t *testing.T, calls []byte) {
		if len(calls) < 4096 {
			play(t, calls)
		}
	})
}

package vol_test

import (
	"slices"
	"testing"

	"coaming/api"
	"coaming/vol"
)

// told is what a tenant is told of a command.
type told struct {
	answer uint32
	data   string
	used   uint64
}

// act does a command of a tenant that a script picks, and is what is told of it.
func act(v *vol.Vol, tenant uint32, s *script) told {
	size := uint64(v.Store().Dev().Shape().Block)
	e := export(tenant, size*12+5)
	e.ReadOnly = s.below(20) == 0
	offset := s.pick(uint64(s.below(12))*size, uint64(s.below(12))*size, uint64(s.below(900)))
	length := uint32(s.pick(size, size, 1, 3*size, 12*size, uint64(s.below(900))))
	good := s.below(10) == 0
	var x told
	var b []byte
	switch s.below(6) {
	case 0:
		x.answer = v.Trim(e, offset, length, good)
	case 1:
		x.answer = v.Zero(e, offset, length, good)
	case 2, 3:
		b, x.answer = v.Read(e, offset, length)
	default:
		x.answer = v.Write(e, offset, []byte(text(int(length), s.next())), good)
	}
	x.data, x.used = string(b), v.Used(tenant)
	return x
}

// play does a tenant's commands; ahead of each, others do theirs, and zones are cleaned.
func play(v *vol.Vol, commands, others []byte) []told {
	s, o := &script{commands}, &script{others}
	var l []told
	for len(s.left) > 0 {
		for n := o.below(5); n > 0 && len(o.left) > 0; n-- {
			switch kind := o.below(8); kind {
			case 0:
				v.Clean()
			case 1:
				v.Flush()
			default:
				act(v, uint32(2+kind%3), o)
			}
		}
		l = append(l, act(v, 1, s))
	}
	return l
}

// TestTenantsAreApart plays a tenant's commands alone, and among those of others, who use all they may, and more.
func TestTenantsAreApart(t *testing.T) {
	answers := map[uint32]int{}
	for seed := range uint64(150) {
		at := shapes()[seed%uint64(len(shapes())-1)]
		all := uint64(room(at))
		l := tenants(all/2, all/4, all-all/2-all/4)
		commands := numbers(seed, 2500)
		alone := play(made(t, at, l...), commands, nil)
		for other := range uint64(2) {
			got := play(made(t, at, l...), commands, numbers(seed*2+other+1000, 12000))
			for i := range alone {
				if got[i] != alone[i] {
					t.Fatalf("command %d is told %v, alone %v", i, got[i], alone[i])
				}
			}
		}
		// Who the others are, and what they may, makes no difference either.
		if !slices.Equal(play(made(t, at, l[:1]...), commands, nil), alone) {
			t.Fatal("without others it is another one")
		}
		for _, x := range alone {
			answers[x.answer]++
		}
	}
	for _, x := range []uint32{api.AnsOK, api.AnsPerm, api.AnsInval, api.AnsNoSpc} {
		if answers[x] < 100 {
			t.Fatalf("too few of some answer: %v", answers)
		}
	}
	if answers[api.AnsIO] > 0 {
		t.Fatalf("AnsIO: %v", answers)
	}
}

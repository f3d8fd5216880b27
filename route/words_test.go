package route

import (
	"slices"
	"testing"

	"underpass/api"
	"underpass/samples"
)

// plain does as the chapter's words say it, with a list that is gone through,
// to hold tables against it.
type plain struct {
	routes []Route
}

func (p *plain) at(dst api.IP, bits int) int {
	return slices.IndexFunc(p.routes, func(r Route) bool { return r.Dst == dst && r.Bits == bits })
}

func (p *plain) add(r Route) api.Errno {
	if r.Bits < 0 || r.Bits > 32 || cut(r.Dst, r.Bits) != r.Dst {
		return api.ErrArg
	}
	if i := p.at(r.Dst, r.Bits); i >= 0 {
		p.routes[i] = r
		return api.OK
	}
	if len(p.routes) == 64 {
		return api.ErrFull
	}
	p.routes = append(p.routes, r)
	return api.OK
}

func (p *plain) del(dst api.IP, bits int) api.Errno {
	i := p.at(dst, bits)
	if i < 0 {
		return api.ErrNone
	}
	p.routes = slices.Delete(p.routes, i, i+1)
	return api.OK
}

func (p *plain) find(ip api.IP) (Route, bool) {
	var found Route
	bits := -1
	for _, r := range p.routes {
		if cut(ip, r.Bits) == cut(r.Dst, r.Bits) && r.Bits > bits {
			found, bits = r, r.Bits
		}
	}
	return found, bits >= 0
}

func (p *plain) list() []Route {
	routes := slices.Clone(p.routes)
	slices.SortFunc(routes, func(a, b Route) int {
		if a.Dst != b.Dst && a.Dst < b.Dst || a.Dst == b.Dst && a.Bits < b.Bits {
			return -1
		}
		return 1
	})
	return routes
}

// someAddress is often one that has much in common with others.
func someAddress(n *samples.Noise) api.IP {
	ip := []api.IP{0, ip(10, 0, 0, 0), ip(10, 1, 0, 0), 0x80000000, 0xFFFFFFFF}[n.Below(5)]
	for range n.Below(4) {
		ip ^= 1 << n.Below(32)
	}
	return ip
}

// someBits are at times none that a route has.
func someBits(n *samples.Noise) int { return n.Below(37) - 2 }

// steps does the same with a table and with what the words say, and looks at
// all answers.
func steps(t *testing.T, seed samples.Noise, count int, look func(tb *Table, p *plain, ip api.IP)) {
	t.Helper()
	tb, p, full := New(), &plain{}, 0
	for n := range count {
		ip, bits := someAddress(&seed), someBits(&seed)
		if seed.Below(8) > 0 {
			ip = cut(ip, bits)
		}
		if seed.Below(4) > 0 {
			r := mark(ip, bits, n)
			want := p.add(r)
			wantAdd(t, "a step", tb, r, want)
			if want == api.ErrFull {
				full++
			}
		} else {
			if len(p.routes) > 0 && seed.Below(2) == 0 {
				r := p.routes[seed.Below(len(p.routes))]
				ip, bits = r.Dst, r.Bits
			}
			wantDel(t, "a step", tb, ip, bits, p.del(ip, bits))
		}
		wantList(t, "a step", tb, p.list()...)
		look(tb, p, someAddress(&seed))
		look(tb, p, ip)
	}
	if full == 0 {
		t.Fatal("no table was full")
	}
}

func TestTablesAreWhatTheWordsSay(t *testing.T) {
	for seed := range 20 {
		steps(t, samples.Noise(seed), 1000, func(tb *Table, p *plain, ip api.IP) {
			if r, ok := p.find(ip); ok {
				wantFound(t, "a step", tb, ip, r)
			} else {
				wantNotFound(t, "a step", tb, ip)
			}
		})
	}
}

func TestNoRouteThatCoversHasMoreBits(t *testing.T) {
	for seed := range 20 {
		steps(t, samples.Noise(100+seed), 1000, func(tb *Table, _ *plain, ip api.IP) {
			found, ok := tb.Find(ip)
			if ok && cut(ip, found.Bits) != found.Dst {
				t.Fatalf("%+v does not cover %08X", found, ip)
			}
			for _, r := range tb.List() {
				if cut(ip, r.Bits) == r.Dst && (!ok || r.Bits > found.Bits) {
					t.Fatalf("%+v covers %08X, but %+v, %v was found", r, ip, found, ok)
				}
			}
		})
	}
}

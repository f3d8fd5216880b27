package cache

import (
	"slices"
	"testing"

	"underpass/api"
	"underpass/samples"
)

// plain does as the chapter's words say it, with a list that is gone through,
// to hold caches against it.
type plain struct {
	entries []*item
}

type item struct {
	ip      api.IP
	mac     api.MAC
	asked   int // 0 of one that is known
	time    uint64
	packets [][]byte
}

func (x *item) behind(now, far uint64) bool { return now > x.time && now-x.time >= far }

func (x *item) old(now uint64) bool { return x.asked == 0 && x.behind(now, 60) }

func (p *plain) at(ip api.IP) *item {
	for _, x := range p.entries {
		if x.ip == ip {
			return x
		}
	}
	return nil
}

func (p *plain) drop(gone *item) {
	p.entries = slices.DeleteFunc(p.entries, func(x *item) bool { return x == gone })
}

func (p *plain) find(ip api.IP, now uint64) (api.MAC, bool) {
	if x := p.at(ip); x != nil && x.asked == 0 && !x.old(now) {
		return x.mac, true
	}
	return api.MAC{}, false
}

func (p *plain) room() bool {
	if len(p.entries) < 32 {
		return true
	}
	var least *item
	for _, x := range p.entries {
		if x.asked == 0 && (least == nil || x.time < least.time || x.time == least.time && x.ip < least.ip) {
			least = x
		}
	}
	if least != nil {
		p.drop(least)
	}
	return least != nil
}

func (p *plain) learn(ip api.IP, mac api.MAC, now uint64) ([][]byte, api.Errno) {
	x := p.at(ip)
	if x == nil {
		if !p.room() {
			return nil, api.ErrFull
		}
		x = &item{ip: ip}
		p.entries = append(p.entries, x)
	}
	waited := x.packets
	x.mac, x.asked, x.time, x.packets = mac, 0, now, nil
	return waited, api.OK
}

func (p *plain) wait(ip api.IP, packet []byte, now uint64) (bool, api.Errno) {
	if _, known := p.find(ip, now); known {
		return false, api.ErrState
	}
	if x := p.at(ip); x != nil && x.asked > 0 {
		if len(x.packets) == 4 {
			return false, api.ErrFull
		}
		x.packets = append(x.packets, packet)
		return false, api.OK
	}
	p.drop(p.at(ip))
	if !p.room() {
		return false, api.ErrFull
	}
	p.entries = append(p.entries, &item{ip: ip, asked: 1, time: now, packets: [][]byte{packet}})
	return true, api.OK
}

func (p *plain) tick(now uint64) ([]api.IP, int) {
	var due []api.IP
	gone := 0
	for _, x := range slices.Clone(p.entries) {
		switch {
		case x.old(now):
			p.drop(x)
		case x.asked == 0 || !x.behind(now, 2):
		case x.asked == 3:
			gone += len(x.packets)
			p.drop(x)
		default:
			x.asked++
			x.time = now
			due = append(due, x.ip)
		}
	}
	return rising(due...), gone
}

// someTime mostly stays or goes on, and goes back at times.
func someTime(n *samples.Noise, now uint64) uint64 {
	switch n.Below(40) {
	case 0:
		return now + uint64(n.Below(Life+2))
	case 1:
		return now - min(now, uint64(n.Below(Life+2)))
	case 2, 3, 4, 5:
		return now + 1
	}
	return now
}

// tally is what came of packets, and how often there was no room.
type tally struct {
	waiting, told, gone, full int
}

// steps does the same with a cache and with what the words say, and looks at
// all answers. Of few addresses caches have room, of many they have none.
func steps(t *testing.T, seed samples.Noise, addresses, learns, count int) (*Cache, *plain, tally) {
	t.Helper()
	c, p, sum := New(), &plain{}, tally{}
	now := uint64(seed.Below(100))
	for n := range count {
		now = someTime(&seed, now)
		to := ip(seed.Below(addresses))
		switch step := seed.Below(40); {
		case step == 0:
			due, gone := p.tick(now)
			wantTick(t, "a step", c, now, gone, due...)
			sum.gone += gone
		case step < learns:
			waited, code := p.learn(to, mac(n), now)
			wantLearn(t, "a step", c, to, mac(n), now, waited, code)
			sum.told += len(waited)
			if code == api.ErrFull {
				sum.full++
			}
		default:
			ask, code := p.wait(to, packet(n), now)
			wantWait(t, "a step", c, to, packet(n), now, ask, code)
			if code == api.OK {
				sum.waiting++
			}
			if code == api.ErrFull && p.at(to) == nil {
				sum.full++
			}
		}
		wantSame(t, c, p, addresses, now)
	}
	return c, p, sum
}

func wantSame(t *testing.T, c *Cache, p *plain, addresses int, now uint64) {
	t.Helper()
	wantLen(t, "a step", c, len(p.entries))
	for n := range addresses {
		if m, known := p.find(ip(n), now); known {
			wantFound(t, "a step", c, ip(n), now, m)
		} else {
			wantNotFound(t, "a step", c, ip(n), now)
		}
	}
}

func TestCachesAreWhatTheWordsSay(t *testing.T) {
	full := 0
	for seed := range 20 {
		for _, addresses := range []int{3, 31, 33, 60} {
			for _, learns := range []int{2, 10, 30} {
				_, _, sum := steps(t, samples.Noise(seed), addresses, learns, 400)
				full += sum.full
			}
		}
	}
	if full == 0 {
		t.Fatal("no cache was without room")
	}
}

// Each packet that waited was told once, or went by a Tick: the numbers of
// packets are unlike each other, so that the answers themselves are held by
// steps.
func TestEachPacketIsToldOnceOrGoes(t *testing.T) {
	told, gone := 0, 0
	for seed := range 30 {
		c, p, sum := steps(t, samples.Noise(1000+seed), 20+seed, 2+seed%20, 600)
		last := uint64(1 << 20)
		for range Tries {
			due, n := p.tick(last)
			wantTick(t, "the last steps", c, last, n, due...)
			sum.gone += n
			last += Life
		}
		wantLen(t, "behind all", c, 0)
		if sum.waiting != sum.told+sum.gone {
			t.Fatalf("%d waited, %d were told, and %d went", sum.waiting, sum.told, sum.gone)
		}
		told, gone = told+sum.told, gone+sum.gone
	}
	if told == 0 || gone == 0 {
		t.Fatalf("%d were told, and %d went", told, gone)
	}
}

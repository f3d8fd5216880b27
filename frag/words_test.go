package frag

import (
	"bytes"
	"slices"
	"testing"

	"underpass/api"
	"underpass/ipv4"
	"underpass/samples"
)

// plain does as the chapter's words say it, with lists of all parts that came,
// which are gone through, to hold a Reass against it.
type plain struct {
	timeout uint64
	heaps   []*pile
}

type pile struct {
	began uint64
	parts []ipv4.Packet
}

func together(p, q ipv4.Packet) bool {
	return p.Src == q.Src && p.Dst == q.Dst && p.Proto == q.Proto && p.ID == q.ID
}

func end(p ipv4.Packet) int { return p.Off + len(p.B) }

func agree(p, q ipv4.Packet) bool {
	for at := max(p.Off, q.Off); at < min(end(p), end(q)); at++ {
		if p.B[at-p.Off] != q.B[at-q.Off] {
			return false
		}
	}
	switch {
	case !p.MF && !q.MF:
		return end(p) == end(q)
	case !p.MF:
		return end(p) >= end(q)
	case !q.MF:
		return end(q) >= end(p)
	}
	return true
}

func (h *pile) whole() (ipv4.Packet, bool) {
	last := slices.IndexFunc(h.parts, func(p ipv4.Packet) bool { return !p.MF })
	first := slices.IndexFunc(h.parts, func(p ipv4.Packet) bool { return p.Off == 0 })
	if last < 0 || first < 0 {
		return ipv4.Packet{}, false
	}
	var b []byte
	for len(b) < end(h.parts[last]) {
		at := len(b)
		for _, p := range h.parts {
			if p.Off <= at && at < end(p) {
				b = append(b, p.B[at-p.Off])
				break
			}
		}
		if len(b) == at {
			return ipv4.Packet{}, false
		}
	}
	p := h.parts[first]
	p.MF, p.B = false, b
	return p, true
}

func (r *plain) drop(gone *pile) {
	r.heaps = slices.DeleteFunc(r.heaps, func(h *pile) bool { return h == gone })
}

func (r *plain) take(p ipv4.Packet, now uint64) (ipv4.Packet, bool, error) {
	if err := ipv4.Right(p); err != nil {
		return ipv4.Packet{}, false, api.Wrap("frag", err)
	}
	if p.Off == 0 && !p.MF {
		return p, true, nil
	}
	i := slices.IndexFunc(r.heaps, func(h *pile) bool { return together(h.parts[0], p) })
	if i < 0 {
		if len(r.heaps) == 8 {
			return ipv4.Packet{}, false, of(api.ErrFull)
		}
		r.heaps = append(r.heaps, &pile{now, []ipv4.Packet{p}})
		return ipv4.Packet{}, false, nil
	}
	h := r.heaps[i]
	for _, q := range h.parts {
		if !agree(p, q) {
			r.drop(h)
			return ipv4.Packet{}, false, of(api.ErrForm)
		}
	}
	h.parts = append(h.parts, p)
	whole, ok := h.whole()
	if ok {
		r.drop(h)
	}
	return whole, ok, nil
}

func (r *plain) tick(now uint64) int {
	gone := 0
	for _, h := range slices.Clone(r.heaps) {
		age := now - min(now, h.began)
		if age >= r.timeout {
			r.drop(h)
			gone++
		}
	}
	return gone
}

// someTime mostly stays or goes on, and goes back at times.
func someTime(n *samples.Noise, now uint64) uint64 {
	switch n.Below(40) {
	case 0:
		return now + uint64(n.Below(40))
	case 1:
		return now - min(now, uint64(n.Below(40)))
	case 2, 3, 4, 5:
		return now + 1
	}
	return now
}

// somePart is one of a few packets of 44 bytes; at times its fields, its bytes,
// or its end are others than theirs, and at times it is not right.
func somePart(n *samples.Noise, packets int) ipv4.Packet {
	p := packet(n.Below(packets), 64)
	off := n.Below(6) * 8
	p = piece(p, off, min(off+8+n.Below(3)*8, 44), true)
	p.MF = end(p) < 44
	p.TOS, p.TTL, p.DF = uint8(n.Below(4)), uint8(n.Below(4)), n.Below(4) == 0
	switch n.Below(60) {
	case 0:
		return turned(p, n.Below(len(p.B)))
	case 1:
		p.MF = false
	case 2:
		p.MF, p.B = true, p.B[:len(p.B)/8*8]
	case 3:
		p.B = p.B[:n.Below(len(p.B)+1)]
	case 4:
		p.Src++
	case 5:
		p.Off += n.Below(17) - 8
	case 6:
		p.MF, p.B = false, nil
	}
	return p
}

// tally is how often what came of parts.
type tally struct {
	whole, full, spoilt, gone, wrong, waits int
}

func (s *tally) count(whole bool, err error) {
	switch {
	case whole:
		s.whole++
	case err == nil:
		s.waits++
	case api.Code(err) == api.ErrFull:
		s.full++
	case api.Code(err) == api.ErrForm:
		s.spoilt++
	default:
		s.wrong++
	}
}

// steps does the same with a Reass and with what the words say, and looks at all
// answers.
func steps(t *testing.T, seed samples.Noise, packets int, count int, s *tally) {
	t.Helper()
	timeout := uint64(seed.Below(40))
	r, p := New(timeout), &plain{timeout: timeout}
	now := uint64(seed.Below(100))
	for range count {
		now = someTime(&seed, now)
		if seed.Below(30) == 0 {
			gone := p.tick(now)
			wantTick(t, "a step", r, now, gone)
			s.gone += gone
		} else {
			part := somePart(&seed, packets)
			want, whole, err := p.take(part, now)
			if whole {
				wantWhole(t, "a step", r, part, now, want)
			} else {
				wantNotWhole(t, "a step", r, part, now, err)
			}
			s.count(whole, err)
		}
		wantLen(t, "a step", r, len(p.heaps))
	}
}

func TestReassIsWhatTheWordsSay(t *testing.T) {
	s := &tally{}
	for seed := range 40 {
		for _, packets := range []int{1, 3, 8, 9, 14} {
			steps(t, samples.Noise(seed*100+packets), packets, 500, s)
		}
	}
	if min(s.whole, s.full, s.spoilt, s.gone, s.wrong, s.waits) < 100 {
		t.Fatalf("what should be seen often is not: %+v", *s)
	}
}

// mixed is the items in another order, each of them once to three times.
func mixed[T any](n *samples.Noise, items []T) []T {
	var all []T
	for _, x := range items {
		for range 1 + n.Below(3) {
			all = append(all, x)
		}
	}
	for i := range all {
		j := i + n.Below(len(all)-i)
		all[i], all[j] = all[j], all[i]
	}
	return all
}

// splitAgain is the parts of parts, by an mtu each.
func splitAgain(t *testing.T, n *samples.Noise, parts []ipv4.Packet) []ipv4.Packet {
	t.Helper()
	var all []ipv4.Packet
	for _, p := range parts {
		l, err := Split(p, 68+n.Below(100))
		if err != nil {
			t.Fatal(short(p), err)
		}
		all = append(all, l...)
	}
	return all
}

// Parts of one packet are taken until it is whole. What comes again behind that
// is left aside, since it would begin another heap.
func wantWholeOf(t *testing.T, r *Reass, parts []ipv4.Packet, want ipv4.Packet) {
	t.Helper()
	for _, part := range parts {
		got, whole, err := r.Take(part, 0)
		if err != nil {
			t.Fatalf("%s: %v", short(part), err)
		}
		if whole {
			if !same(got, want) {
				t.Fatalf("got %s, want %s", short(got), short(want))
			}
			wantLen(t, "whole", r, 0)
			return
		}
	}
	t.Fatalf("%s is not whole by %d parts", short(want), len(parts))
}

func TestWhatIsSplitIsWholeAgain(t *testing.T) {
	n := samples.Noise(7)
	r := New(30)
	for size := range 500 {
		p := packet(size, size)
		for _, mtu := range []int{68, 69, 75, 76, 68 + n.Below(300), 20 + max(size, 48)} {
			parts, err := Split(p, mtu)
			if err != nil {
				t.Fatal(size, mtu, err)
			}
			wantWholeOf(t, r, parts, p)
			slices.Reverse(parts)
			wantWholeOf(t, r, parts, p)
			wantWholeOf(t, r, mixed(&n, parts), p)
			wantWholeOf(t, r, mixed(&n, splitAgain(t, &n, parts)), p)
			if len(parts) == 1 {
				continue // it may be whole at once, while parts of it wait
			}
			ways := slices.Concat(parts, splitAgain(t, &n, parts), splitAgain(t, &n, parts))
			wantWholeOf(t, r, mixed(&n, ways), p)
		}
	}
}

// Parts of eight packets come among each other.
func TestEightPacketsAreWholeAgain(t *testing.T) {
	n := samples.Noise(8)
	for range 50 {
		var all []ipv4.Packet
		whole := map[uint16]ipv4.Packet{}
		for number := range 8 {
			p := packet(number, 50+n.Below(1500))
			whole[p.ID] = p
			parts, err := Split(p, 68+n.Below(200))
			if err != nil {
				t.Fatal(err)
			}
			all = append(all, splitAgain(t, &n, parts)...)
		}
		r := New(30)
		for _, part := range mixed(&n, all) {
			want, open := whole[part.ID]
			if !open {
				continue // it was whole without this one
			}
			got, ok, err := r.Take(part, 0)
			if err != nil || ok && !same(got, want) {
				t.Fatalf("%s: %s, %v", short(part), short(got), err)
			}
			if ok {
				delete(whole, part.ID)
			}
		}
		wantLen(t, "all are whole", r, 0)
		if len(whole) != 0 {
			t.Fatalf("%d are not whole", len(whole))
		}
	}
}

// The largest packet, in the least parts, through the bytes that go over a wire.
func TestTheLargestPacketIsWholeAgain(t *testing.T) {
	p := packet(0, 65515)
	n := samples.Noise(9)
	parts, err := Split(p, 68)
	if err != nil {
		t.Fatal(err)
	}
	r := New(30)
	var carried []ipv4.Packet
	for _, part := range mixed(&n, parts) {
		b, err := part.Bytes()
		if err != nil || len(b) > 68 {
			t.Fatal(len(b), err)
		}
		q, err := ipv4.Parse(b)
		if err != nil {
			t.Fatal(err)
		}
		carried = append(carried, q)
	}
	wantWholeOf(t, r, carried, p)
}

// Whatever is split has parts that are right, in order, and has all its bytes.
func TestPartsAreWhatTheWordsSay(t *testing.T) {
	n := samples.Noise(10)
	for range 3000 {
		p := packet(n.Below(9), n.Below(600))
		p.Off, p.DF = n.Below(100)*8, n.Below(3) == 0
		if n.Below(2) == 0 {
			p.MF, p.B = true, append(p.B, filling(0, 8-len(p.B)%8)...)
		}
		mtu := 68 + n.Below(400)
		if p.DF && len(p.B)+20 > mtu {
			wantNoSplit(t, "DF", p, mtu, of(api.ErrBig))
			continue
		}
		parts, err := Split(p, mtu)
		if err != nil || len(parts) == 0 {
			t.Fatal(short(p), mtu, err)
		}
		var b []byte
		for i, q := range parts {
			last := i == len(parts)-1
			want := p
			want.Off, want.MF, want.B = p.Off+len(b), p.MF || !last, q.B
			if !same(q, want) || ipv4.Right(q) != nil || len(q.B)+20 > mtu || !last && len(q.B)+20+8 <= mtu {
				t.Fatalf("mtu %d, part %d: %s", mtu, i, short(q))
			}
			b = append(b, q.B...)
		}
		if !bytes.Equal(b, p.B) {
			t.Fatalf("mtu %d: other bytes of %s", mtu, short(p))
		}
	}
}

func FuzzTake(f *testing.F) {
	f.Add([]byte{0, 1, 2, 1, 3, 0, 4}, uint64(3))
	f.Add(bytes.Repeat([]byte{9, 200, 3}, 40), uint64(0))
	f.Fuzz(func(t *testing.T, b []byte, timeout uint64) {
		r, p := New(timeout), &plain{timeout: timeout}
		for i := 0; i+3 < len(b) && i < 800; i += 4 {
			part := packet(int(b[i]%10), 64)
			off := int(b[i+1]%5) * 8
			part = piece(part, off, off+int(b[i+2]%24), b[i+1]&0x80 != 0)
			part.TOS = b[i+3]
			want, whole, err := p.take(part, uint64(i))
			if whole {
				wantWhole(t, "a step", r, part, uint64(i), want)
			} else {
				wantNotWhole(t, "a step", r, part, uint64(i), err)
			}
			if b[i+3] == 1 {
				wantTick(t, "a step", r, uint64(b[i]), p.tick(uint64(b[i])))
			}
			wantLen(t, "a step", r, len(p.heaps))
		}
	})
}

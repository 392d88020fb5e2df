package acl_test

import (
	"math"
	"strconv"
	"testing"

	"netverify/acl"
	"netverify/api"
)

const every = math.MaxUint32

var (
	anyAddress = api.Wildcard{Mask: every}
	anyPort    = api.PortRange{Hi: 65535}
)

// plain is a rule that matches every packet.
func plain() api.Rule {
	return api.Rule{Proto: -1, Src: anyAddress, Dst: anyAddress, SrcPorts: anyPort, DstPorts: anyPort}
}

// changed is the rule that matches every packet after this change.
func changed(change func(x *api.Rule)) api.Rule {
	x := plain()
	change(&x)
	return x
}

func host(a uint32) api.Wildcard { return api.Wildcard{Addr: a} }

func port(n int) api.PortRange { return api.PortRange{Lo: n, Hi: n} }

// outside are numbers below and above those from 0 to most.
func outside(most int) []int {
	return []int{math.MinInt, -1 << 32, -65536, -256, -2, -1, most + 1, most + 2, 1 << 20, 1<<32 + 1, math.MaxInt}
}

// digits are the bits of a number, the first one first.
func digits(a uint32) string {
	return strconv.FormatUint(1<<32|uint64(a), 2)[1:]
}

// agrees is what MatchesAddress has to return, computed from the digits.
func agrees(w api.Wildcard, a uint32) bool {
	mask, want, got := digits(w.Mask), digits(w.Addr), digits(a)
	for i := range mask {
		if mask[i] == '0' && want[i] != got[i] {
			return false
		}
	}
	return true
}

// spread puts the three bits of i at the ends and in the middle of a number.
func spread(i uint32) uint32 {
	return i>>2&1<<31 | i>>1&1<<16 | i&1
}

// wildcards are all valid wildcards that match only spread numbers.
func wildcards() []api.Wildcard {
	var l []api.Wildcard
	for mask := range uint32(8) {
		for a := range uint32(8) {
			if a&mask == 0 {
				l = append(l, api.Wildcard{Addr: spread(a), Mask: spread(mask)})
			}
		}
	}
	return l
}

// ranges are all port ranges with these bounds.
func ranges(bounds ...int) []api.PortRange {
	var l []api.PortRange
	for i, lo := range bounds {
		for _, hi := range bounds[i:] {
			l = append(l, api.PortRange{Lo: lo, Hi: hi})
		}
	}
	return l
}

// P701

func TestValidPacket(t *testing.T) {
	for _, src := range []uint32{0, 1, every} {
		for _, dst := range []uint32{0, 1, every} {
			for _, proto := range []int{0, 1, 6, 17, 254, 255} {
				for _, from := range []int{0, 1, 255, 256, 65534, 65535} {
					for _, to := range []int{0, 1, 255, 256, 65534, 65535} {
						p := api.Packet{Src: src, Dst: dst, Proto: proto, SrcPort: from, DstPort: to}
						if !acl.ValidPacket(p) {
							t.Errorf("ValidPacket(%v) is false", p)
						}
					}
				}
			}
		}
	}
}

func TestValidPacketOfNumbersOutOfRange(t *testing.T) {
	for _, other := range []int{0, 6, 255} {
		var l []api.Packet
		for _, n := range outside(255) {
			l = append(l, api.Packet{Proto: n, SrcPort: other, DstPort: other})
		}
		for _, n := range outside(65535) {
			l = append(l,
				api.Packet{Proto: other, SrcPort: n, DstPort: other},
				api.Packet{Proto: other, SrcPort: other, DstPort: n},
				api.Packet{Proto: n, SrcPort: n, DstPort: n})
		}
		for _, p := range l {
			if acl.ValidPacket(p) {
				t.Errorf("ValidPacket(%v) is true", p)
			}
		}
	}
}

func TestMatchesAddress(t *testing.T) {
	for _, c := range []struct {
		w    api.Wildcard
		a    uint32
		want bool
	}{
		{api.Wildcard{}, 0, true},
		{api.Wildcard{}, 1, false},
		{api.Wildcard{}, 1 << 31, false},
		{anyAddress, 0, true},
		{anyAddress, every, true},
		{host(10<<24 | 1), 10<<24 | 1, true},
		{host(10<<24 | 1), 10 << 24, false},
		{host(every), every, true},
		{host(every), every - 1, false},
		{api.Wildcard{Addr: 10 << 24, Mask: 1<<24 - 1}, 10<<24 | 5<<16 | 9, true},
		{api.Wildcard{Addr: 10 << 24, Mask: 1<<24 - 1}, 11 << 24, false},
		{api.Wildcard{Addr: 10<<24 | 1, Mask: 255 << 8}, 10<<24 | 77<<8 | 1, true},
		{api.Wildcard{Addr: 10<<24 | 1, Mask: 255 << 8}, 10<<24 | 77<<8 | 2, false},
		{api.Wildcard{Addr: 1, Mask: every - 1}, 7, true},
		{api.Wildcard{Addr: 1, Mask: every - 1}, 8, false},
		{api.Wildcard{Mask: every >> 1}, every >> 1, true},
		{api.Wildcard{Mask: every >> 1}, 1 << 31, false},
	} {
		if got := acl.MatchesAddress(c.w, c.a); got != c.want {
			t.Errorf("MatchesAddress(%v, %d) = %v", c.w, c.a, got)
		}
	}
}

func TestMatchesAddressOfEveryBit(t *testing.T) {
	for i := range 32 {
		bit := uint32(1) << i
		for _, c := range []struct {
			w    api.Wildcard
			a    uint32
			want bool
		}{
			{host(0), bit, false},
			{host(every), every &^ bit, false},
			{api.Wildcard{Mask: bit}, bit, true},
			{api.Wildcard{Mask: bit}, 0, true},
			{api.Wildcard{Mask: every &^ bit}, bit, false},
			{api.Wildcard{Mask: every &^ bit}, every &^ bit, true},
			{api.Wildcard{Addr: bit, Mask: every &^ bit}, bit, true},
			{api.Wildcard{Addr: bit, Mask: every &^ bit}, every &^ bit, false},
		} {
			if got := acl.MatchesAddress(c.w, c.a); got != c.want {
				t.Errorf("MatchesAddress(%v, %d) = %v", c.w, c.a, got)
			}
		}
	}
}

// P701 is promised for every wildcard: bits of the address that are 1 in the
// mask do not matter.
func TestMatchesAddressOfAllWildcards(t *testing.T) {
	for mask := range uint32(8) {
		for from := range uint32(8) {
			for a := range uint32(8) {
				w := api.Wildcard{Addr: spread(from), Mask: spread(mask)}
				for _, x := range []uint32{spread(a), spread(a) | 2, ^spread(a)} {
					if got := acl.MatchesAddress(w, x); got != agrees(w, x) {
						t.Errorf("MatchesAddress(%v, %d) = %v", w, x, got)
					}
				}
			}
		}
	}
}

// P702

func TestMatches(t *testing.T) {
	p := api.Packet{Src: 10<<24 | 1, Dst: 20<<24 | 2, Proto: 6, SrcPort: 1000, DstPort: 80}
	for _, c := range []struct {
		what   string
		change func(x *api.Rule)
		want   bool
	}{
		{"everything", func(x *api.Rule) {}, true},
		{"its protocol", func(x *api.Rule) { x.Proto = 6 }, true},
		{"another protocol", func(x *api.Rule) { x.Proto = 17 }, false},
		{"protocol 0", func(x *api.Rule) { x.Proto = 0 }, false},
		{"its source", func(x *api.Rule) { x.Src = host(p.Src) }, true},
		{"its destination as source", func(x *api.Rule) { x.Src = host(p.Dst) }, false},
		{"sources around it", func(x *api.Rule) { x.Src = api.Wildcard{Addr: 10 << 24, Mask: 255} }, true},
		{"sources beside it", func(x *api.Rule) { x.Src = api.Wildcard{Addr: 10<<24 | 256, Mask: 255} }, false},
		{"its destination", func(x *api.Rule) { x.Dst = host(p.Dst) }, true},
		{"its source as destination", func(x *api.Rule) { x.Dst = host(p.Src) }, false},
		{"destinations around it", func(x *api.Rule) { x.Dst = api.Wildcard{Addr: 2, Mask: every - 2} }, true},
		{"destinations beside it", func(x *api.Rule) { x.Dst = api.Wildcard{Addr: 1, Mask: every - 1} }, false},
		{"its source port", func(x *api.Rule) { x.Proto, x.SrcPorts = 6, port(1000) }, true},
		{"its destination port as source port", func(x *api.Rule) { x.Proto, x.SrcPorts = 6, port(80) }, false},
		{"its destination port", func(x *api.Rule) { x.Proto, x.DstPorts = 6, port(80) }, true},
		{"its source port as destination port", func(x *api.Rule) { x.Proto, x.DstPorts = 6, port(1000) }, false},
		{"its ports with another protocol", func(x *api.Rule) { x.Proto, x.SrcPorts, x.DstPorts = 17, port(1000), port(80) }, false},
		{"all that it has", func(x *api.Rule) {
			*x = api.Rule{Proto: 6, Src: host(p.Src), Dst: host(p.Dst), SrcPorts: port(1000), DstPorts: port(80)}
		}, true},
	} {
		x := changed(c.change)
		for _, x.Permit = range []bool{false, true} {
			if got := acl.Matches(x, p); got != c.want {
				t.Errorf("Matches of a rule for %s = %v", c.what, got)
			}
		}
	}
}

func TestMatchesOfAllProtocols(t *testing.T) {
	for rule := -1; rule <= 255; rule++ {
		x := plain()
		x.Proto = rule
		for proto := range 256 {
			want := rule == -1 || rule == proto
			if got := acl.Matches(x, api.Packet{Proto: proto}); got != want {
				t.Errorf("Matches of protocol %d for one of %d = %v", rule, proto, got)
			}
		}
	}
}

// The ports of a packet are compared whatever its protocol is.
func TestMatchesOfAllPortRanges(t *testing.T) {
	bounds := []int{0, 1, 2, 80, 65533, 65534, 65535}
	for _, g := range ranges(bounds...) {
		source, destination := plain(), plain()
		source.SrcPorts, destination.DstPorts = g, g
		for _, proto := range []int{6, 17} {
			source.Proto, destination.Proto = proto, proto
			for _, n := range append(bounds, 3, 79, 81, 65532) {
				for _, other := range []int{0, 80, 65535} {
					want := g.Lo <= n && n <= g.Hi
					p := api.Packet{Proto: proto, SrcPort: n, DstPort: other}
					q := api.Packet{Proto: proto, SrcPort: other, DstPort: n}
					if acl.Matches(source, p) != want || acl.Matches(destination, q) != want {
						t.Errorf("Matches of ports %v is wrong for %d", g, n)
					}
				}
			}
		}
	}
}

// A rule matches exactly if each of its parts does.
func TestMatchesOfAllParts(t *testing.T) {
	p := api.Packet{Src: 5, Dst: 6, Proto: 17, SrcPort: 7, DstPort: 8}
	for i := range 1 << 5 {
		x := api.Rule{Proto: 17, Src: host(5), Dst: host(6), SrcPorts: port(7), DstPorts: port(8)}
		if i&1 != 0 {
			x.Proto = 6
		}
		if i&2 != 0 {
			x.Src.Addr = 6
		}
		if i&4 != 0 {
			x.Dst.Addr = 5
		}
		if i&8 != 0 {
			x.SrcPorts = port(8)
		}
		if i&16 != 0 {
			x.DstPorts = port(7)
		}
		if got := acl.Matches(x, p); got != (i == 0) {
			t.Errorf("Matches(%v, %v) = %v", x, p, got)
		}
	}
}

// P704

func TestCovers(t *testing.T) {
	web := func(x *api.Rule) { x.Proto, x.DstPorts = 6, api.PortRange{Lo: 80, Hi: 90} }
	for _, c := range []struct {
		what string
		a, b func(x *api.Rule)
		want bool
	}{
		{"the same", web, web, true},
		{"everything and ports", func(x *api.Rule) {}, web, true},
		{"ports and everything", web, func(x *api.Rule) {}, false},
		{"all ports of its protocol and ports", func(x *api.Rule) { x.Proto = 6 }, web, true},
		{"all ports of another protocol and ports", func(x *api.Rule) { x.Proto = 17 }, web, false},
		{"odd and even addresses", func(x *api.Rule) { x.Src = api.Wildcard{Addr: 1, Mask: every - 1} }, func(x *api.Rule) { x.Src = api.Wildcard{Mask: every - 1} }, false},
		{"odd addresses and an odd one", func(x *api.Rule) { x.Src = api.Wildcard{Addr: 1, Mask: every - 1} }, func(x *api.Rule) { x.Src = host(every) }, true},
		{"sources and the same destinations", func(x *api.Rule) { x.Src = host(1) }, func(x *api.Rule) { x.Dst = host(1) }, false},
		{"source ports and the same destination ports", func(x *api.Rule) { x.Proto, x.SrcPorts = 6, port(80) }, func(x *api.Rule) { x.Proto, x.DstPorts = 6, port(80) }, false},
		{"a wider and a narrower part", func(x *api.Rule) { x.Src = host(1) }, func(x *api.Rule) { x.Dst = host(2) }, false},
	} {
		a, b := changed(c.a), changed(c.b)
		for i := range 4 {
			// What the rules do with a packet that they match does not matter.
			a.Permit, b.Permit = i&1 == 0, i&2 == 0
			if got := acl.Covers(a, b); got != c.want {
				t.Errorf("Covers of %s = %v", c.what, got)
			}
		}
	}
}

// A rule for one protocol does not cover a rule for every protocol.
func TestCoversOfAllProtocols(t *testing.T) {
	a, b := plain(), plain()
	for a.Proto = -1; a.Proto <= 255; a.Proto++ {
		for b.Proto = -1; b.Proto <= 255; b.Proto++ {
			want := a.Proto == -1 || a.Proto == b.Proto
			if got := acl.Covers(a, b); got != want {
				t.Errorf("Covers of protocols %d and %d = %v", a.Proto, b.Proto, got)
			}
		}
	}
}

func TestCoversOfAllWildcards(t *testing.T) {
	for _, v := range wildcards() {
		for _, w := range wildcards() {
			want := true
			for i := range uint32(8) {
				want = want && (agrees(v, spread(i)) || !agrees(w, spread(i)))
			}
			if got := acl.Covers(changed(func(x *api.Rule) { x.Src = v }), changed(func(x *api.Rule) { x.Src = w })); got != want {
				t.Errorf("Covers of sources %v and %v = %v", v, w, got)
			}
			if got := acl.Covers(changed(func(x *api.Rule) { x.Dst = v }), changed(func(x *api.Rule) { x.Dst = w })); got != want {
				t.Errorf("Covers of destinations %v and %v = %v", v, w, got)
			}
		}
	}
}

func TestCoversOfAllPortRanges(t *testing.T) {
	all := ranges(0, 1, 2, 80, 65534, 65535)
	for _, g := range all {
		for _, h := range all {
			want := true
			for n := range 65536 {
				if h.Lo <= n && n <= h.Hi && (n < g.Lo || g.Hi < n) {
					want = false
					break
				}
			}
			a, b := plain(), plain()
			a.Proto, b.Proto = 6, 6
			a.SrcPorts, b.SrcPorts = g, h
			if got := acl.Covers(a, b); got != want {
				t.Errorf("Covers of source ports %v and %v = %v", g, h, got)
			}
			a.SrcPorts, b.SrcPorts, a.DstPorts, b.DstPorts = anyPort, anyPort, g, h
			if got := acl.Covers(a, b); got != want {
				t.Errorf("Covers of destination ports %v and %v = %v", g, h, got)
			}
		}
	}
}

// smallRules are rules that combine few forms of each part, so that the packets
// of smallPackets tell their sets of packets apart.
func smallRules() []api.Rule {
	addresses := []api.Wildcard{anyAddress, {Mask: every >> 1}, {Addr: 1 << 31, Mask: every >> 1}}
	ports := []api.PortRange{anyPort, port(0), {Lo: 1, Hi: 65535}}
	var l []api.Rule
	for _, proto := range []int{-1, 1, 6, 17} {
		for _, src := range addresses {
			for _, dst := range addresses {
				for _, from := range ports {
					for _, to := range ports {
						if proto == 6 || proto == 17 || from == anyPort && to == anyPort {
							l = append(l, api.Rule{Proto: proto, Src: src, Dst: dst, SrcPorts: from, DstPorts: to})
						}
					}
				}
			}
		}
	}
	return l
}

func smallPackets() []api.Packet {
	var l []api.Packet
	for i := range 16 {
		p := api.Packet{Src: uint32(i&1) << 31, Dst: uint32(i>>1&1) << 31, SrcPort: i >> 2 & 1, DstPort: i >> 3}
		for _, p.Proto = range []int{1, 2, 6, 17} {
			l = append(l, p)
		}
	}
	return l
}

// The packets that Covers speaks of are those of Matches.
func TestCoversOfAllSmallRules(t *testing.T) {
	rules := smallRules()
	matched := make([]uint64, len(rules))
	for i, x := range rules {
		for j, p := range smallPackets() {
			if acl.Matches(x, p) {
				matched[i] |= 1 << j
			}
		}
	}
	for i, a := range rules {
		for j, b := range rules {
			want := matched[j]&^matched[i] == 0
			if got := acl.Covers(a, b); got != want {
				t.Errorf("Covers(%v, %v) = %v", a, b, got)
			}
		}
	}
}

package acl_test

import (
	"math"
	"testing"

	"netverify/acl"
	"netverify/api"
	"netverify/model"
)

func permit(change func(x *api.Rule)) api.Rule {
	x := changed(change)
	x.Permit = true
	return x
}

// P702

func TestFirst(t *testing.T) {
	l := api.ACL{Name: "l", Rules: []api.Rule{
		changed(func(x *api.Rule) { x.Proto, x.DstPorts = 6, port(22) }),
		permit(func(x *api.Rule) { x.Proto, x.Src = 6, host(5) }),
		changed(func(x *api.Rule) { x.Proto, x.DstPorts = 6, api.PortRange{Lo: 20, Hi: 30} }),
		permit(func(x *api.Rule) { x.Proto, x.Src = 6, host(5) }),
		permit(func(x *api.Rule) { x.Dst = host(9) }),
	}}
	for p, want := range map[api.Packet]int{
		{Proto: 6, DstPort: 22}:                   0,
		{Proto: 6, DstPort: 22, Src: 5, Dst: 9}:   0,
		{Proto: 6, DstPort: 23, Src: 5, Dst: 9}:   1,
		{Proto: 6, DstPort: 23, Src: 6, Dst: 9}:   2,
		{Proto: 6, DstPort: 31, Src: 6, Dst: 9}:   4,
		{Proto: 6, DstPort: 31, Src: 6, Dst: 8}:   -1,
		{Proto: 17, DstPort: 22, Src: 5, Dst: 9}:  4,
		{Proto: 17, DstPort: 22, Src: 5, Dst: 10}: -1,
		{Proto: 255, SrcPort: 65535, Dst: 9}:      4,
		{}:                                        -1,
	} {
		if got := acl.First(l, p); got != want {
			t.Errorf("First(%v) = %d, want %d", p, got, want)
		}
	}
}

func TestFirstOfAListWithoutRules(t *testing.T) {
	for _, l := range []api.ACL{{}, {Name: "l"}, {Name: "l", Rules: []api.Rule{}}} {
		for _, p := range smallPackets() {
			if got := acl.First(l, p); got != -1 {
				t.Errorf("First(%v) of no rules = %d", p, got)
			}
		}
	}
}

func TestFirstOfTheLongestList(t *testing.T) {
	var l api.ACL
	for i := range api.MaxRules {
		l.Rules = append(l.Rules, permit(func(x *api.Rule) { x.Proto = i }))
	}
	for i := range api.MaxRules {
		if got := acl.First(l, api.Packet{Proto: i}); got != i {
			t.Errorf("First of the packet of rule %d = %d", i, got)
		}
	}
	if got := acl.First(l, api.Packet{Proto: api.MaxRules}); got != -1 {
		t.Errorf("First of the packet of no rule = %d", got)
	}
}

func TestFirstOfAllPairsOfRules(t *testing.T) {
	for _, x := range smallRules() {
		for _, y := range smallRules() {
			l := api.ACL{Rules: []api.Rule{x, y}}
			for _, p := range smallPackets()[:16] {
				want := -1
				switch {
				case acl.Matches(x, p):
					want = 0
				case acl.Matches(y, p):
					want = 1
				}
				if got := acl.First(l, p); got != want {
					t.Fatalf("First(%v, %v) = %d, want %d", l.Rules, p, got, want)
				}
			}
		}
	}
}

// P703

// router has access lists, and names that only other things have.
func router(t *testing.T) api.Router {
	t.Helper()
	r := api.Router{
		Name:       "router",
		Interfaces: []api.Interface{{Name: "iface"}},
		Lists:      []api.PrefixList{{Name: "list", Rules: []api.PrefixRule{{Permit: true, Max: 32}}}},
		Maps:       []api.RouteMap{{Name: "map", Clauses: []api.Clause{{Permit: true}}}},
		ACLs: []api.ACL{
			{Name: "first", Rules: []api.Rule{
				changed(func(x *api.Rule) { x.Proto, x.DstPorts = 6, port(22) }),
				permit(func(x *api.Rule) { x.Proto = 6 }),
			}},
			{Name: "second", Rules: []api.Rule{
				permit(func(x *api.Rule) { x.Proto, x.DstPorts = 6, port(22) }),
				changed(func(x *api.Rule) { x.Proto = 6 }),
				permit(func(x *api.Rule) {}),
			}},
			{Name: "nothing", Rules: []api.Rule{plain(), permit(func(x *api.Rule) {})}},
			{Name: "everything", Rules: []api.Rule{permit(func(x *api.Rule) {}), plain()}},
		},
	}
	if e := model.CheckRouter(r); e != api.OK {
		t.Fatalf("the router has the error %d", e)
	}
	return r
}

func TestPermits(t *testing.T) {
	r := router(t)
	ssh := api.Packet{Src: 1, Dst: 2, Proto: 6, SrcPort: 1000, DstPort: 22}
	web := api.Packet{Src: 1, Dst: 2, Proto: 6, SrcPort: 22, DstPort: 80}
	udp := api.Packet{Src: 1, Dst: 2, Proto: 17, SrcPort: 1000, DstPort: 22}
	for _, c := range []struct {
		name string
		p    api.Packet
		want bool
	}{
		{"first", ssh, false},
		{"first", web, true},
		{"first", udp, false},
		{"first", api.Packet{}, false},
		{"second", ssh, true},
		{"second", web, false},
		{"second", udp, true},
		{"second", api.Packet{}, true},
		{"nothing", ssh, false},
		{"nothing", udp, false},
		{"nothing", api.Packet{}, false},
		{"everything", ssh, true},
		{"everything", udp, true},
		{"everything", api.Packet{Src: every, Dst: every, Proto: 255, SrcPort: 65535, DstPort: 65535}, true},
	} {
		if got := acl.Permits(r, c.name, c.p); got != c.want {
			t.Errorf("Permits(%s, %v) = %v", c.name, c.p, got)
		}
	}
}

func TestPermitsWithAnEmptyName(t *testing.T) {
	for _, r := range []api.Router{{Name: "r"}, router(t)} {
		for _, p := range smallPackets() {
			if !acl.Permits(r, "", p) {
				t.Errorf("Permits(%v) with an empty name is false", p)
			}
		}
	}
}

func TestPermitsWithANameOfNoAccessList(t *testing.T) {
	for _, r := range []api.Router{{Name: "r"}, router(t)} {
		for _, name := range []string{"x", "list", "map", "iface", "router", "First", "EVERYTHING", "everythin", "everything ", " "} {
			for _, p := range smallPackets() {
				if acl.Permits(r, name, p) {
					t.Errorf("Permits(%q, %v) is true", name, p)
				}
			}
		}
	}
}

// R2: what is passed in is not changed.
func TestPermitsChangesNothing(t *testing.T) {
	r := router(t)
	for _, p := range smallPackets() {
		for _, l := range r.ACLs {
			acl.First(l, p)
			acl.Permits(r, l.Name, p)
		}
	}
	if !model.Same(r, router(t)) {
		t.Error("Permits or First changed the router")
	}
}

// invalidRules have a number out of range, an address with a bit that is 1 in
// the mask, or ports that are out of range, out of order, or without a protocol
// that has ports.
func invalidRules() []api.Rule {
	var l []api.Rule
	for _, n := range outside(65535) {
		l = append(l,
			changed(func(x *api.Rule) { x.Proto = n }),
			changed(func(x *api.Rule) { x.Proto, x.SrcPorts = 6, api.PortRange{Lo: n, Hi: 80} }),
			changed(func(x *api.Rule) { x.Proto, x.SrcPorts = 6, api.PortRange{Lo: 80, Hi: n} }),
			changed(func(x *api.Rule) { x.Proto, x.DstPorts = 17, port(n) }))
	}
	return append(l,
		api.Rule{},
		changed(func(x *api.Rule) { x.Src.Addr = every }),
		changed(func(x *api.Rule) { x.Dst.Addr = 1 }),
		changed(func(x *api.Rule) { x.Proto, x.DstPorts = 6, api.PortRange{Lo: 2, Hi: 1} }),
		changed(func(x *api.Rule) { x.DstPorts = port(80) }))
}

// R1: what is not valid does not stop a function.
func TestWhatIsNotValid(t *testing.T) {
	rules := invalidRules()
	r := api.Router{ACLs: []api.ACL{{}, {Name: "l", Rules: rules}, {Name: "l"}, {Name: "empty"}}}
	packets := smallPackets()
	for _, n := range append(outside(255), math.MaxInt32) {
		packets = append(packets, api.Packet{Proto: n}, api.Packet{SrcPort: n, DstPort: -n}, api.Packet{Src: uint32(n), Proto: n, DstPort: n})
	}
	for _, p := range packets {
		acl.ValidPacket(p)
		for _, x := range rules {
			acl.Matches(x, p)
			acl.MatchesAddress(x.Src, p.Src)
			acl.Covers(x, rules[0])
			acl.Covers(rules[0], x)
			acl.First(api.ACL{Rules: []api.Rule{x}}, p)
		}
		for _, name := range []string{"", "l", "empty", "x", "\xff"} {
			acl.Permits(r, name, p)
		}
	}
}

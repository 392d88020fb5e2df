package model_test

import (
	"testing"

	"netverify/api"
	"netverify/model"
)

// P504

// names are names as lists may have them: twice, empty, and of any bytes.
func names() []string {
	return []string{"b", "a", "", "b", "a", "A", "b ", "\xff", "c"}
}

func firstIndex(name string) int {
	for i, s := range names() {
		if s == name {
			return i
		}
	}
	return -1
}

func TestLookupsByName(t *testing.T) {
	var n api.Network
	var r api.Router
	for _, s := range names() {
		n.Routers = append(n.Routers, api.Router{Name: s})
		r.Interfaces = append(r.Interfaces, api.Interface{Name: s})
		r.Lists = append(r.Lists, api.PrefixList{Name: s})
		r.Maps = append(r.Maps, api.RouteMap{Name: s})
		r.ACLs = append(r.ACLs, api.ACL{Name: s})
	}
	for _, s := range append(names(), "d", "ab", "B", " ", "C") {
		want := firstIndex(s)
		if i := model.Router(n, s); i != want {
			t.Errorf("Router(%q) = %d, want %d", s, i, want)
		}
		if i := model.Interface(r, s); i != want {
			t.Errorf("Interface(%q) = %d, want %d", s, i, want)
		}
		if i := model.PrefixList(r, s); i != want {
			t.Errorf("PrefixList(%q) = %d, want %d", s, i, want)
		}
		if i := model.RouteMap(r, s); i != want {
			t.Errorf("RouteMap(%q) = %d, want %d", s, i, want)
		}
		if i := model.ACL(r, s); i != want {
			t.Errorf("ACL(%q) = %d, want %d", s, i, want)
		}
	}
}

func TestLookupsOfNothing(t *testing.T) {
	for _, s := range []string{"", "a"} {
		r := api.Router{Name: s}
		if model.Router(api.Network{}, s) != -1 || model.Interface(r, s) != -1 || model.PrefixList(r, s) != -1 || model.RouteMap(r, s) != -1 || model.ACL(r, s) != -1 {
			t.Errorf("a lookup of %q among nothing is not -1", s)
		}
	}
	if i := model.Address(api.Router{}, 0); i != -1 {
		t.Errorf("Address(0) among nothing = %d", i)
	}
}

// A name of one kind of thing is not found among those of another kind.
func TestLookupsKeepTheKindsApart(t *testing.T) {
	r := full()
	for _, x := range []struct {
		name                   string
		iface, list, rmap, acl int
	}{
		{"e0", 0, -1, -1, -1},
		{"lo0", 4, -1, -1, -1},
		{"p1", -1, 1, -1, -1},
		{"m2", -1, -1, 2, -1},
		{"a1", -1, -1, -1, 1},
		{"r1", -1, -1, -1, -1},
	} {
		if model.Interface(r, x.name) != x.iface || model.PrefixList(r, x.name) != x.list || model.RouteMap(r, x.name) != x.rmap || model.ACL(r, x.name) != x.acl {
			t.Errorf("the lookups of %q are wrong", x.name)
		}
	}
}

func TestLookupsOfAddresses(t *testing.T) {
	r := api.Router{Interfaces: []api.Interface{
		{Name: "a", Addr: 5},
		{Name: "b", Addr: 6, Len: 24},
		{Name: "c", Addr: 5, Len: 32, Down: true},
		{Name: "d", Addr: 6, Len: 30},
		{Name: "e"},
		{Name: "f", Addr: 7, Len: -1},
		{Name: "g", Addr: 8, Len: 33, VLAN: 9},
		{Name: "h", Addr: 9},
		{Name: "i", Addr: 0, Len: 1},
	}}
	for a, want := range []int{8, -1, -1, -1, -1, 2, 1, 5, 6, -1, -1} {
		if i := model.Address(r, uint32(a)); i != want {
			t.Errorf("Address(%d) = %d, want %d", a, i, want)
		}
	}
}

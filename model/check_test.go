package model_test

import (
	"cmp"
	"reflect"
	"slices"
	"strconv"
	"testing"

	"netverify/api"
	"netverify/model"
)

// checkRouter is the result of CheckRouter, which must not change its argument.
func checkRouter(t *testing.T, r api.Router, before api.Router) api.Errno {
	t.Helper()
	e := model.CheckRouter(r)
	if !reflect.DeepEqual(r, before) {
		t.Fatalf("CheckRouter changed %v to %v", before, r)
	}
	return e
}

// P501

func TestCheckRouterOfValidRouters(t *testing.T) {
	for i, r := range []func() api.Router{
		full,
		largest,
		func() api.Router { return api.Router{Name: "x"} },
		func() api.Router { return api.Router{Name: "x", Interfaces: []api.Interface{{Name: "x"}, {Name: "y"}}} },
	} {
		if e := checkRouter(t, r(), r()); e != api.OK {
			t.Errorf("CheckRouter of valid router %d = %d", i, e)
		}
	}
	if e := model.CheckRouter(api.Router{}); e != api.ErrName {
		t.Errorf("CheckRouter of nothing = %d", e)
	}
}

func TestCheckRouterOfOneChange(t *testing.T) {
	for _, g := range groups() {
		for _, c := range g.changes {
			for k := 1; k <= g.parts; k++ {
				r, before := full(), full()
				c.do(&r, k)
				c.do(&before, k)
				if e := checkRouter(t, r, before); e != c.want {
					t.Errorf("CheckRouter with %s of %s %d = %d, want %d", c.what, g.what, k, e, c.want)
				}
			}
		}
	}
}

// A place is a change of element k, which belongs to a group.
type place struct {
	group, k, at int
	text         string
	change
}

// places are the changes that make a router one that is not valid, one for each
// kind of error of each part, in the order in which CheckRouter looks for them.
func places() []place {
	var l []place
	for i, g := range groups() {
		for at, c := range g.changes {
			for k := 1; c.want != api.OK && k <= g.parts; k++ {
				l = append(l, place{i, k, at, c.what + " of " + g.what + " " + strconv.Itoa(k), c})
			}
		}
	}
	slices.SortFunc(l, func(x, y place) int {
		return cmp.Or(cmp.Compare(x.group, y.group), cmp.Compare(x.k, y.k), cmp.Compare(x.at, y.at))
	})
	// Of changes beside one another with the same error, the first and the last
	// one tell enough of the order.
	return slices.DeleteFunc(slices.Clone(l), func(x place) bool {
		i := slices.IndexFunc(l, func(y place) bool { return x.group == y.group && x.k == y.k && x.at == y.at })
		like := func(y place) bool { return x.group == y.group && x.k == y.k && x.want == y.want }
		return i > 0 && i < len(l)-1 && like(l[i-1]) && like(l[i+1])
	})
}

// The change that CheckRouter finds first is made last, so that it is there even
// if both changes are of one field.
func TestCheckRouterReturnsTheFirstOfTwoErrors(t *testing.T) {
	l := places()
	for i, first := range l {
		for _, second := range l[i+1:] {
			if first.want == second.want {
				continue
			}
			r := full()
			second.do(&r, second.k)
			first.do(&r, first.k)
			if e := model.CheckRouter(r); e != first.want {
				t.Fatalf("CheckRouter with %s and %s = %d, want %d", first.text, second.text, e, first.want)
			}
		}
	}
}

// Clauses are checked one after the other, and so are the lists that they are in.
func TestCheckRouterChecksClausesInOrder(t *testing.T) {
	r := full()
	r.Maps[1].Clauses[0].Tag = -2
	r.Maps[1].Clauses[1].List = "x"
	r.Maps[2].Name = ""
	if e := model.CheckRouter(r); e != api.ErrArg {
		t.Errorf("CheckRouter of a clause with a wrong number before one of an unknown list = %d", e)
	}
	r.Maps[1].Clauses[0].List = "x"
	if e := model.CheckRouter(r); e != api.ErrUnknown {
		t.Errorf("CheckRouter of a clause of an unknown list, with a wrong number = %d", e)
	}
}

// What is named by something must be defined in the same router, after it or
// before it.
func TestCheckRouterFindsWhatIsNamed(t *testing.T) {
	for i := range 3 {
		digit := strconv.Itoa(i)
		r := full()
		r.Maps[0].Clauses[0].List = "p" + digit
		r.NAT[1].List = "a" + digit
		r.Interfaces[0].In, r.Interfaces[1].Out = "a"+digit, "a"+digit
		r.Statics[0].Iface, r.Statics[0].Next = "e"+digit, 0
		r.LS.Redist[0].Map, r.DV.Redist[0].Map, r.PV.Redist[0].Map = "m"+digit, "m"+digit, "m"+digit
		r.DV.In, r.DV.Out = "p"+digit, "p"+digit
		r.PV.Neighbors[0].In, r.PV.Neighbors[0].Out = "m"+digit, "m"+digit
		if e := model.CheckRouter(r); e != api.OK {
			t.Errorf("CheckRouter of a router that names the lists %s = %d", digit, e)
		}
	}
}

// One name may be that of several things of different kinds.
func TestCheckRouterOfOneNameForAll(t *testing.T) {
	r := api.Router{
		Name:       "x",
		Interfaces: []api.Interface{{Name: "x", Addr: 1, Len: 32, In: "x", Out: "x"}},
		Lists:      []api.PrefixList{{Name: "x", Rules: []api.PrefixRule{{}}}},
		Maps:       []api.RouteMap{{Name: "x", Clauses: []api.Clause{{List: "x"}}}},
		ACLs:       []api.ACL{{Name: "x", Rules: acl(0).Rules}},
	}
	if e := model.CheckRouter(r); e != api.OK {
		t.Errorf("CheckRouter = %d", e)
	}
}

// P502

// network are n valid routers without anything in common.
func network(n int) api.Network {
	return api.Network{Routers: many(n, func(i int) api.Router {
		return api.Router{Name: "r" + strconv.Itoa(i), Interfaces: []api.Interface{
			{Name: "e0", Addr: quad(10, 0, 0, uint32(i+1)), Len: 24},
			{Name: "spare"},
			{Name: "e1", Addr: quad(10, 1, uint32(i), 1), Len: 24, Down: i == 0},
		}}
	})}
}

func TestCheckOfNetworks(t *testing.T) {
	for n := range 9 {
		if e := model.Check(network(n)); e != api.OK {
			t.Errorf("Check of %d routers = %d", n, e)
		}
	}
	if e := model.Check(api.Network{Routers: []api.Router{full()}}); e != api.OK {
		t.Errorf("Check of one router = %d", e)
	}
}

func TestCheckFindsErrors(t *testing.T) {
	for _, x := range []struct {
		what string
		want api.Errno
		do   func(l []api.Router) []api.Router
	}{
		{"too many routers", api.ErrLimit, func(l []api.Router) []api.Router { return network(9).Routers }},
		{"far too many routers", api.ErrLimit, func(l []api.Router) []api.Router { return make([]api.Router, 10000) }},
		{"too many routers, one of them not valid", api.ErrLimit, func(l []api.Router) []api.Router {
			l = network(9).Routers
			l[0].AS = -1
			return l
		}},
		{"a router without a name", api.ErrName, func(l []api.Router) []api.Router { l[2].Name = ""; return l }},
		{"a wrong AS", api.ErrArg, func(l []api.Router) []api.Router { l[0].AS = -1; return l }},
		{"an unknown filter", api.ErrUnknown, func(l []api.Router) []api.Router { l[1].Interfaces[0].In = "x"; return l }},
		{"the name of the router before", api.ErrDuplicate, func(l []api.Router) []api.Router { l[2].Name = "r1"; return l }},
		{"the name of the first router", api.ErrDuplicate, func(l []api.Router) []api.Router { l[2].Name = "r0"; return l }},
		{"an address of the first router", api.ErrDuplicate, func(l []api.Router) []api.Router { l[2].Interfaces[2].Addr = quad(10, 1, 0, 1); return l }},
		{"an address of the router before", api.ErrDuplicate, func(l []api.Router) []api.Router { l[2].Interfaces[0].Addr = quad(10, 0, 0, 2); return l }},
		{"an address in another VLAN and with another length", api.ErrDuplicate, func(l []api.Router) []api.Router {
			l[2].Interfaces[2] = api.Interface{Name: "x", Addr: quad(10, 1, 1, 1), Len: 30, VLAN: 9, Down: true}
			return l
		}},
		{"another address of a network that is there", api.OK, func(l []api.Router) []api.Router { l[2].Interfaces[2].Addr = quad(10, 1, 1, 2); return l }},
		{"a wrong AS, in a router with the name of another one", api.ErrArg, func(l []api.Router) []api.Router { l[1].Name, l[1].AS = "r0", -1; return l }},
		{"a wrong AS, in a router with an address of another one", api.ErrArg, func(l []api.Router) []api.Router {
			l[1].AS, l[1].Interfaces[0].Addr = -1, quad(10, 0, 0, 1)
			return l
		}},
		{"a name twice before a wrong AS", api.ErrDuplicate, func(l []api.Router) []api.Router { l[1].Name, l[2].AS = "r0", -1; return l }},
		{"a wrong AS before a name twice", api.ErrArg, func(l []api.Router) []api.Router { l[1].AS, l[2].Name = -1, "r0"; return l }},
	} {
		n := network(3)
		n.Routers = x.do(n.Routers)
		before := slices.Clone(n.Routers)
		if e := model.Check(n); e != x.want {
			t.Errorf("Check of a network with %s = %d, want %d", x.what, e, x.want)
		}
		if !reflect.DeepEqual(n.Routers, before) {
			t.Errorf("Check changed a network with %s", x.what)
		}
	}
}

func TestCheckReturnsTheErrorsOfRouters(t *testing.T) {
	for _, g := range groups() {
		for _, c := range g.changes {
			n := api.Network{Routers: []api.Router{{Name: "r0"}, full()}}
			c.do(&n.Routers[1], 1)
			if e := model.Check(n); e != c.want {
				t.Errorf("Check of a network with %s of %s = %d, want %d", c.what, g.what, e, c.want)
			}
		}
	}
}

// R1

func TestChecksOfArbitraryRouters(t *testing.T) {
	for _, n := range []int{-1, 0, 1, 33, 1 << 40} {
		r := full()
		visit(reflect.ValueOf(&r).Elem(), "r", func(v reflect.Value, _ string) {
			switch v.Kind() {
			case reflect.Int:
				v.SetInt(int64(n))
			case reflect.Uint32:
				v.SetUint(uint64(uint32(n)))
			}
		})
		model.CheckRouter(r)
		model.Check(api.Network{Routers: []api.Router{r, r}})
	}
	r := full()
	r.Interfaces, r.Statics = make([]api.Interface, 5000), make([]api.StaticRoute, 5000)
	if e := model.CheckRouter(r); e != api.ErrLimit {
		t.Errorf("CheckRouter of 5000 interfaces and static routes = %d", e)
	}
}

package model_test

import (
	"math"
	"strconv"
	"strings"

	"netverify/api"
)

// A change makes a valid router one that is not valid, or with OK another valid
// one. It changes element k of a list, if its group is about one.
type change struct {
	what string
	want api.Errno
	do   func(r *api.Router, k int)
}

// A group has the changes that make CheckRouter find the errors of one part of a
// router, in the order in which the document lists the errors. If the part is an
// element of a list, k is 1 or 2; otherwise there is only one such part.
type group struct {
	what    string
	parts   int
	changes []change
}

// groups are all groups in the order in which the document lists the parts.
func groups() []group {
	return []group{
		{"the router", 1, routerChanges()},
		{"the number of interfaces", 1, limitOf(func(r *api.Router) *[]api.Interface { return &r.Interfaces }, 8)},
		{"an interface", 2, interfaceChanges()},
		{"the number of prefix lists", 1, limitOf(func(r *api.Router) *[]api.PrefixList { return &r.Lists }, 8)},
		{"a prefix list", 2, prefixListChanges()},
		{"the number of route maps", 1, limitOf(func(r *api.Router) *[]api.RouteMap { return &r.Maps }, 8)},
		{"a route map", 2, routeMapChanges()},
		{"the number of access lists", 1, limitOf(func(r *api.Router) *[]api.ACL { return &r.ACLs }, 8)},
		{"an access list", 2, aclChanges()},
		{"the number of translations", 1, limitOf(func(r *api.Router) *[]api.Translation { return &r.NAT }, 8)},
		{"a translation", 2, natChanges()},
		{"the filters of an interface", 2, filterChanges()},
		{"the number of static routes", 1, limitOf(func(r *api.Router) *[]api.StaticRoute { return &r.Statics }, 16)},
		{"a static route", 2, staticChanges()},
		{"link state", 1, linkStateChanges()},
		{"the number of ranges", 1, limitOf(func(r *api.Router) *[]api.AreaRange { return &r.LS.Ranges }, 4)},
		{"a range", 2, rangeChanges()},
		{"the number of redistributions into link state", 1, limitOf(linkStateRedist, 4)},
		{"a redistribution into link state", 2, redistChanges(linkStateRedist, api.ProtoLinkState, bounds{0, 16777215}, bounds{1, 2})},
		{"distance vector", 1, distanceVectorChanges()},
		{"the number of redistributions into distance vector", 1, limitOf(distanceVectorRedist, 4)},
		{"a redistribution into distance vector", 2, redistChanges(distanceVectorRedist, api.ProtoDistance, bounds{1, 15}, bounds{0, 0})},
		{"path vector", 1, pathVectorChanges()},
		{"the number of neighbors", 1, limitOf(func(r *api.Router) *[]api.Neighbor { return &r.PV.Neighbors }, 8)},
		{"a neighbor", 2, neighborChanges()},
		{"the number of networks", 1, limitOf(func(r *api.Router) *[]api.Prefix { return &r.PV.Networks }, 8)},
		{"a network", 2, networkChanges()},
		{"the number of aggregates", 1, limitOf(func(r *api.Router) *[]api.Aggregate { return &r.PV.Aggregates }, 8)},
		{"an aggregate", 2, aggregateChanges()},
		{"the number of conditions", 1, limitOf(func(r *api.Router) *[]api.Condition { return &r.PV.Conditions }, 8)},
		{"a condition", 2, conditionChanges()},
		{"the number of redistributions into path vector", 1, limitOf(pathVectorRedist, 4)},
		{"a redistribution into path vector", 2, redistChanges(pathVectorRedist, api.ProtoPathVector, bounds{0, 16777215}, bounds{0, 0})},
	}
}

func linkStateRedist(r *api.Router) *[]api.Redist { return &r.LS.Redist }

func distanceVectorRedist(r *api.Router) *[]api.Redist { return &r.DV.Redist }

func pathVectorRedist(r *api.Router) *[]api.Redist { return &r.PV.Redist }

// limitOf makes a list longer than limit. The elements are those that the list
// had and copies of the first one.
func limitOf[T any](list func(r *api.Router) *[]T, limit int) []change {
	var l []change
	for _, n := range []int{limit + 1, limit + 2, 1000} {
		l = append(l, change{strconv.Itoa(n) + " elements", api.ErrLimit, func(r *api.Router, _ int) {
			for len(*list(r)) < n {
				*list(r) = append(*list(r), (*list(r))[0])
			}
		}})
	}
	return l
}

type bounds struct{ least, most int }

// number sets a number to its bounds and beyond them.
func number(what string, b bounds, field func(r *api.Router, k int) *int) []change {
	var l []change
	for _, n := range []int{b.least - 1, b.most + 1, math.MinInt, math.MaxInt, b.least, b.most} {
		want := api.ErrArg
		if b.least <= n && n <= b.most {
			want = api.OK
		}
		l = append(l, change{what + " " + strconv.Itoa(n), want, func(r *api.Router, k int) {
			*field(r, k) = n
		}})
	}
	return l
}

// noPrefix sets a prefix to values that are not prefixes.
func noPrefix(what string, field func(r *api.Router, k int) *api.Prefix) []change {
	return []change{
		{what + " with a bit too many", api.ErrArg, func(r *api.Router, k int) { field(r, k).Addr |= 1 }},
		{what + " of length -1", api.ErrArg, func(r *api.Router, k int) { *field(r, k) = api.Prefix{Len: -1} }},
		{what + " of length 33", api.ErrArg, func(r *api.Router, k int) { field(r, k).Len = 33 }},
	}
}

// name sets a name to texts that are no names, then to one that is used already.
func name(field func(r *api.Router, k int) *string) []change {
	var l []change
	for _, s := range []string{"", "1", "-a", "a b", "a\n", "a{", strings.Repeat("a", 16)} {
		l = append(l, change{"the name " + strconv.Quote(s), api.ErrName, func(r *api.Router, k int) { *field(r, k) = s }})
	}
	return append(l,
		change{"the name of another one", api.ErrDuplicate, func(r *api.Router, k int) { *field(r, k) = *field(r, 0) }},
		change{"a long name", api.OK, func(r *api.Router, k int) { *field(r, k) = "Z9-_/." + strings.Repeat("a", 9) }})
}

// reference sets a name that refers to something to names of nothing, and to
// one of another kind of thing.
func reference(what, otherKind string, field func(r *api.Router, k int) *string) []change {
	var l []change
	for _, s := range []string{"x", otherKind, "A0", " "} {
		l = append(l, change{what + " " + strconv.Quote(s), api.ErrUnknown, func(r *api.Router, k int) { *field(r, k) = s }})
	}
	return append(l, change{"no " + what, api.OK, func(r *api.Router, k int) { *field(r, k) = "" }})
}

func join(lists ...[]change) []change {
	var l []change
	for _, x := range lists {
		l = append(l, x...)
	}
	return l
}

func routerChanges() []change {
	var l []change
	for _, c := range name(func(r *api.Router, _ int) *string { return &r.Name }) {
		// There is no other router that has the name.
		if c.want != api.ErrDuplicate {
			l = append(l, c)
		}
	}
	return append(l,
		change{"AS -1", api.ErrArg, func(r *api.Router, _ int) { r.AS = -1 }},
		change{"AS 65536", api.ErrArg, func(r *api.Router, _ int) { r.AS = 65536 }},
		change{"AS 65535", api.OK, func(r *api.Router, _ int) { r.AS = 65535 }},
		change{"AS 0 without path vector", api.OK, func(r *api.Router, _ int) { r.AS, r.PV = 0, api.PathVector{} }})
}

func interfaceChanges() []change {
	set := func(what string, want api.Errno, do func(x *api.Interface)) []change {
		return []change{{what, want, func(r *api.Router, k int) { do(&r.Interfaces[k]) }}}
	}
	// bare turns an interface into one without an address, that has something.
	bare := func(what string, want api.Errno, do func(x *api.Interface)) []change {
		return set(what+" without an address", want, func(x *api.Interface) {
			*x = api.Interface{Name: x.Name}
			do(x)
		})
	}
	cost := func(cost int) func(r *api.Router, k int) *int {
		return func(r *api.Router, k int) *int {
			r.Interfaces[k].LS, r.Interfaces[k].Area, r.Interfaces[k].Cost = true, 1, cost
			return &r.Interfaces[k].Cost
		}
	}
	area := func(r *api.Router, k int) *int {
		cost(1)(r, k)
		return &r.Interfaces[k].Area
	}
	return join(
		name(func(r *api.Router, k int) *string { return &r.Interfaces[k].Name }),
		set("length -1", api.ErrArg, func(x *api.Interface) { x.Len = -1 }),
		set("length 33", api.ErrArg, func(x *api.Interface) { x.Len = 33 }),
		set("length 1", api.OK, func(x *api.Interface) { x.Addr, x.Len = quad(200, 0, 0, 1), 1 }),
		set("length 32", api.OK, func(x *api.Interface) { x.Len = 32 }),
		set("an address that is a network", api.OK, func(x *api.Interface) { x.Addr &^= 255 }),
		number("VLAN", bounds{0, 4094}, func(r *api.Router, k int) *int { return &r.Interfaces[k].VLAN }),
		number("side", bounds{0, 2}, func(r *api.Router, k int) *int { return &r.Interfaces[k].Side }),
		bare("nothing", api.OK, func(x *api.Interface) {}),
		bare("down", api.OK, func(x *api.Interface) { x.Down = true }),
		bare("an address", api.ErrArg, func(x *api.Interface) { x.Addr = 1 }),
		bare("a VLAN", api.ErrArg, func(x *api.Interface) { x.VLAN = 1 }),
		bare("inside", api.ErrArg, func(x *api.Interface) { x.Side = api.Inside }),
		bare("link state", api.ErrArg, func(x *api.Interface) { x.LS, x.Cost = true, 1 }),
		bare("distance vector", api.ErrArg, func(x *api.Interface) { x.DV = true }),
		bare("an input filter", api.ErrArg, func(x *api.Interface) { x.In = "a0" }),
		bare("an output filter", api.ErrArg, func(x *api.Interface) { x.Out = "a0" }),
		bare("an unknown filter", api.ErrArg, func(x *api.Interface) { x.Out = "x" }),
		bare("a cost", api.ErrArg, func(x *api.Interface) { x.Cost = 1 }),
		bare("an area", api.ErrArg, func(x *api.Interface) { x.Area = 1 }),
		set("address 0", api.ErrArg, func(x *api.Interface) { x.Addr = 0 }),
		set("address 0 of length 32", api.ErrArg, func(x *api.Interface) { x.Addr, x.Len = 0, 32 }),
		number("area", bounds{0, 255}, area),
		number("cost", bounds{1, 65535}, cost(1)),
		set("an area without link state", api.ErrArg, func(x *api.Interface) { x.LS, x.Area, x.Cost = false, 1, 0 }),
		set("a cost without link state", api.ErrArg, func(x *api.Interface) { x.LS, x.Area, x.Cost = false, 0, 1 }),
		set("no link state", api.OK, func(x *api.Interface) { x.LS, x.Area, x.Cost = false, 0, 0 }),
		set("the address of another interface", api.ErrConflict, func(x *api.Interface) { x.Addr = quad(10, 1, 0, 1) }),
		set("the network of another interface", api.ErrConflict, func(x *api.Interface) { x.Addr = quad(10, 1, 0, 77) }),
		set("a part of the network of another interface", api.ErrConflict, func(x *api.Interface) { x.Addr, x.Len = quad(10, 1, 0, 200), 30 }),
		set("a network around that of another interface", api.ErrConflict, func(x *api.Interface) { x.Len = 20 }),
		set("the network of another interface in another VLAN, and down", api.ErrConflict, func(x *api.Interface) { x.Addr, x.VLAN, x.Down = quad(10, 1, 0, 77), 99, true }),
		set("the next network", api.OK, func(x *api.Interface) { x.Addr, x.Len = quad(10, 0, 255, 1), 24 }),
	)
}

// listChanges are the changes that prefix lists, route maps and access lists
// have in common.
func listChanges[T any](limit int, listName func(r *api.Router, k int) *string, list func(r *api.Router, k int) *[]T) []change {
	resize := func(n int) func(r *api.Router, k int) {
		return func(r *api.Router, k int) {
			var l []T
			for range n {
				l = append(l, (*list(r, 0))[0])
			}
			*list(r, k) = l
		}
	}
	return append(name(listName),
		change{"no elements", api.ErrArg, resize(0)},
		change{"an empty list of elements", api.ErrArg, func(r *api.Router, k int) { *list(r, k) = []T{} }},
		change{"an element too many", api.ErrLimit, resize(limit + 1)},
		change{"a thousand elements", api.ErrLimit, resize(1000)},
		change{"as many elements as there may be", api.OK, resize(limit)},
		change{"one element", api.OK, resize(1)})
}

func prefixListChanges() []change {
	l := listChanges(16,
		func(r *api.Router, k int) *string { return &r.Lists[k].Name },
		func(r *api.Router, k int) *[]api.PrefixRule { return &r.Lists[k].Rules })
	for at := range 2 {
		rule := func(r *api.Router, k int) *api.PrefixRule { return &r.Lists[k].Rules[at] }
		set := func(length, least, most int) func(r *api.Router, k int) {
			return func(r *api.Router, k int) {
				*rule(r, k) = api.PrefixRule{Prefix: api.Prefix{Addr: 0, Len: length}, Min: least, Max: most}
			}
		}
		l = append(l, noPrefix("a prefix", func(r *api.Router, k int) *api.Prefix { return &rule(r, k).Prefix })...)
		l = append(l,
			change{"a least length below that of the prefix", api.ErrArg, set(8, 7, 9)},
			change{"a least length below 0", api.ErrArg, set(0, -1, 9)},
			change{"a least length above the greatest", api.ErrArg, set(8, 10, 9)},
			change{"a greatest length of 33", api.ErrArg, set(8, 8, 33)},
			change{"a greatest length below that of the prefix", api.ErrArg, set(8, 7, 7)},
			change{"lengths above 32", api.ErrArg, set(8, 33, 33)},
			change{"one length", api.OK, set(8, 8, 8)},
			change{"one greater length", api.OK, set(8, 32, 32)},
			change{"all lengths", api.OK, set(0, 0, 32)},
			change{"the greatest length", api.OK, set(32, 32, 32)})
	}
	return l
}

func routeMapChanges() []change {
	l := listChanges(8,
		func(r *api.Router, k int) *string { return &r.Maps[k].Name },
		func(r *api.Router, k int) *[]api.Clause { return &r.Maps[k].Clauses })
	for at := range 2 {
		clause := func(r *api.Router, k int) *api.Clause { return &r.Maps[k].Clauses[at] }
		l = append(l, join(
			reference("list", "a0", func(r *api.Router, k int) *string { return &clause(r, k).List }),
			number("tag", bounds{-1, 65535}, func(r *api.Router, k int) *int { return &clause(r, k).Tag }),
			number("set tag", bounds{-1, 65535}, func(r *api.Router, k int) *int { return &clause(r, k).SetTag }),
			number("set metric", bounds{-1, 16777215}, func(r *api.Router, k int) *int { return &clause(r, k).SetMetric }),
			number("set preference", bounds{-1, 1000000}, func(r *api.Router, k int) *int { return &clause(r, k).SetPref }),
			number("prepend", bounds{0, 8}, func(r *api.Router, k int) *int { return &clause(r, k).Prepend }),
		)...)
	}
	return l
}

func aclChanges() []change {
	l := listChanges(16,
		func(r *api.Router, k int) *string { return &r.ACLs[k].Name },
		func(r *api.Router, k int) *[]api.Rule { return &r.ACLs[k].Rules })
	for at := range 2 {
		rule := func(r *api.Router, k int) *api.Rule { return &r.ACLs[k].Rules[at] }
		// proto sets a rule that is otherwise for all packets.
		proto := func(p int) func(r *api.Router, k int) *api.Rule {
			return func(r *api.Router, k int) *api.Rule {
				*rule(r, k) = api.Rule{Proto: p, Src: anyAddress(), Dst: anyAddress(), SrcPorts: anyPort(), DstPorts: anyPort()}
				return rule(r, k)
			}
		}
		l = append(l, number("protocol", bounds{-1, 255}, func(r *api.Router, k int) *int { return &proto(1)(r, k).Proto })...)
		l = append(l, wildcardChanges("source", func(r *api.Router, k int) *api.Wildcard { return &proto(6)(r, k).Src })...)
		l = append(l, wildcardChanges("destination", func(r *api.Router, k int) *api.Wildcard { return &proto(6)(r, k).Dst })...)
		for _, p := range []int{-1, 0, 1, 5, 6, 7, 16, 17, 18, 255} {
			l = append(l, portChanges(p, func(r *api.Router, k int) *api.PortRange { return &proto(p)(r, k).SrcPorts })...)
			l = append(l, portChanges(p, func(r *api.Router, k int) *api.PortRange { return &proto(p)(r, k).DstPorts })...)
		}
	}
	return l
}

func wildcardChanges(what string, field func(r *api.Router, k int) *api.Wildcard) []change {
	var l []change
	for _, x := range []struct {
		w    api.Wildcard
		want api.Errno
	}{
		{api.Wildcard{Addr: 1, Mask: 1}, api.ErrArg},
		{api.Wildcard{Addr: 1 << 31, Mask: 1 << 31}, api.ErrArg},
		{api.Wildcard{Addr: quad(10, 0, 0, 1), Mask: 255}, api.ErrArg},
		{api.Wildcard{Addr: 8, Mask: math.MaxUint32}, api.ErrArg},
		{api.Wildcard{Addr: 1, Mask: 2}, api.OK},
		{api.Wildcard{Addr: math.MaxUint32, Mask: 0}, api.OK},
		{api.Wildcard{Addr: quad(10, 0, 255, 0), Mask: quad(0, 255, 0, 255)}, api.OK},
	} {
		l = append(l, change{"a wildcard of the " + what, x.want, func(r *api.Router, k int) { *field(r, k) = x.w }})
	}
	return l
}

func portChanges(proto int, field func(r *api.Router, k int) *api.PortRange) []change {
	var l []change
	for _, x := range []struct {
		ports api.PortRange
		want  api.Errno
	}{
		{api.PortRange{Lo: -1, Hi: 65535}, api.ErrArg},
		{api.PortRange{Lo: -2, Hi: -1}, api.ErrArg},
		{api.PortRange{Lo: 0, Hi: 65536}, api.ErrArg},
		{api.PortRange{Lo: 65536, Hi: 65536}, api.ErrArg},
		{api.PortRange{Lo: 2, Hi: 1}, api.ErrArg},
		{api.PortRange{Lo: 65535, Hi: 0}, api.ErrArg},
		{api.PortRange{Lo: 0, Hi: 0}, api.OK},
		{api.PortRange{Lo: 0, Hi: 65534}, api.OK},
		{api.PortRange{Lo: 1, Hi: 65535}, api.OK},
		{api.PortRange{Lo: 80, Hi: 80}, api.OK},
		{api.PortRange{Lo: 0, Hi: 65535}, api.OK},
	} {
		if proto != 6 && proto != 17 && x.ports != anyPort() {
			x.want = api.ErrArg
		}
		what := "ports " + strconv.Itoa(x.ports.Lo) + " to " + strconv.Itoa(x.ports.Hi) + " of protocol " + strconv.Itoa(proto)
		l = append(l, change{what, x.want, func(r *api.Router, k int) { *field(r, k) = x.ports }})
	}
	return l
}

func natChanges() []change {
	set := func(base func() api.Translation, what string, want api.Errno, do func(t *api.Translation)) []change {
		return []change{{what, want, func(r *api.Router, k int) {
			r.NAT[k] = base()
			do(&r.NAT[k])
		}}}
	}
	var l []change
	for _, kind := range []int{0, -1, 4, math.MinInt, math.MaxInt} {
		l = append(l, set(staticNAT, "kind "+strconv.Itoa(kind), api.ErrArg, func(t *api.Translation) { t.Kind = kind })...)
	}
	l = append(l, change{"nothing", api.ErrArg, func(r *api.Router, k int) { r.NAT[k] = api.Translation{} }})
	return join(l,
		set(staticNAT, "a static one", api.OK, func(t *api.Translation) {}),
		set(staticNAT, "a static one of one address", api.OK, func(t *api.Translation) { t.Inside = t.Outside }),
		set(staticNAT, "a static one without inside", api.ErrArg, func(t *api.Translation) { t.Inside = 0 }),
		set(staticNAT, "a static one without outside", api.ErrArg, func(t *api.Translation) { t.Outside = 0 }),
		set(staticNAT, "a static one with a protocol", api.ErrArg, func(t *api.Translation) { t.Proto = 6 }),
		set(staticNAT, "a static one with an inside port", api.ErrArg, func(t *api.Translation) { t.InsidePort = 1 }),
		set(staticNAT, "a static one with an outside port", api.ErrArg, func(t *api.Translation) { t.OutsidePort = 1 }),
		set(staticNAT, "a static one with a list", api.ErrArg, func(t *api.Translation) { t.List = "a0" }),
		set(staticNAT, "a static one with a least address", api.ErrArg, func(t *api.Translation) { t.Lo = 1 }),
		set(staticNAT, "a static one with a greatest address", api.ErrArg, func(t *api.Translation) { t.Hi = 1 }),
		set(poolNAT, "a pool", api.OK, func(t *api.Translation) {}),
		set(poolNAT, "a pool of one address", api.OK, func(t *api.Translation) { t.Lo, t.Hi = math.MaxUint32, math.MaxUint32 }),
		set(poolNAT, "a pool from 0", api.ErrArg, func(t *api.Translation) { t.Lo, t.Hi = 0, 3 }),
		set(poolNAT, "an empty pool", api.ErrArg, func(t *api.Translation) { t.Hi = t.Lo - 1 }),
		set(poolNAT, "a pool that wraps around", api.ErrArg, func(t *api.Translation) { t.Lo, t.Hi = math.MaxUint32, 2 }),
		set(poolNAT, "a pool of nine addresses", api.ErrArg, func(t *api.Translation) { t.Hi++ }),
		set(poolNAT, "a pool of nearly all addresses", api.ErrArg, func(t *api.Translation) { t.Lo, t.Hi = 1, math.MaxUint32 }),
		set(poolNAT, "an empty pool with an unknown list", api.ErrArg, func(t *api.Translation) { t.Lo, t.List = t.Hi+1, "x" }),
		set(poolNAT, "a pool with an inside", api.ErrArg, func(t *api.Translation) { t.Inside = 1 }),
		set(poolNAT, "a pool with an outside", api.ErrArg, func(t *api.Translation) { t.Outside = 1 }),
		set(poolNAT, "a pool with a protocol", api.ErrArg, func(t *api.Translation) { t.Proto = 17 }),
		set(poolNAT, "a pool with an inside port", api.ErrArg, func(t *api.Translation) { t.InsidePort = 1 }),
		set(poolNAT, "a pool with an outside port", api.ErrArg, func(t *api.Translation) { t.OutsidePort = -1 }),
		set(forwardNAT, "a forwarding", api.OK, func(t *api.Translation) {}),
		set(forwardNAT, "a forwarding of protocol 6", api.OK, func(t *api.Translation) { t.Proto = 6 }),
		set(forwardNAT, "the least ports", api.OK, func(t *api.Translation) { t.InsidePort, t.OutsidePort = 0, 0 }),
		set(forwardNAT, "the greatest ports", api.OK, func(t *api.Translation) { t.InsidePort, t.OutsidePort = 65535, 65535 }),
		set(forwardNAT, "a forwarding without inside", api.ErrArg, func(t *api.Translation) { t.Inside = 0 }),
		set(forwardNAT, "a forwarding without outside", api.ErrArg, func(t *api.Translation) { t.Outside = 0 }),
		set(forwardNAT, "a forwarding of protocol 0", api.ErrArg, func(t *api.Translation) { t.Proto = 0 }),
		set(forwardNAT, "a forwarding of protocol 1", api.ErrArg, func(t *api.Translation) { t.Proto = 1 }),
		set(forwardNAT, "a forwarding of every protocol", api.ErrArg, func(t *api.Translation) { t.Proto = -1 }),
		set(forwardNAT, "inside port -1", api.ErrArg, func(t *api.Translation) { t.InsidePort = -1 }),
		set(forwardNAT, "inside port 65536", api.ErrArg, func(t *api.Translation) { t.InsidePort = 65536 }),
		set(forwardNAT, "outside port -1", api.ErrArg, func(t *api.Translation) { t.OutsidePort = -1 }),
		set(forwardNAT, "outside port 65536", api.ErrArg, func(t *api.Translation) { t.OutsidePort = 65536 }),
		set(forwardNAT, "a forwarding with a list", api.ErrArg, func(t *api.Translation) { t.List = "a0" }),
		set(forwardNAT, "a forwarding with a least address", api.ErrArg, func(t *api.Translation) { t.Lo = 1 }),
		set(forwardNAT, "a forwarding with a greatest address", api.ErrArg, func(t *api.Translation) { t.Hi = 1 }),
		set(poolNAT, "a pool without a list", api.ErrUnknown, func(t *api.Translation) { t.List = "" }),
		set(poolNAT, "a pool with an unknown list", api.ErrUnknown, func(t *api.Translation) { t.List = "x" }),
		set(poolNAT, "a pool with a prefix list", api.ErrUnknown, func(t *api.Translation) { t.List = "p0" }),
	)
}

func filterChanges() []change {
	return join(
		reference("input filter", "p0", func(r *api.Router, k int) *string { return &r.Interfaces[k].In }),
		reference("output filter", "m0", func(r *api.Router, k int) *string { return &r.Interfaces[k].Out }),
	)
}

func staticChanges() []change {
	set := func(what string, want api.Errno, do func(s *api.StaticRoute)) []change {
		return []change{{what, want, func(r *api.Router, k int) { do(&r.Statics[k]) }}}
	}
	return join(
		noPrefix("a prefix", func(r *api.Router, k int) *api.Prefix { return &r.Statics[k].Prefix }),
		set("no way", api.ErrArg, func(s *api.StaticRoute) { s.Next, s.Iface, s.Discard = 0, "", false }),
		set("a next hop and an interface", api.ErrArg, func(s *api.StaticRoute) { s.Next, s.Iface, s.Discard = 5, "e0", false }),
		set("a next hop and discard", api.ErrArg, func(s *api.StaticRoute) { s.Next, s.Iface, s.Discard = 5, "", true }),
		set("an interface and discard", api.ErrArg, func(s *api.StaticRoute) { s.Next, s.Iface, s.Discard = 0, "e0", true }),
		set("an unknown interface and discard", api.ErrArg, func(s *api.StaticRoute) { s.Next, s.Iface, s.Discard = 0, "x", true }),
		set("three ways", api.ErrArg, func(s *api.StaticRoute) { s.Next, s.Iface, s.Discard = 5, "e0", true }),
		set("a next hop", api.OK, func(s *api.StaticRoute) { s.Next, s.Iface, s.Discard = math.MaxUint32, "", false }),
		set("an interface", api.OK, func(s *api.StaticRoute) { s.Next, s.Iface, s.Discard = 0, "e0", false }),
		set("an interface that is down", api.OK, func(s *api.StaticRoute) { s.Next, s.Iface, s.Discard = 0, "lo0", false }),
		set("discard", api.OK, func(s *api.StaticRoute) { s.Next, s.Iface, s.Discard = 0, "", true }),
		set("a next hop that is an own address", api.ErrArg, func(s *api.StaticRoute) { s.Next, s.Iface, s.Discard = quad(10, 1, 0, 1), "", false }),
		set("a next hop that is an own address that is down", api.ErrArg, func(s *api.StaticRoute) { s.Next, s.Iface, s.Discard = quad(1, 1, 1, 1), "", false }),
		number("distance", bounds{1, 255}, func(r *api.Router, k int) *int { return &r.Statics[k].Admin }),
		number("tag", bounds{0, 65535}, func(r *api.Router, k int) *int { return &r.Statics[k].Tag }),
		set("an unknown interface", api.ErrUnknown, func(s *api.StaticRoute) { s.Next, s.Iface, s.Discard = 0, "x", false }),
		set("an interface without an address", api.ErrArg, func(s *api.StaticRoute) { s.Next, s.Iface, s.Discard = 0, "spare", false }),
		[]change{{"the prefix and distance of another one", api.ErrConflict, func(r *api.Router, k int) {
			r.Statics[k].Prefix, r.Statics[k].Admin = r.Statics[0].Prefix, r.Statics[0].Admin
		}}, {"the prefix of another one", api.OK, func(r *api.Router, k int) {
			r.Statics[k].Prefix, r.Statics[k].Admin = r.Statics[0].Prefix, 2
		}}, {"the address of the prefix of another one", api.OK, func(r *api.Router, k int) {
			r.Statics[k].Prefix = api.Prefix{Addr: r.Statics[0].Prefix.Addr, Len: 17}
		}}},
	)
}

func linkStateChanges() []change {
	set := func(what string, want api.Errno, p api.LinkState) []change {
		return []change{{what, want, func(r *api.Router, _ int) { r.LS = p }}}
	}
	return join(
		set("off", api.OK, api.LinkState{}),
		set("off with a distance", api.ErrArg, api.LinkState{Admin: 110}),
		set("off with a range", api.ErrArg, api.LinkState{Ranges: []api.AreaRange{{}}}),
		set("off with a redistribution", api.ErrArg, api.LinkState{Redist: redist(api.ProtoLinkState)}),
		set("off with too many ranges", api.ErrArg, api.LinkState{Ranges: make([]api.AreaRange, 9)}),
		set("on with nothing else", api.OK, api.LinkState{On: true, Admin: 1}),
		number("distance", bounds{1, 255}, func(r *api.Router, _ int) *int { return &r.LS.Admin }),
	)
}

func rangeChanges() []change {
	set := func(what string, want api.Errno, x api.AreaRange) []change {
		return []change{{what, want, func(r *api.Router, k int) { r.LS.Ranges[k] = x }}}
	}
	return join(
		number("area", bounds{0, 255}, func(r *api.Router, k int) *int { return &r.LS.Ranges[k].Area }),
		noPrefix("a prefix", func(r *api.Router, k int) *api.Prefix { return &r.LS.Ranges[k].Prefix }),
		set("the prefix of another one", api.ErrConflict, api.AreaRange{Area: 1, Prefix: ten(0)}),
		set("a part of the prefix of another one", api.ErrConflict, api.AreaRange{Area: 1, Prefix: api.Prefix{Addr: quad(10, 0, 0, 0), Len: 32}}),
		set("a prefix around that of another one", api.ErrConflict, api.AreaRange{Area: 1, Prefix: api.Prefix{}}),
		set("the prefix of one of another area", api.OK, api.AreaRange{Area: 2, Prefix: ten(0)}),
	)
}

func redistChanges(list func(r *api.Router) *[]api.Redist, into int, metric, kind bounds) []change {
	field := func(f func(x *api.Redist) *int) func(r *api.Router, k int) *int {
		return func(r *api.Router, k int) *int { return f(&(*list(r))[k]) }
	}
	var l []change
	for _, from := range []int{into, 0, -1, 6, math.MinInt, math.MaxInt} {
		l = append(l, change{"routes of protocol " + strconv.Itoa(from), api.ErrArg, func(r *api.Router, k int) { (*list(r))[k].From = from }})
	}
	return join(l,
		number("metric", metric, field(func(x *api.Redist) *int { return &x.Metric })),
		number("tag", bounds{0, 65535}, field(func(x *api.Redist) *int { return &x.Tag })),
		number("type", kind, field(func(x *api.Redist) *int { return &x.Type })),
		reference("map", "p0", func(r *api.Router, k int) *string { return &(*list(r))[k].Map }),
		[]change{{"the source of another one", api.ErrDuplicate, func(r *api.Router, k int) { (*list(r))[k].From = (*list(r))[0].From }}},
	)
}

func distanceVectorChanges() []change {
	set := func(what string, want api.Errno, p api.DistanceVector) []change {
		return []change{{what, want, func(r *api.Router, _ int) { r.DV = p }}}
	}
	return join(
		set("off", api.OK, api.DistanceVector{}),
		set("off with a distance", api.ErrArg, api.DistanceVector{Admin: 120}),
		set("off with an input filter", api.ErrArg, api.DistanceVector{In: "p0"}),
		set("off with an output filter", api.ErrArg, api.DistanceVector{Out: "p0"}),
		set("off with an unknown filter", api.ErrArg, api.DistanceVector{Out: "x"}),
		set("off with a redistribution", api.ErrArg, api.DistanceVector{Redist: redist(api.ProtoDistance)}),
		set("on with nothing else", api.OK, api.DistanceVector{On: true, Admin: 1}),
		number("distance", bounds{1, 255}, func(r *api.Router, _ int) *int { return &r.DV.Admin }),
		reference("input filter", "a0", func(r *api.Router, _ int) *string { return &r.DV.In }),
		reference("output filter", "m0", func(r *api.Router, _ int) *string { return &r.DV.Out }),
	)
}

func pathVectorChanges() []change {
	set := func(what string, want api.Errno, p api.PathVector) []change {
		return []change{{what, want, func(r *api.Router, _ int) { r.PV = p }}}
	}
	return join(
		set("off", api.OK, api.PathVector{}),
		set("off with an external distance", api.ErrArg, api.PathVector{External: 20}),
		set("off with an internal distance", api.ErrArg, api.PathVector{Internal: 200}),
		set("off with a neighbor", api.ErrArg, api.PathVector{Neighbors: many(1, neighbor)}),
		set("off with a network", api.ErrArg, api.PathVector{Networks: many(1, ten)}),
		set("off with an aggregate", api.ErrArg, api.PathVector{Aggregates: make([]api.Aggregate, 1)}),
		set("off with a condition", api.ErrArg, api.PathVector{Conditions: many(1, condition)}),
		set("off with a redistribution", api.ErrArg, api.PathVector{Redist: redist(api.ProtoPathVector)}),
		set("on with nothing else", api.OK, api.PathVector{On: true, External: 1, Internal: 1}),
		[]change{{"no AS", api.ErrArg, func(r *api.Router, _ int) { r.AS = 0 }}},
		number("external distance", bounds{1, 255}, func(r *api.Router, _ int) *int { return &r.PV.External }),
		number("internal distance", bounds{1, 255}, func(r *api.Router, _ int) *int { return &r.PV.Internal }),
	)
}

func neighborChanges() []change {
	return join(
		[]change{{"address 0", api.ErrArg, func(r *api.Router, k int) { r.PV.Neighbors[k].Addr = 0 }},
			{"an own address", api.OK, func(r *api.Router, k int) { r.PV.Neighbors[k].Addr = quad(10, 1, 0, 1) }}},
		number("AS", bounds{1, 65535}, func(r *api.Router, k int) *int { return &r.PV.Neighbors[k].AS }),
		reference("input map", "p0", func(r *api.Router, k int) *string { return &r.PV.Neighbors[k].In }),
		reference("output map", "a0", func(r *api.Router, k int) *string { return &r.PV.Neighbors[k].Out }),
		[]change{{"the address of another one", api.ErrDuplicate, func(r *api.Router, k int) { r.PV.Neighbors[k].Addr = r.PV.Neighbors[0].Addr }}},
	)
}

func networkChanges() []change {
	return append(noPrefix("a prefix", func(r *api.Router, k int) *api.Prefix { return &r.PV.Networks[k] }),
		change{"another one", api.ErrDuplicate, func(r *api.Router, k int) { r.PV.Networks[k] = r.PV.Networks[0] }},
		change{"the address of another one", api.OK, func(r *api.Router, k int) { r.PV.Networks[k] = api.Prefix{Addr: r.PV.Networks[0].Addr, Len: 17} }})
}

func aggregateChanges() []change {
	return append(noPrefix("a prefix", func(r *api.Router, k int) *api.Prefix { return &r.PV.Aggregates[k].Prefix }),
		change{"the prefix of another one", api.ErrDuplicate, func(r *api.Router, k int) { r.PV.Aggregates[k].Prefix = r.PV.Aggregates[0].Prefix }},
		change{"a prefix around others", api.OK, func(r *api.Router, k int) { r.PV.Aggregates[k].Prefix = api.Prefix{} }})
}

func conditionChanges() []change {
	prefix := func(r *api.Router, k int) *api.Prefix { return &r.PV.Conditions[k].Prefix }
	other := func(r *api.Router, k int) *api.Prefix { return &r.PV.Conditions[k].If }
	return join(
		noPrefix("a prefix", prefix),
		noPrefix("a condition", other),
		[]change{
			{"two equal prefixes that are not valid", api.ErrArg, func(r *api.Router, k int) {
				*prefix(r, k) = api.Prefix{Addr: 1}
				*other(r, k) = api.Prefix{Addr: 1}
			}},
			{"two equal prefixes", api.ErrConflict, func(r *api.Router, k int) { *other(r, k) = *prefix(r, k) }},
			{"two equal prefixes that another one has", api.ErrConflict, func(r *api.Router, k int) {
				*prefix(r, k), *other(r, k) = *prefix(r, 0), *prefix(r, 0)
			}},
			{"the prefix of another one", api.ErrDuplicate, func(r *api.Router, k int) { *prefix(r, k) = *prefix(r, 0) }},
			{"the condition of another one", api.OK, func(r *api.Router, k int) { *other(r, k) = *other(r, 0) }},
			{"the prefix of another one as condition", api.OK, func(r *api.Router, k int) { *other(r, k) = *prefix(r, 0) }},
			{"a prefix within the condition", api.OK, func(r *api.Router, k int) { *other(r, k) = api.Prefix{} }},
		},
	)
}

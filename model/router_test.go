package model_test

import (
	"math"
	"strconv"

	"netverify/api"
)

// quad is the address of four numbers.
func quad(a, b, c, d uint32) uint32 {
	return a*16777216 + b*65536 + c*256 + d
}

// ten is the prefix 10.b.0.0/16.
func ten(b int) api.Prefix {
	return api.Prefix{Addr: quad(10, uint32(b), 0, 0), Len: 16}
}

func anyPort() api.PortRange {
	return api.PortRange{Lo: 0, Hi: 65535}
}

func anyAddress() api.Wildcard {
	return api.Wildcard{Mask: math.MaxUint32}
}

// iface is interface i of a router, with an address in 10.1.i.0/24.
func iface(i int) api.Interface {
	return api.Interface{Name: "e" + strconv.Itoa(i), Addr: quad(10, 1, uint32(i), 1), Len: 24}
}

func prefixList(i int) api.PrefixList {
	return api.PrefixList{Name: "p" + strconv.Itoa(i), Rules: []api.PrefixRule{
		{Permit: true, Prefix: ten(i), Min: 16, Max: 24},
		{Max: 32},
	}}
}

func routeMap(i int) api.RouteMap {
	return api.RouteMap{Name: "m" + strconv.Itoa(i), Clauses: []api.Clause{
		{Permit: true, List: "p0", Tag: 4, SetMetric: 5, SetTag: 6, SetPref: 7, Prepend: 2},
		{Tag: -1, SetMetric: -1, SetTag: -1, SetPref: -1},
	}}
}

func acl(i int) api.ACL {
	return api.ACL{Name: "a" + strconv.Itoa(i), Rules: []api.Rule{
		{Permit: true, Proto: 6, Src: api.Wildcard{Addr: quad(10, 0, 0, 0), Mask: quad(0, 255, 255, 255)}, Dst: anyAddress(), SrcPorts: anyPort(), DstPorts: api.PortRange{Lo: 80, Hi: 443}},
		{Proto: -1, Src: anyAddress(), Dst: anyAddress(), SrcPorts: anyPort(), DstPorts: anyPort()},
	}}
}

func staticNAT() api.Translation {
	return api.Translation{Kind: api.StaticNAT, Inside: quad(10, 1, 0, 9), Outside: quad(9, 0, 0, 1)}
}

func poolNAT() api.Translation {
	return api.Translation{Kind: api.PoolNAT, List: "a0", Lo: quad(9, 0, 1, 0), Hi: quad(9, 0, 1, 7)}
}

func forwardNAT() api.Translation {
	return api.Translation{Kind: api.ForwardNAT, Inside: quad(10, 1, 0, 8), Outside: quad(9, 0, 0, 2), Proto: 17, InsidePort: 53, OutsidePort: 5353}
}

func static(i int) api.StaticRoute {
	return api.StaticRoute{Prefix: api.Prefix{Addr: quad(20, uint32(i), 0, 0), Len: 16}, Next: quad(10, 1, 0, 2), Admin: 1, Tag: 3}
}

func neighbor(i int) api.Neighbor {
	return api.Neighbor{Addr: quad(10, 1, 0, uint32(100+i)), AS: 65000 + i, In: "m0", Out: "m0"}
}

func condition(i int) api.Condition {
	return api.Condition{Prefix: ten(i), If: ten(i + 100), Absent: i%2 == 1}
}

// redist are redistributions into one of the protocols.
func redist(into int) []api.Redist {
	var l []api.Redist
	for from := api.ProtoConnected; from <= api.ProtoPathVector && len(l) < 3; from++ {
		x := api.Redist{From: from, Metric: 3, Tag: 4, Map: "m0"}
		if into == api.ProtoLinkState {
			x.Type = 1 + from%2
		}
		if from != into {
			l = append(l, x)
		}
	}
	return l
}

// many are the first n elements of a list.
func many[T any](n int, element func(i int) T) []T {
	var l []T
	for i := range n {
		l = append(l, element(i))
	}
	return l
}

// full is a valid router with at least three elements in every list, of which
// only the first one is named elsewhere. The interfaces 3 and 4 are one without
// an address and one that is down.
func full() api.Router {
	r := api.Router{
		Name:       "r1",
		AS:         65001,
		Interfaces: append(many(3, iface), api.Interface{Name: "spare"}, api.Interface{Name: "lo0", Addr: quad(1, 1, 1, 1), Len: 32, Down: true}),
		Lists:      many(3, prefixList),
		Maps:       many(3, routeMap),
		ACLs:       many(3, acl),
		NAT:        []api.Translation{staticNAT(), poolNAT(), forwardNAT()},
		Statics:    many(3, static),
		LS: api.LinkState{On: true, Admin: 110, Redist: redist(api.ProtoLinkState), Ranges: many(3, func(i int) api.AreaRange {
			return api.AreaRange{Area: 1, Prefix: ten(i)}
		})},
		DV: api.DistanceVector{On: true, Admin: 120, In: "p0", Out: "p0", Redist: redist(api.ProtoDistance)},
		PV: api.PathVector{On: true, External: 20, Internal: 200,
			Neighbors:  many(3, neighbor),
			Networks:   many(3, ten),
			Aggregates: many(3, func(i int) api.Aggregate { return api.Aggregate{Prefix: ten(i), Only: i == 0} }),
			Conditions: many(3, condition),
			Redist:     redist(api.ProtoPathVector),
		},
	}
	r.Interfaces[0].LS, r.Interfaces[0].Cost, r.Interfaces[0].Side = true, 10, api.Inside
	r.Interfaces[1].LS, r.Interfaces[1].Area, r.Interfaces[1].Cost, r.Interfaces[1].VLAN = true, 1, 5, 7
	r.Interfaces[2].DV, r.Interfaces[2].Side, r.Interfaces[2].In, r.Interfaces[2].Out = true, api.Outside, "a0", "a0"
	return r
}

// largest is a valid router whose lists have as many elements as they may have.
func largest() api.Router {
	r := full()
	r.Interfaces = many(8, iface)
	r.Lists, r.Maps, r.ACLs = many(8, prefixList), many(8, routeMap), many(8, acl)
	r.Lists[7].Rules = make([]api.PrefixRule, 16)
	r.Maps[7].Clauses = make([]api.Clause, 8)
	r.ACLs[7].Rules = many(16, func(int) api.Rule { return acl(0).Rules[0] })
	r.NAT = many(8, func(int) api.Translation { return staticNAT() })
	r.Statics = many(16, static)
	r.LS.Ranges = many(4, func(i int) api.AreaRange { return api.AreaRange{Prefix: ten(i)} })
	r.PV.Neighbors, r.PV.Networks, r.PV.Conditions = many(8, neighbor), many(8, ten), many(8, condition)
	r.PV.Aggregates = many(8, func(i int) api.Aggregate { return api.Aggregate{Prefix: ten(i)} })
	for _, p := range []struct {
		redist *[]api.Redist
		last   int
	}{{&r.LS.Redist, api.ProtoPathVector}, {&r.DV.Redist, api.ProtoPathVector}, {&r.PV.Redist, api.ProtoDistance}} {
		x := (*p.redist)[0]
		x.From = p.last
		*p.redist = append(*p.redist, x)
	}
	return r
}

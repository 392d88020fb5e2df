package model

import (
	"slices"

	"netverify/addr"
	"netverify/api"
	"netverify/scan"
)

const (
	addressBits = 32
	maxVLAN     = 4094
	maxPort     = 65535
	maxProto    = 255
	maxAdmin    = 255
	tcp         = 6
	udp         = 17
	// none stands for "any" or "unchanged" where a number may be absent.
	none = -1
)

// Check returns the first error of n, or OK if n is valid.
func Check(n api.Network) api.Errno {
	return checkEach(n.Routers, api.MaxRouters, func(i int, r api.Router) api.Errno {
		if e := CheckRouter(r); e != api.OK {
			return e
		}
		if Router(n, r.Name) < i || sharesAddress(n.Routers[:i], r) {
			return api.ErrDuplicate
		}
		return api.OK
	})
}

// CheckRouter returns the first error of r, or OK if r is valid. A check may
// take for granted what the checks before it found to be right.
func CheckRouter(r api.Router) api.Errno {
	checks := []func(api.Router) api.Errno{
		checkIdentity,
		checkInterfaces,
		checkPrefixLists,
		checkRouteMaps,
		checkACLs,
		checkNAT,
		checkFilters,
		checkStatics,
		checkLinkState,
		checkDistanceVector,
		checkPathVector,
	}
	for _, check := range checks {
		if e := check(r); e != api.OK {
			return e
		}
	}
	return api.OK
}

// checkEach returns ErrLimit if list is longer than limit, or else the first
// error that check finds in an element.
func checkEach[T any](list []T, limit int, check func(i int, x T) api.Errno) api.Errno {
	if len(list) > limit {
		return api.ErrLimit
	}
	for i, x := range list {
		if e := check(i, x); e != api.OK {
			return e
		}
	}
	return api.OK
}

func checkIdentity(r api.Router) api.Errno {
	switch {
	case !scan.Name(r.Name):
		return api.ErrName
	case !within(r.AS, 0, api.MaxAS):
		return api.ErrArg
	}
	return api.OK
}

func checkInterfaces(r api.Router) api.Errno {
	return checkEach(r.Interfaces, api.MaxInterfaces, func(i int, x api.Interface) api.Errno {
		switch {
		case !scan.Name(x.Name):
			return api.ErrName
		case Interface(r, x.Name) < i:
			return api.ErrDuplicate
		case !fitsInterface(x):
			return api.ErrArg
		case overlapsAny(r.Interfaces[:i], x):
			return api.ErrConflict
		}
		return api.OK
	})
}

func fitsInterface(x api.Interface) bool {
	if x.Len == 0 {
		// Without an address there is nothing but the name and the state.
		return x == api.Interface{Name: x.Name, Down: x.Down}
	}
	return x.Addr != 0 &&
		within(x.Len, 1, addressBits) &&
		within(x.VLAN, 0, maxVLAN) &&
		within(x.Side, api.NoSide, api.Outside) &&
		fitsArea(x)
}

func fitsArea(x api.Interface) bool {
	if !x.LS {
		return x.Area == 0 && x.Cost == 0
	}
	return within(x.Area, 0, api.MaxArea) && within(x.Cost, 1, api.MaxCost)
}

// overlapsAny reports whether the network of x and that of an earlier interface
// have an address in common.
func overlapsAny(earlier []api.Interface, x api.Interface) bool {
	return x.Len != 0 && slices.ContainsFunc(earlier, func(y api.Interface) bool {
		return y.Len != 0 && addr.Overlaps(addr.Network(x.Addr, x.Len), addr.Network(y.Addr, y.Len))
	})
}

func checkPrefixLists(r api.Router) api.Errno {
	return checkEach(r.Lists, api.MaxLists, func(i int, l api.PrefixList) api.Errno {
		if e := checkList(l.Name, PrefixList(r, l.Name) < i, len(l.Rules)); e != api.OK {
			return e
		}
		return checkEach(l.Rules, api.MaxRules, func(_ int, x api.PrefixRule) api.Errno {
			if !addr.Valid(x.Prefix) || x.Prefix.Len > x.Min || x.Min > x.Max || x.Max > addressBits {
				return api.ErrArg
			}
			return api.OK
		})
	})
}

// checkList checks what prefix lists, route maps and access lists have in
// common.
func checkList(name string, isTaken bool, size int) api.Errno {
	switch {
	case !scan.Name(name):
		return api.ErrName
	case isTaken:
		return api.ErrDuplicate
	case size == 0:
		return api.ErrArg
	}
	return api.OK
}

func checkRouteMaps(r api.Router) api.Errno {
	return checkEach(r.Maps, api.MaxLists, func(i int, m api.RouteMap) api.Errno {
		if e := checkList(m.Name, RouteMap(r, m.Name) < i, len(m.Clauses)); e != api.OK {
			return e
		}
		return checkEach(m.Clauses, api.MaxClauses, func(_ int, c api.Clause) api.Errno {
			switch {
			case isUnknown(r, c.List, PrefixList):
				return api.ErrUnknown
			case !fitsClause(c):
				return api.ErrArg
			}
			return api.OK
		})
	})
}

func fitsClause(c api.Clause) bool {
	return within(c.Tag, none, api.MaxTag) &&
		within(c.SetTag, none, api.MaxTag) &&
		within(c.SetMetric, none, api.MaxMetric) &&
		within(c.SetPref, none, api.MaxPref) &&
		within(c.Prepend, 0, api.MaxPrepend)
}

func checkACLs(r api.Router) api.Errno {
	return checkEach(r.ACLs, api.MaxLists, func(i int, l api.ACL) api.Errno {
		if e := checkList(l.Name, ACL(r, l.Name) < i, len(l.Rules)); e != api.OK {
			return e
		}
		return checkEach(l.Rules, api.MaxRules, func(_ int, x api.Rule) api.Errno {
			if !fitsRule(x) {
				return api.ErrArg
			}
			return api.OK
		})
	})
}

func fitsRule(x api.Rule) bool {
	return within(x.Proto, none, maxProto) &&
		fitsWildcard(x.Src) && fitsWildcard(x.Dst) &&
		fitsPorts(x.SrcPorts, x.Proto) && fitsPorts(x.DstPorts, x.Proto)
}

func fitsWildcard(w api.Wildcard) bool {
	return w.Addr&w.Mask == 0
}

func fitsPorts(p api.PortRange, proto int) bool {
	if !hasPorts(proto) {
		return p == api.PortRange{Lo: 0, Hi: maxPort}
	}
	return within(p.Lo, 0, p.Hi) && p.Hi <= maxPort
}

func checkNAT(r api.Router) api.Errno {
	return checkEach(r.NAT, api.MaxNAT, func(_ int, t api.Translation) api.Errno {
		switch {
		case !fitsTranslation(t):
			return api.ErrArg
		case t.Kind == api.PoolNAT && ACL(r, t.List) < 0:
			return api.ErrUnknown
		}
		return api.OK
	})
}

func fitsTranslation(t api.Translation) bool {
	switch t.Kind {
	case api.StaticNAT:
		return t.Inside != 0 && t.Outside != 0 &&
			t == api.Translation{Kind: t.Kind, Inside: t.Inside, Outside: t.Outside}
	case api.PoolNAT:
		return t.Lo != 0 && t.Lo <= t.Hi && t.Hi-t.Lo < api.MaxPool &&
			t == api.Translation{Kind: t.Kind, List: t.List, Lo: t.Lo, Hi: t.Hi}
	case api.ForwardNAT:
		return t.Inside != 0 && t.Outside != 0 && hasPorts(t.Proto) &&
			within(t.InsidePort, 0, maxPort) && within(t.OutsidePort, 0, maxPort) &&
			t.List == "" && t.Lo == 0 && t.Hi == 0
	}
	return false
}

// checkFilters comes after the checks of the access lists, which interfaces
// name.
func checkFilters(r api.Router) api.Errno {
	return checkEach(r.Interfaces, api.MaxInterfaces, func(_ int, x api.Interface) api.Errno {
		if isUnknown(r, x.In, ACL) || isUnknown(r, x.Out, ACL) {
			return api.ErrUnknown
		}
		return api.OK
	})
}

func checkStatics(r api.Router) api.Errno {
	return checkEach(r.Statics, api.MaxStatics, func(i int, s api.StaticRoute) api.Errno {
		switch {
		// Without a next hop Next is 0, which is the address of no interface.
		case !fitsStatic(s) || Address(r, s.Next) >= 0:
			return api.ErrArg
		case isUnknown(r, s.Iface, Interface):
			return api.ErrUnknown
		case s.Iface != "" && r.Interfaces[Interface(r, s.Iface)].Len == 0:
			return api.ErrArg
		case isRepeated(r.Statics[:i], s):
			return api.ErrConflict
		}
		return api.OK
	})
}

func fitsStatic(s api.StaticRoute) bool {
	ways := 0
	for _, isUsed := range []bool{s.Next != 0, s.Iface != "", s.Discard} {
		if isUsed {
			ways++
		}
	}
	return addr.Valid(s.Prefix) && ways == 1 &&
		within(s.Admin, 1, maxAdmin) && within(s.Tag, 0, api.MaxTag)
}

// isRepeated reports whether an earlier static route has the prefix and the
// administrative distance of s.
func isRepeated(earlier []api.StaticRoute, s api.StaticRoute) bool {
	return slices.ContainsFunc(earlier, func(t api.StaticRoute) bool {
		return t.Prefix == s.Prefix && t.Admin == s.Admin
	})
}

// sharesAddress reports whether an address of r is one of an earlier router.
func sharesAddress(earlier []api.Router, r api.Router) bool {
	return slices.ContainsFunc(r.Interfaces, func(x api.Interface) bool {
		return x.Len != 0 && slices.ContainsFunc(earlier, func(q api.Router) bool {
			return Address(q, x.Addr) >= 0
		})
	})
}

// isUnknown reports whether name refers to something that find does not find.
// An empty name refers to nothing.
func isUnknown(r api.Router, name string, find func(api.Router, string) int) bool {
	return name != "" && find(r, name) < 0
}

func hasPorts(proto int) bool {
	return proto == tcp || proto == udp
}

func within(n, least, most int) bool {
	return least <= n && n <= most
}

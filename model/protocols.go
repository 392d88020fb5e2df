package model

import (
	"cmp"
	"slices"

	"netverify/addr"
	"netverify/api"
)

// A target is a protocol into which routes are redistributed, with the bounds
// that it sets.
type target struct {
	proto                   int
	leastMetric, mostMetric int
	leastType, mostType     int
}

func checkLinkState(r api.Router) api.Errno {
	p := r.LS
	if !p.On {
		if p.Admin != 0 || len(p.Ranges) > 0 || len(p.Redist) > 0 {
			return api.ErrArg
		}
		return api.OK
	}
	if !within(p.Admin, 1, maxAdmin) {
		return api.ErrArg
	}
	into := target{proto: api.ProtoLinkState, mostMetric: api.MaxMetric, leastType: 1, mostType: 2}
	return cmp.Or(checkRanges(p.Ranges), checkRedist(r, p.Redist, into))
}

func checkRanges(ranges []api.AreaRange) api.Errno {
	return checkEach(ranges, api.MaxRanges, func(i int, x api.AreaRange) api.Errno {
		isOverlapped := func(y api.AreaRange) bool {
			return y.Area == x.Area && addr.Overlaps(y.Prefix, x.Prefix)
		}
		switch {
		case !within(x.Area, 0, api.MaxArea) || !addr.Valid(x.Prefix):
			return api.ErrArg
		case slices.ContainsFunc(ranges[:i], isOverlapped):
			return api.ErrConflict
		}
		return api.OK
	})
}

func checkDistanceVector(r api.Router) api.Errno {
	p := r.DV
	if !p.On {
		if p.Admin != 0 || p.In != "" || p.Out != "" || len(p.Redist) > 0 {
			return api.ErrArg
		}
		return api.OK
	}
	switch {
	case !within(p.Admin, 1, maxAdmin):
		return api.ErrArg
	case isUnknown(r, p.In, PrefixList) || isUnknown(r, p.Out, PrefixList):
		return api.ErrUnknown
	}
	into := target{proto: api.ProtoDistance, leastMetric: 1, mostMetric: api.MaxHops}
	return checkRedist(r, p.Redist, into)
}

func checkPathVector(r api.Router) api.Errno {
	p := r.PV
	if !p.On {
		if p.External != 0 || p.Internal != 0 || len(p.Neighbors) > 0 || len(p.Networks) > 0 ||
			len(p.Aggregates) > 0 || len(p.Conditions) > 0 || len(p.Redist) > 0 {
			return api.ErrArg
		}
		return api.OK
	}
	if r.AS == 0 || !within(p.External, 1, maxAdmin) || !within(p.Internal, 1, maxAdmin) {
		return api.ErrArg
	}
	into := target{proto: api.ProtoPathVector, mostMetric: api.MaxMetric}
	return cmp.Or(
		checkNeighbors(r),
		checkNetworks(p.Networks),
		checkAggregates(p.Aggregates),
		checkConditions(p.Conditions),
		checkRedist(r, p.Redist, into),
	)
}

func checkNeighbors(r api.Router) api.Errno {
	list := r.PV.Neighbors
	return checkEach(list, api.MaxNeighbors, func(i int, x api.Neighbor) api.Errno {
		hasItsAddress := func(y api.Neighbor) bool { return y.Addr == x.Addr }
		switch {
		case x.Addr == 0 || !within(x.AS, 1, api.MaxAS):
			return api.ErrArg
		case isUnknown(r, x.In, RouteMap) || isUnknown(r, x.Out, RouteMap):
			return api.ErrUnknown
		case slices.ContainsFunc(list[:i], hasItsAddress):
			return api.ErrDuplicate
		}
		return api.OK
	})
}

func checkNetworks(list []api.Prefix) api.Errno {
	return checkEach(list, api.MaxNetworks, func(i int, p api.Prefix) api.Errno {
		switch {
		case !addr.Valid(p):
			return api.ErrArg
		case slices.Contains(list[:i], p):
			return api.ErrDuplicate
		}
		return api.OK
	})
}

func checkAggregates(list []api.Aggregate) api.Errno {
	return checkEach(list, api.MaxNetworks, func(i int, x api.Aggregate) api.Errno {
		hasItsPrefix := func(y api.Aggregate) bool { return y.Prefix == x.Prefix }
		switch {
		case !addr.Valid(x.Prefix):
			return api.ErrArg
		case slices.ContainsFunc(list[:i], hasItsPrefix):
			return api.ErrDuplicate
		}
		return api.OK
	})
}

func checkConditions(list []api.Condition) api.Errno {
	return checkEach(list, api.MaxNetworks, func(i int, x api.Condition) api.Errno {
		hasItsPrefix := func(y api.Condition) bool { return y.Prefix == x.Prefix }
		switch {
		case !addr.Valid(x.Prefix) || !addr.Valid(x.If):
			return api.ErrArg
		case x.Prefix == x.If:
			return api.ErrConflict
		case slices.ContainsFunc(list[:i], hasItsPrefix):
			return api.ErrDuplicate
		}
		return api.OK
	})
}

func checkRedist(r api.Router, list []api.Redist, into target) api.Errno {
	return checkEach(list, api.MaxRedist, func(i int, x api.Redist) api.Errno {
		hasItsSource := func(y api.Redist) bool { return y.From == x.From }
		switch {
		case !into.fits(x):
			return api.ErrArg
		case isUnknown(r, x.Map, RouteMap):
			return api.ErrUnknown
		case slices.ContainsFunc(list[:i], hasItsSource):
			return api.ErrDuplicate
		}
		return api.OK
	})
}

// fits reports whether the numbers of x are within the bounds of the target.
func (t target) fits(x api.Redist) bool {
	return within(x.From, api.ProtoConnected, api.ProtoPathVector) && x.From != t.proto &&
		within(x.Metric, t.leastMetric, t.mostMetric) &&
		within(x.Tag, 0, api.MaxTag) &&
		within(x.Type, t.leastType, t.mostType)
}

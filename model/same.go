package model

import (
	"slices"

	"netverify/api"
)

// SameNetwork reports whether two networks have equal routers.
func SameNetwork(a, b api.Network) bool {
	return slices.EqualFunc(a.Routers, b.Routers, Same)
}

// Same reports whether all fields of two routers are equal.
func Same(a, b api.Router) bool {
	return a.Name == b.Name &&
		a.AS == b.AS &&
		slices.Equal(a.Interfaces, b.Interfaces) &&
		slices.EqualFunc(a.Lists, b.Lists, samePrefixList) &&
		slices.EqualFunc(a.Maps, b.Maps, sameRouteMap) &&
		slices.EqualFunc(a.ACLs, b.ACLs, sameACL) &&
		slices.Equal(a.NAT, b.NAT) &&
		slices.Equal(a.Statics, b.Statics) &&
		sameLinkState(a.LS, b.LS) &&
		sameDistanceVector(a.DV, b.DV) &&
		samePathVector(a.PV, b.PV)
}

func samePrefixList(a, b api.PrefixList) bool {
	return a.Name == b.Name && slices.Equal(a.Rules, b.Rules)
}

func sameRouteMap(a, b api.RouteMap) bool {
	return a.Name == b.Name && slices.Equal(a.Clauses, b.Clauses)
}

func sameACL(a, b api.ACL) bool {
	return a.Name == b.Name && slices.Equal(a.Rules, b.Rules)
}

func sameLinkState(a, b api.LinkState) bool {
	return a.On == b.On &&
		a.Admin == b.Admin &&
		slices.Equal(a.Ranges, b.Ranges) &&
		slices.Equal(a.Redist, b.Redist)
}

func sameDistanceVector(a, b api.DistanceVector) bool {
	return a.On == b.On &&
		a.Admin == b.Admin &&
		a.In == b.In &&
		a.Out == b.Out &&
		slices.Equal(a.Redist, b.Redist)
}

func samePathVector(a, b api.PathVector) bool {
	return a.On == b.On &&
		a.External == b.External &&
		a.Internal == b.Internal &&
		slices.Equal(a.Neighbors, b.Neighbors) &&
		slices.Equal(a.Networks, b.Networks) &&
		slices.Equal(a.Aggregates, b.Aggregates) &&
		slices.Equal(a.Conditions, b.Conditions) &&
		slices.Equal(a.Redist, b.Redist)
}

package policy_test

import (
	"math"
	"reflect"
	"testing"

	"netverify/api"
	"netverify/model"
	"netverify/policy"
)

// router is a valid router with a prefix list that permits 10.0.0.0/8 and what
// is within it, one that permits only what is not, and the route map "m" with
// these clauses among other maps.
func router(t *testing.T, clauses ...api.Clause) api.Router {
	t.Helper()
	r := api.Router{
		Name: "r",
		Lists: []api.PrefixList{
			{Name: "in", Rules: []api.PrefixRule{permit("10.0.0.0/8", 8, 32)}},
			{Name: "out", Rules: []api.PrefixRule{deny("10.0.0.0/8", 8, 32), permit("0.0.0.0/0", 0, 32)}},
		},
		Maps: []api.RouteMap{
			{Name: "before", Clauses: []api.Clause{{Permit: true, Tag: -1, SetMetric: 901, SetTag: 902, SetPref: 903, Prepend: 7}}},
			{Name: "m", Clauses: clauses},
			{Name: "after", Clauses: []api.Clause{{Tag: -1, SetMetric: 801, SetTag: 802, SetPref: 803, Prepend: 6}}},
		},
	}
	if e := model.CheckRouter(r); e != api.OK {
		t.Fatalf("the router has the error %d", e)
	}
	return r
}

// plain is a clause that changes nothing.
func plain(permit bool, list string, tag int) api.Clause {
	return api.Clause{Permit: permit, List: list, Tag: tag, SetMetric: -1, SetTag: -1, SetPref: -1}
}

// route is a route of which no field is zero.
func route(s string, tag int) api.Route {
	return api.Route{
		Prefix:  prefix(s),
		Proto:   api.ProtoPathVector,
		Class:   api.ClassExternal,
		Admin:   20,
		Metric:  42,
		Inner:   43,
		Tag:     tag,
		Pref:    100,
		Path:    []int{5, 6, 7},
		From:    3,
		Next:    4,
		Hops:    []api.Hop{{Iface: 1, Addr: 3}, {Iface: 2, Addr: 9}},
		Discard: true,
	}
}

// P603

// Every pair of clauses meets routes with every tag, within and outside of the
// prefix lists.
func TestClauseOfAllPairsOfClauses(t *testing.T) {
	var all []api.Clause
	for _, list := range []string{"", "in", "out"} {
		for _, tag := range []int{-1, 0, 7, api.MaxTag} {
			all = append(all, plain(true, list, tag), plain(false, list, tag))
		}
	}
	for _, c := range all {
		for _, d := range all {
			r := router(t, c, d)
			for _, s := range []string{"10.0.0.0/8", "10.2.3.4/32", "11.0.0.0/8", "0.0.0.0/0"} {
				for _, tag := range []int{0, 1, 7, api.MaxTag} {
					x := route(s, tag)
					want := -1
					switch {
					case fits(c, s, tag):
						want = 0
					case fits(d, s, tag):
						want = 1
					}
					if got := policy.Clause(r, "m", x); got != want {
						t.Errorf("Clause(%v, %s with tag %d) = %d, want %d", r.Maps[1].Clauses, s, tag, got, want)
					}
				}
			}
		}
	}
}

// fits is whether a clause matches a route with this prefix and tag.
func fits(c api.Clause, s string, tag int) bool {
	if c.Tag != -1 && c.Tag != tag {
		return false
	}
	isIn := s[:3] == "10."
	return c.List == "" || isIn == (c.List == "in")
}

func TestClauseOfTheLongestMap(t *testing.T) {
	var l []api.Clause
	for i := range api.MaxClauses {
		l = append(l, plain(i%2 == 0, "in", i))
	}
	r := router(t, l...)
	for i := range api.MaxClauses {
		if got := policy.Clause(r, "m", route("10.0.0.0/8", i)); got != i {
			t.Errorf("Clause of tag %d = %d", i, got)
		}
		if got := policy.Clause(r, "m", route("11.0.0.0/8", i)); got != -1 {
			t.Errorf("Clause of tag %d with another prefix = %d", i, got)
		}
	}
	if got := policy.Clause(r, "m", route("10.0.0.0/8", api.MaxClauses)); got != -1 {
		t.Errorf("Clause of another tag = %d", got)
	}
}

// A tag that no valid route has equals no tag of a clause; "any" is any.
func TestClauseOfTagsOutOfRange(t *testing.T) {
	r := router(t, plain(true, "", 0), plain(true, "", api.MaxTag), plain(true, "in", -1))
	for _, tag := range []int{math.MinInt, -2, -1, api.MaxTag + 1, math.MaxInt} {
		if got := policy.Clause(r, "m", route("10.0.0.0/8", tag)); got != 2 {
			t.Errorf("Clause of tag %d = %d, want 2", tag, got)
		}
		if got := policy.Clause(r, "m", route("11.0.0.0/8", tag)); got != -1 {
			t.Errorf("Clause of tag %d with another prefix = %d, want -1", tag, got)
		}
	}
}

func TestClauseLooksAtTheMapOfItsName(t *testing.T) {
	r := router(t, plain(true, "", 5), plain(true, "", 6))
	for name, want := range map[string]int{
		"m":       1,
		"before":  0,
		"after":   0,
		"":        -1,
		"x":       -1,
		"M":       -1,
		"r":       -1,
		"in":      -1,
		"out":     -1,
		"m ":      -1,
		"befor":   -1,
		"before2": -1,
	} {
		if got := policy.Clause(r, name, route("10.0.0.0/8", 6)); got != want {
			t.Errorf("Clause(%q) = %d, want %d", name, got, want)
		}
	}
}

func TestClauseOfARouterWithoutMaps(t *testing.T) {
	for _, name := range []string{"", "m"} {
		if got := policy.Clause(api.Router{Name: "r"}, name, route("10.0.0.0/8", 6)); got != -1 {
			t.Errorf("Clause(%q) = %d", name, got)
		}
	}
}

// P604

func TestApplyWithAnEmptyName(t *testing.T) {
	for _, r := range []api.Router{{Name: "r"}, router(t, plain(false, "", -1))} {
		for _, x := range []api.Route{route("10.0.0.0/8", 7), route("0.0.0.0/0", 0), {}} {
			if got, ok := policy.Apply(r, "", x); !reflect.DeepEqual(got, x) || !ok {
				t.Errorf("Apply(%v) = %v, %v", x, got, ok)
			}
			if got := policy.Prepend(r, "", x); got != 0 {
				t.Errorf("Prepend(%v) = %d", x, got)
			}
		}
	}
}

// Each number of a clause is at its bounds, between them, or -1.
func TestApplyOfAllNumbers(t *testing.T) {
	for _, metric := range []int{-1, 0, 1, 42, api.MaxMetric} {
		for _, tag := range []int{-1, 0, 1, 7, api.MaxTag} {
			for _, pref := range []int{-1, 0, 1, 100, api.MaxPref} {
				for prepend := range api.MaxPrepend + 1 {
					c := api.Clause{Permit: true, Tag: 7, SetMetric: metric, SetTag: tag, SetPref: pref, Prepend: prepend}
					compareApply(t, c)
				}
			}
		}
	}
}

// compareApply compares what Apply and Prepend return of a route with tag 7 with
// what the clause says.
func compareApply(t *testing.T, c api.Clause) {
	t.Helper()
	want := route("10.0.0.0/8", 7)
	if c.SetMetric != -1 {
		want.Metric = c.SetMetric
	}
	if c.SetTag != -1 {
		want.Tag = c.SetTag
	}
	if c.SetPref != -1 {
		want.Pref = c.SetPref
	}
	r := router(t, plain(false, "out", -1), c, plain(false, "", -1))
	if got, ok := policy.Apply(r, "m", route("10.0.0.0/8", 7)); !reflect.DeepEqual(got, want) || !ok {
		t.Errorf("Apply of %v = %v, %v, want %v", c, got, ok, want)
	}
	if got := policy.Prepend(r, "m", route("10.0.0.0/8", 7)); got != c.Prepend {
		t.Errorf("Prepend of %v = %d", c, got)
	}
}

// A number that is 0, or -1 in the route, is one as any other.
func TestApplyOfZeroNumbers(t *testing.T) {
	r := router(t, plain(true, "", -1))
	for _, x := range []api.Route{
		{},
		{Prefix: prefix("10.0.0.0/8"), Proto: api.ProtoConnected, Hops: []api.Hop{{}}},
		{Metric: -1, Tag: -1, Pref: -1},
	} {
		if got, ok := policy.Apply(r, "m", x); !reflect.DeepEqual(got, x) || !ok {
			t.Errorf("Apply(%v) = %v, %v", x, got, ok)
		}
	}
}

// compareDenied compares what Apply and Prepend return of a route that is not
// permitted with nothing.
func compareDenied(t *testing.T, r api.Router, name string, x api.Route) {
	t.Helper()
	if got, ok := policy.Apply(r, name, x); !reflect.DeepEqual(got, api.Route{}) || ok {
		t.Errorf("Apply(%q, %v) = %v, %v", name, x, got, ok)
	}
	if got := policy.Prepend(r, name, x); got != 0 {
		t.Errorf("Prepend(%q, %v) = %d", name, x, got)
	}
}

func TestApplyOfWhatAMapDoesNotPermit(t *testing.T) {
	change := api.Clause{Tag: 7, SetMetric: 1, SetTag: 2, SetPref: 3, Prepend: 4}
	permitting := change
	permitting.Permit = true
	// The first clause that matches decides, whatever comes after it.
	compareDenied(t, router(t, change), "m", route("10.0.0.0/8", 7))
	compareDenied(t, router(t, change, permitting), "m", route("10.0.0.0/8", 7))
	compareDenied(t, router(t, plain(false, "in", -1), permitting), "m", route("10.0.0.0/8", 7))
	// No clause matches.
	compareDenied(t, router(t, permitting), "m", route("10.0.0.0/8", 8))
	compareDenied(t, router(t, plain(true, "in", -1)), "m", route("11.0.0.0/8", 7))
	// The other map does not permit.
	compareDenied(t, router(t, permitting), "after", route("10.0.0.0/8", 7))
}

func TestApplyWithANameOfNoMap(t *testing.T) {
	r := router(t, plain(true, "", -1))
	for _, name := range []string{"x", "M", "r", "in", "out", " ", "mm"} {
		compareDenied(t, r, name, route("10.0.0.0/8", 7))
	}
	compareDenied(t, api.Router{Name: "r"}, "m", route("10.0.0.0/8", 7))
}

// The clause that Clause finds is taken from the map of the name.
func TestApplyTakesTheClauseOfItsMap(t *testing.T) {
	r := router(t, plain(false, "out", -1), api.Clause{Permit: true, Tag: -1, SetMetric: 1, SetTag: 2, SetPref: 3, Prepend: 4})
	for _, c := range []struct {
		name                       string
		metric, tag, pref, prepend int
	}{{"m", 1, 2, 3, 4}, {"before", 901, 902, 903, 7}} {
		x, ok := policy.Apply(r, c.name, route("10.0.0.0/8", 7))
		if x.Metric != c.metric || x.Tag != c.tag || x.Pref != c.pref || !ok {
			t.Errorf("Apply(%s) = %v, %v", c.name, x, ok)
		}
		if got := policy.Prepend(r, c.name, route("10.0.0.0/8", 7)); got != c.prepend {
			t.Errorf("Prepend(%s) = %d", c.name, got)
		}
	}
}

// R2: what is passed in is not changed, and not part of a result.
func TestApplyReturnsNewMemory(t *testing.T) {
	clauses := []api.Clause{{Permit: true, Tag: -1, SetMetric: 1, SetTag: 2, SetPref: 3}}
	r := router(t, clauses...)
	for _, name := range []string{"", "m"} {
		x := route("10.0.0.0/8", 7)
		y, _ := policy.Apply(r, name, x)
		z, _ := policy.Apply(r, name, x)
		y.Path[0], y.Hops[1] = 99, api.Hop{Iface: 99}
		if !reflect.DeepEqual(x, route("10.0.0.0/8", 7)) {
			t.Errorf("Apply(%q) returned memory of its argument, or changed it", name)
		}
		if z.Path[0] != 5 || z.Hops[1].Iface != 2 {
			t.Errorf("Apply(%q) returned the same memory twice", name)
		}
	}
	if !model.Same(r, router(t, clauses...)) {
		t.Error("Apply changed the router")
	}
}

// A slice that has room after its end, or no elements, is not kept either.
func TestApplyDoesNotKeepRoom(t *testing.T) {
	path, hops := make([]int, 8), make([]api.Hop, 8)
	for _, name := range []string{"", "m"} {
		for n := range 8 {
			x := route("10.0.0.0/8", 7)
			x.Path, x.Hops = path[:n], hops[:n]
			y, _ := policy.Apply(router(t, plain(true, "", -1)), name, x)
			if len(y.Path) != n || len(y.Hops) != n {
				t.Errorf("Apply of %d AS numbers and hops returns %d and %d", n, len(y.Path), len(y.Hops))
			}
			_, _ = append(y.Path, 99), append(y.Hops, api.Hop{Iface: 99})
		}
	}
	for i := range path {
		if path[i] != 0 || hops[i] != (api.Hop{}) {
			t.Errorf("element %d was changed through a result", i)
		}
	}
}

// R1: what is not valid does not stop a function.
func TestRouteMapsThatAreNotValid(t *testing.T) {
	strange := api.Clause{Permit: true, List: "x", Tag: math.MinInt, SetMetric: -2, SetTag: math.MaxInt, SetPref: math.MinInt, Prepend: -1}
	r := api.Router{
		Lists: []api.PrefixList{{}, {Name: "l", Rules: invalidRules()}, {Name: "l"}},
		Maps: []api.RouteMap{
			{Clauses: []api.Clause{strange, {Permit: true, Tag: -1}}},
			{Name: "m", Clauses: []api.Clause{strange, {List: "l", Tag: -2}, {Permit: true, List: "l", Tag: -1}}},
			{Name: "m"},
			{Name: "empty"},
		},
	}
	for _, p := range append(invalidPrefixes(), prefix("10.0.0.0/8")) {
		for _, tag := range []int{math.MinInt, -2, -1, 0, math.MaxInt} {
			for _, name := range []string{"", "m", "empty", "x", "\xff"} {
				x := api.Route{Prefix: p, Tag: tag, Proto: -1, Metric: math.MaxInt}
				policy.Clause(r, name, x)
				policy.Apply(r, name, x)
				policy.Prepend(r, name, x)
			}
		}
	}
}

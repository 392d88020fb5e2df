package policy_test

import (
	"math"
	"strconv"
	"strings"
	"testing"

	"netverify/addr"
	"netverify/api"
	"netverify/model"
	"netverify/policy"
)

// prefix is the prefix with this text.
func prefix(s string) api.Prefix {
	p, ok := addr.ParsePrefix(s)
	if !ok {
		panic(s + " is no prefix")
	}
	return p
}

func permit(s string, least, most int) api.PrefixRule {
	return api.PrefixRule{Permit: true, Prefix: prefix(s), Min: least, Max: most}
}

func deny(s string, least, most int) api.PrefixRule {
	return api.PrefixRule{Prefix: prefix(s), Min: least, Max: most}
}

// A region has the prefixes within a prefix that have at most three more bits.
type region struct{ prefix api.Prefix }

// regions are at both ends of the prefixes: those of the least lengths, and those
// of the greatest lengths and addresses.
func regions() []region {
	return []region{{prefix("0.0.0.0/0")}, {prefix("255.255.255.248/29")}}
}

func (g region) most() int {
	return g.prefix.Len + 3
}

func (g region) prefixes() []api.Prefix {
	var l []api.Prefix
	for n := g.prefix.Len; n <= g.most(); n++ {
		for i := range uint32(1) << (n - g.prefix.Len) {
			l = append(l, api.Prefix{Addr: g.prefix.Addr | i<<(32-n), Len: n})
		}
	}
	return l
}

// rules are all valid rules that match only prefixes of the region.
func (g region) rules() []api.PrefixRule {
	var l []api.PrefixRule
	for _, p := range g.prefixes() {
		for least := p.Len; least <= g.most(); least++ {
			for most := least; most <= g.most(); most++ {
				l = append(l, api.PrefixRule{Permit: len(l)%2 == 0, Prefix: p, Min: least, Max: most})
			}
		}
	}
	return l
}

// digits are the first Len bits of a prefix.
func digits(p api.Prefix) string {
	all := strconv.FormatUint(1<<32|uint64(p.Addr), 2)[1:]
	return all[:p.Len]
}

// matches is what Matches has to return, computed from the digits.
func matches(x api.PrefixRule, p api.Prefix) bool {
	return strings.HasPrefix(digits(p), digits(x.Prefix)) && x.Min <= p.Len && p.Len <= x.Max
}

// invalidPrefixes have a length out of range, or a bit after it.
func invalidPrefixes() []api.Prefix {
	return []api.Prefix{
		{Len: -1}, {Len: 33}, {Len: 64}, {Len: math.MinInt}, {Len: math.MaxInt},
		{Addr: math.MaxUint32, Len: -1}, {Addr: math.MaxUint32, Len: 0}, {Addr: math.MaxUint32, Len: 33},
		{Addr: 10<<24 | 1, Len: 8}, {Addr: 1, Len: 31},
	}
}

// invalidRules have an invalid prefix, or lengths that are out of range or not
// in order.
func invalidRules() []api.PrefixRule {
	var l []api.PrefixRule
	for _, p := range append(invalidPrefixes(), prefix("10.0.0.0/8")) {
		for _, least := range []int{math.MinInt, -1, 0, 8, 33, math.MaxInt} {
			for _, most := range []int{math.MinInt, -1, 0, 7, 33, math.MaxInt} {
				l = append(l, api.PrefixRule{Permit: true, Prefix: p, Min: least, Max: most})
			}
		}
	}
	return l
}

// P601

func TestMatches(t *testing.T) {
	for _, c := range []struct {
		rule api.PrefixRule
		p    string
		want bool
	}{
		{permit("10.0.0.0/8", 8, 8), "10.0.0.0/8", true},
		{permit("10.0.0.0/8", 8, 8), "10.0.0.0/9", false},
		{permit("10.0.0.0/8", 8, 8), "10.0.0.0/7", false},
		{permit("10.0.0.0/8", 8, 8), "11.0.0.0/8", false},
		{permit("10.0.0.0/8", 9, 24), "10.0.0.0/8", false},
		{permit("10.0.0.0/8", 9, 24), "10.128.0.0/9", true},
		{permit("10.0.0.0/8", 9, 24), "10.255.255.0/24", true},
		{permit("10.0.0.0/8", 9, 24), "10.255.255.0/25", false},
		{permit("10.0.0.0/8", 9, 24), "11.0.0.0/24", false},
		{permit("10.0.0.0/8", 9, 24), "9.255.255.0/24", false},
		{permit("10.0.0.0/8", 9, 24), "10.1.2.3/32", false},
		{permit("10.0.0.0/8", 32, 32), "10.1.2.3/32", true},
		{permit("10.0.0.0/8", 32, 32), "10.0.0.0/31", false},
		{permit("10.128.0.0/9", 9, 32), "10.0.0.0/9", false},
		{permit("10.128.0.0/9", 9, 32), "10.0.0.0/8", false},
		{permit("0.0.0.0/0", 0, 0), "0.0.0.0/0", true},
		{permit("0.0.0.0/0", 0, 0), "0.0.0.0/1", false},
		{permit("0.0.0.0/0", 0, 32), "0.0.0.0/0", true},
		{permit("0.0.0.0/0", 0, 32), "255.255.255.255/32", true},
		{permit("0.0.0.0/0", 1, 32), "0.0.0.0/0", false},
		{permit("1.2.3.4/32", 32, 32), "1.2.3.4/32", true},
		{permit("1.2.3.4/32", 32, 32), "1.2.3.5/32", false},
	} {
		if got := policy.Matches(c.rule, prefix(c.p)); got != c.want {
			t.Errorf("Matches(%v, %s) = %v", c.rule, c.p, got)
		}
		c.rule.Permit = false
		if got := policy.Matches(c.rule, prefix(c.p)); got != c.want {
			t.Errorf("Matches(%v, %s) = %v", c.rule, c.p, got)
		}
	}
}

func TestMatchesOfAllRules(t *testing.T) {
	for _, g := range regions() {
		for _, x := range g.rules() {
			for _, p := range g.prefixes() {
				if got := policy.Matches(x, p); got != matches(x, p) {
					t.Errorf("Matches(%v, %v) = %v", x, p, got)
				}
			}
		}
	}
}

func TestFirst(t *testing.T) {
	l := api.PrefixList{Name: "l", Rules: []api.PrefixRule{
		deny("10.1.0.0/16", 16, 24),
		permit("10.0.0.0/8", 16, 16),
		deny("10.0.0.0/8", 8, 20),
		permit("10.0.0.0/8", 16, 16),
		permit("0.0.0.0/0", 32, 32),
	}}
	for p, want := range map[string]int{
		"10.1.0.0/16":  0,
		"10.1.9.0/24":  0,
		"10.1.9.0/25":  -1,
		"10.2.0.0/16":  1,
		"10.0.0.0/8":   2,
		"10.2.0.0/17":  2,
		"10.2.0.0/21":  -1,
		"10.1.0.0/32":  4,
		"9.0.0.0/16":   -1,
		"0.0.0.0/0":    -1,
		"10.0.0.0/15":  2,
		"11.0.0.1/32":  4,
		"10.1.0.1/32":  4,
		"10.1.0.0/31":  -1,
		"10.1.16.0/20": 0,
	} {
		if got := policy.First(l, prefix(p)); got != want {
			t.Errorf("First(%s) = %d, want %d", p, got, want)
		}
	}
}

func TestFirstOfAListWithoutRules(t *testing.T) {
	for _, l := range []api.PrefixList{{}, {Name: "l"}, {Name: "l", Rules: []api.PrefixRule{}}} {
		for _, p := range regions()[0].prefixes() {
			if got := policy.First(l, p); got != -1 {
				t.Errorf("First(%v) of no rules = %d", p, got)
			}
		}
	}
}

func TestFirstOfTheLongestList(t *testing.T) {
	var l api.PrefixList
	for i := range api.MaxRules {
		l.Rules = append(l.Rules, api.PrefixRule{Permit: true, Prefix: addr.Network(uint32(i)<<24, 8), Min: 8, Max: 32})
	}
	for i := range api.MaxRules {
		if got := policy.First(l, addr.Network(uint32(i)<<24|5, 32)); got != i {
			t.Errorf("First of the prefix of rule %d = %d", i, got)
		}
	}
	if got := policy.First(l, addr.Network(api.MaxRules<<24, 8)); got != -1 {
		t.Errorf("First of the prefix of no rule = %d", got)
	}
}

func TestFirstOfAllPairsOfRules(t *testing.T) {
	for _, g := range regions() {
		for _, x := range g.rules() {
			for _, y := range g.rules() {
				l := api.PrefixList{Rules: []api.PrefixRule{x, y}}
				for _, p := range g.prefixes() {
					want := -1
					switch {
					case matches(x, p):
						want = 0
					case matches(y, p):
						want = 1
					}
					if got := policy.First(l, p); got != want {
						t.Fatalf("First(%v, %v) = %d, want %d", l.Rules, p, got, want)
					}
				}
			}
		}
	}
}

// P602

// lists has prefix lists, and one name that only other things have.
func lists(t *testing.T) api.Router {
	t.Helper()
	r := api.Router{
		Name:       "router",
		Interfaces: []api.Interface{{Name: "iface"}},
		Lists: []api.PrefixList{
			{Name: "first", Rules: []api.PrefixRule{deny("10.1.0.0/16", 16, 32), permit("10.0.0.0/8", 8, 24)}},
			{Name: "second", Rules: []api.PrefixRule{permit("10.1.0.0/16", 16, 32), deny("10.0.0.0/8", 8, 24), permit("0.0.0.0/0", 0, 32)}},
			{Name: "nothing", Rules: []api.PrefixRule{deny("0.0.0.0/0", 0, 32), permit("0.0.0.0/0", 0, 32)}},
			{Name: "everything", Rules: []api.PrefixRule{permit("0.0.0.0/0", 0, 32), deny("0.0.0.0/0", 0, 32)}},
		},
		Maps: []api.RouteMap{{Name: "map", Clauses: []api.Clause{{Permit: true}}}},
		ACLs: []api.ACL{{Name: "acl", Rules: []api.Rule{{Permit: true, Proto: 6}}}},
	}
	if e := model.CheckRouter(r); e != api.OK {
		t.Fatalf("the router has the error %d", e)
	}
	return r
}

func TestPermits(t *testing.T) {
	r := lists(t)
	for _, c := range []struct {
		name, p string
		want    bool
	}{
		{"first", "10.0.0.0/8", true},
		{"first", "10.2.3.0/24", true},
		{"first", "10.2.3.0/25", false},
		{"first", "10.1.0.0/16", false},
		{"first", "10.1.2.0/24", false},
		{"first", "10.0.0.0/15", true},
		{"first", "11.0.0.0/8", false},
		{"first", "0.0.0.0/0", false},
		{"second", "10.1.0.0/16", true},
		{"second", "10.1.2.3/32", true},
		{"second", "10.0.0.0/8", false},
		{"second", "10.2.0.0/24", false},
		{"second", "10.2.0.0/25", true},
		{"second", "0.0.0.0/0", true},
		{"nothing", "0.0.0.0/0", false},
		{"nothing", "10.2.3.4/32", false},
		{"everything", "0.0.0.0/0", true},
		{"everything", "255.255.255.255/32", true},
	} {
		if got := policy.Permits(r, c.name, prefix(c.p)); got != c.want {
			t.Errorf("Permits(%s, %s) = %v", c.name, c.p, got)
		}
	}
}

func TestPermitsWithAnEmptyName(t *testing.T) {
	for _, r := range []api.Router{{Name: "r"}, lists(t)} {
		for _, s := range []string{"0.0.0.0/0", "10.1.0.0/16", "11.0.0.0/8", "255.255.255.255/32"} {
			if !policy.Permits(r, "", prefix(s)) {
				t.Errorf("Permits(%s) with an empty name is false", s)
			}
		}
	}
}

func TestPermitsWithANameOfNoPrefixList(t *testing.T) {
	r := lists(t)
	for _, name := range []string{"x", "map", "acl", "iface", "router", "First", "EVERYTHING", "everythin", "everything ", " "} {
		for _, s := range []string{"0.0.0.0/0", "10.0.0.0/8", "10.1.0.0/16"} {
			if policy.Permits(r, name, prefix(s)) {
				t.Errorf("Permits(%q, %s) is true", name, s)
			}
		}
	}
}

// P605

func TestCovers(t *testing.T) {
	for _, c := range []struct {
		a, b api.PrefixRule
		want bool
	}{
		{permit("10.0.0.0/8", 8, 24), permit("10.0.0.0/8", 8, 24), true},
		{permit("10.0.0.0/8", 8, 24), permit("10.0.0.0/8", 9, 23), true},
		{permit("10.0.0.0/8", 9, 24), permit("10.0.0.0/8", 8, 24), false},
		{permit("10.0.0.0/8", 8, 23), permit("10.0.0.0/8", 8, 24), false},
		{permit("10.0.0.0/8", 9, 23), permit("10.0.0.0/8", 8, 24), false},
		{permit("10.0.0.0/8", 8, 32), permit("10.1.0.0/16", 16, 32), true},
		{permit("10.0.0.0/8", 17, 32), permit("10.1.0.0/16", 17, 17), true},
		{permit("10.0.0.0/8", 18, 32), permit("10.1.0.0/16", 17, 32), false},
		{permit("10.0.0.0/8", 8, 32), permit("11.0.0.0/8", 8, 32), false},
		{permit("10.1.0.0/16", 16, 32), permit("10.0.0.0/8", 16, 16), false},
		{permit("10.1.0.0/16", 16, 32), permit("10.0.0.0/8", 32, 32), false},
		{permit("10.0.0.0/9", 9, 32), permit("10.128.0.0/9", 9, 32), false},
		{permit("0.0.0.0/0", 0, 32), permit("1.2.3.4/32", 32, 32), true},
		{permit("0.0.0.0/0", 0, 31), permit("1.2.3.4/32", 32, 32), false},
		{permit("0.0.0.0/0", 0, 0), permit("0.0.0.0/0", 0, 0), true},
		{permit("0.0.0.0/0", 0, 0), permit("0.0.0.0/1", 1, 1), false},
		{permit("0.0.0.0/1", 1, 32), permit("0.0.0.0/0", 1, 32), false},
		{permit("0.0.0.0/0", 1, 32), permit("0.0.0.0/0", 0, 0), false},
	} {
		for i := range 4 {
			// What the rules do with a prefix that they match does not matter.
			c.a.Permit, c.b.Permit = i&1 == 0, i&2 == 0
			if got := policy.Covers(c.a, c.b); got != c.want {
				t.Errorf("Covers(%v, %v) = %v", c.a, c.b, got)
			}
		}
	}
}

func TestCoversOfAllRules(t *testing.T) {
	for _, g := range regions() {
		for _, a := range g.rules() {
			for _, b := range g.rules() {
				want := true
				for _, p := range g.prefixes() {
					want = want && (matches(a, p) || !matches(b, p))
				}
				if got := policy.Covers(a, b); got != want {
					t.Errorf("Covers(%v, %v) = %v", a, b, got)
				}
			}
		}
	}
}

// R1: what is not valid does not stop a function.
func TestPrefixListsThatAreNotValid(t *testing.T) {
	rules := invalidRules()
	r := api.Router{Lists: []api.PrefixList{{}, {Name: "l", Rules: rules}, {Name: "l"}, {Name: "empty"}}}
	for _, p := range append(invalidPrefixes(), regions()[1].prefixes()...) {
		for _, x := range rules {
			policy.Matches(x, p)
			policy.Covers(x, rules[0])
			policy.Covers(rules[0], x)
			policy.First(api.PrefixList{Rules: []api.PrefixRule{x}}, p)
		}
		for _, name := range []string{"", "l", "empty", "x", "\xff"} {
			policy.Permits(r, name, p)
		}
	}
}

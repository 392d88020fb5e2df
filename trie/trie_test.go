package trie_test

import (
	"math"
	"math/bits"
	"reflect"
	"slices"
	"testing"

	"netverify/addr"
	"netverify/api"
	"netverify/trie"
)

const top = math.MaxUint32

// prefix is the prefix with this text.
func prefix(t *testing.T, s string) api.Prefix {
	t.Helper()
	p, ok := addr.ParsePrefix(s)
	if !ok {
		t.Fatalf("%q is no prefix", s)
	}
	return p
}

// table is a table of these entries, inserted in their order.
func table(t *testing.T, entries ...api.TableEntry) *trie.Table {
	t.Helper()
	x := trie.New()
	for _, e := range entries {
		if !x.Insert(e.Prefix, e.Value) {
			t.Fatalf("Insert(%v, %d) is false", e.Prefix, e.Value)
		}
	}
	return x
}

// numbered are the entries of these prefixes with the values 1, 2 and so on.
func numbered(t *testing.T, texts ...string) []api.TableEntry {
	t.Helper()
	var entries []api.TableEntry
	for i, s := range texts {
		entries = append(entries, api.TableEntry{Prefix: prefix(t, s), Value: i + 1})
	}
	return entries
}

// within are the prefixes within p that have at most more bits than p, each one
// after those that cover it.
func within(p api.Prefix, more int) []api.Prefix {
	var all []api.Prefix
	for n := p.Len; n <= p.Len+more; n++ {
		for i := range uint32(1) << (n - p.Len) {
			all = append(all, api.Prefix{Addr: p.Addr | i<<(32-n), Len: n})
		}
	}
	return all
}

// invalid are prefixes with a length out of range, or with a bit after it.
func invalid() []api.Prefix {
	all := []api.Prefix{
		{Len: -1}, {Len: 33}, {Len: 64}, {Len: -32}, {Len: math.MinInt}, {Len: math.MaxInt},
		{Addr: 10 << 24, Len: -1}, {Addr: 10 << 24, Len: 40}, {Addr: top, Len: 33}, {Addr: top, Len: -1},
		{Addr: 10<<24 | 1, Len: 8}, {Addr: top, Len: 0}, {Addr: top, Len: 31},
	}
	for n := range 32 {
		for i := n; i < 32; i++ {
			all = append(all, api.Prefix{Addr: 1 << (31 - i), Len: n})
		}
	}
	return all
}

// A model has the entries of a table in no order.
type model map[api.Prefix]int

func (m model) covering(p api.Prefix) []api.Prefix {
	var l []api.Prefix
	for n := 0; n <= p.Len; n++ {
		if q := addr.Network(p.Addr, n); m.has(q) {
			l = append(l, q)
		}
	}
	return l
}

func (m model) has(p api.Prefix) bool {
	_, ok := m[p]
	return ok
}

func (m model) entries() []api.TableEntry {
	var l []api.TableEntry
	for p, v := range m {
		l = append(l, api.TableEntry{Prefix: p, Value: v})
	}
	slices.SortFunc(l, func(x, y api.TableEntry) int {
		return addr.Compare(x.Prefix, y.Prefix)
	})
	return l
}

// compare compares what a table and a model return of these prefixes and of
// their first and last addresses.
func compare(t *testing.T, x *trie.Table, m model, prefixes []api.Prefix) {
	t.Helper()
	if got := x.Len(); got != len(m) {
		t.Errorf("Len of %v = %d", m, got)
	}
	if got := x.Entries(); !slices.Equal(got, m.entries()) {
		t.Errorf("Entries of %v = %v", m, got)
	}
	for _, p := range prefixes {
		if v, ok := x.Get(p); v != m[p] || ok != m.has(p) {
			t.Errorf("Get(%v) of %v = %d, %v", p, m, v, ok)
		}
		if got := x.Covering(p); !slices.Equal(got, m.covering(p)) {
			t.Errorf("Covering(%v) of %v = %v", p, m, got)
		}
		compareLookup(t, x, m, p.Addr)
		compareLookup(t, x, m, addr.Last(p))
	}
}

func compareLookup(t *testing.T, x *trie.Table, m model, a uint32) {
	t.Helper()
	var longest api.Prefix
	around := m.covering(api.Prefix{Addr: a, Len: 32})
	if len(around) > 0 {
		longest = around[len(around)-1]
	}
	p, v, ok := x.Lookup(a)
	if p != longest || v != m[longest] || ok != (len(around) > 0) {
		t.Errorf("Lookup(%#x) of %v = %v, %d, %v", a, m, p, v, ok)
	}
}

// P401

func TestNewTableIsEmpty(t *testing.T) {
	x := trie.New()
	compare(t, x, model{}, slices.Concat(within(api.Prefix{}, 2), within(api.Prefix{Addr: top - 3, Len: 30}, 2)))
	if x.Delete(api.Prefix{}) {
		t.Error("Delete of an empty table is true")
	}
	x.Insert(api.Prefix{}, 1)
	compare(t, trie.New(), model{}, within(api.Prefix{}, 1))
}

func TestInsertOfOnePrefix(t *testing.T) {
	for _, s := range []string{"0.0.0.0/0", "0.0.0.0/1", "128.0.0.0/1", "10.0.0.0/8", "0.0.0.0/31", "0.0.0.0/32", "1.2.3.4/32", "255.255.255.255/32"} {
		for _, v := range []int{0, 1, -1, math.MinInt, math.MaxInt} {
			p := prefix(t, s)
			compare(t, table(t, api.TableEntry{Prefix: p, Value: v}), model{p: v}, slices.Concat(within(api.Prefix{}, 2), []api.Prefix{p}))
		}
	}
}

func TestInsertReplacesTheValue(t *testing.T) {
	p, q := prefix(t, "10.0.0.0/8"), prefix(t, "10.0.0.0/9")
	x := table(t, api.TableEntry{Prefix: p, Value: 1}, api.TableEntry{Prefix: q, Value: 2})
	for _, v := range []int{7, 7, 0, -5, 0, 3} {
		if !x.Insert(p, v) {
			t.Errorf("Insert of another value is false")
		}
		compare(t, x, model{p: v, q: 2}, []api.Prefix{p, q})
	}
}

func TestDeleteOfWhatIsNotThere(t *testing.T) {
	p := prefix(t, "10.0.0.0/8")
	for _, s := range []string{"0.0.0.0/0", "10.0.0.0/7", "10.0.0.0/9", "10.128.0.0/9", "11.0.0.0/8", "10.0.0.0/32", "0.0.0.0/8", "0.0.0.0/32"} {
		x := table(t, api.TableEntry{Prefix: p, Value: 4})
		if x.Delete(prefix(t, s)) {
			t.Errorf("Delete(%s) is true", s)
		}
		compare(t, x, model{p: 4}, []api.Prefix{p, prefix(t, s)})
	}
}

func TestDeleteAndInsertAgain(t *testing.T) {
	p, q := prefix(t, "10.0.0.0/8"), prefix(t, "10.1.0.0/16")
	for _, gone := range []api.Prefix{p, q} {
		m := model{p: 1, q: 2}
		x := table(t, m.entries()...)
		if !x.Delete(gone) {
			t.Errorf("Delete(%v) is false", gone)
		}
		delete(m, gone)
		compare(t, x, m, []api.Prefix{p, q})
		if x.Delete(gone) {
			t.Errorf("the second Delete(%v) is true", gone)
		}
		compare(t, x, m, []api.Prefix{p, q})
		if !x.Insert(gone, 0) {
			t.Errorf("Insert(%v) after Delete is false", gone)
		}
		m[gone] = 0
		compare(t, x, m, []api.Prefix{p, q})
	}
}

func TestPrefixesThatAreNotValid(t *testing.T) {
	full := model{}
	for n := range 33 {
		full[api.Prefix{Len: n}] = n
		full[addr.Network(top, n)] = n
		full[addr.Network(10<<24, n)] = n
	}
	for _, m := range []model{{}, full} {
		x := table(t, m.entries()...)
		for _, p := range invalid() {
			if x.Insert(p, 9) {
				t.Errorf("Insert(%v) is true", p)
			}
			if x.Delete(p) {
				t.Errorf("Delete(%v) is true", p)
			}
			if v, ok := x.Get(p); v != 0 || ok {
				t.Errorf("Get(%v) = %d, %v", p, v, ok)
			}
			if x.Len() != len(m) || !slices.Equal(x.Entries(), m.entries()) {
				t.Fatalf("%v changed the table", p)
			}
		}
	}
}

// P402

func TestLookupAndCoveringOfAllLengths(t *testing.T) {
	const a = 0xa5c3_0ff1
	var chain []api.Prefix
	m := model{}
	for n := range 33 {
		p := addr.Network(a, n)
		chain = append(chain, p)
		m[p] = 100 + n
	}
	x := table(t, m.entries()...)
	for n, want := range chain {
		other := uint32(a)
		if n < 32 {
			// The first n bits are those of a, and the next one is not.
			other ^= 1 << (31 - n)
		}
		if p, v, ok := x.Lookup(other); p != want || v != 100+n || !ok {
			t.Errorf("Lookup(%#x) = %v, %d, %v", other, p, v, ok)
		}
		if got := x.Covering(want); !slices.Equal(got, chain[:n+1]) {
			t.Errorf("Covering(%v) = %v", want, got)
		}
		if got := x.Covering(api.Prefix{Addr: other, Len: 32}); !slices.Equal(got, chain[:n+1]) {
			t.Errorf("Covering(%#x/32) = %v", other, got)
		}
	}
}

func TestLookupWithoutAMatch(t *testing.T) {
	x := table(t, numbered(t, "10.0.0.0/8", "0.0.0.1/32", "255.255.255.254/32", "128.0.0.0/32")...)
	for _, a := range []uint32{0, 2, 1<<24 - 1, 9<<24 | 0xffffff, 11 << 24, 1<<31 - 1, 1<<31 + 1, top - 2, top} {
		if p, v, ok := x.Lookup(a); p != (api.Prefix{}) || v != 0 || ok {
			t.Errorf("Lookup(%#x) = %v, %d, %v", a, p, v, ok)
		}
	}
}

func TestLookupWithTheValueZero(t *testing.T) {
	p, q := prefix(t, "10.0.0.0/8"), prefix(t, "10.1.0.0/16")
	x := table(t, api.TableEntry{Prefix: p, Value: 6}, api.TableEntry{Prefix: q})
	if r, v, ok := x.Lookup(10<<24 | 1<<16); r != q || v != 0 || !ok {
		t.Errorf("Lookup = %v, %d, %v", r, v, ok)
	}
}

func TestLookupOfTheFirstAndLastAddresses(t *testing.T) {
	x := table(t, numbered(t, "0.0.0.0/0", "10.4.0.0/14", "10.7.255.255/32")...)
	for _, c := range []struct{ a, want string }{
		{"10.3.255.255/32", "0.0.0.0/0"},
		{"10.4.0.0/32", "10.4.0.0/14"},
		{"10.7.255.254/32", "10.4.0.0/14"},
		{"10.7.255.255/32", "10.7.255.255/32"},
		{"10.8.0.0/32", "0.0.0.0/0"},
		{"0.0.0.0/32", "0.0.0.0/0"},
		{"255.255.255.255/32", "0.0.0.0/0"},
	} {
		if p, _, ok := x.Lookup(prefix(t, c.a).Addr); p != prefix(t, c.want) || !ok {
			t.Errorf("Lookup(%s) = %v, %v", c.a, p, ok)
		}
	}
}

func TestCoveringOfPrefixesThatAreNotValid(t *testing.T) {
	x := trie.New()
	for n := range 33 {
		x.Insert(api.Prefix{Len: n}, n)
		x.Insert(addr.Network(top, n), n)
		x.Insert(addr.Network(10<<24, n), n)
	}
	for _, p := range invalid() {
		if got := x.Covering(p); len(got) > 0 {
			t.Errorf("Covering(%v) = %v", p, got)
		}
	}
}

func TestEntriesAreAscending(t *testing.T) {
	sorted := []string{
		"0.0.0.0/0", "0.0.0.0/1", "0.0.0.0/32", "0.0.0.1/32", "10.0.0.0/7", "10.0.0.0/8", "10.0.0.0/32",
		"10.1.0.0/16", "127.255.255.255/32", "128.0.0.0/1", "128.0.0.0/32", "255.255.255.254/31", "255.255.255.255/32",
	}
	want := numbered(t, sorted...)
	backward := slices.Clone(want)
	slices.Reverse(backward)
	for _, l := range [][]api.TableEntry{want, backward} {
		if got := table(t, l...).Entries(); !slices.Equal(got, want) {
			t.Errorf("Entries = %v", got)
		}
	}
}

// One table goes through all sets of some prefixes, one prefix at a time.
func TestAllSetsOfPrefixes(t *testing.T) {
	for _, root := range []api.Prefix{{}, {Addr: 0xa5c3_0ff0, Len: 29}} {
		prefixes := within(root, 3)
		around := slices.Concat(prefixes, []api.Prefix{addr.Network(root.Addr, 28), addr.Network(root.Addr^8, 32)})
		x, m := trie.New(), model{}
		for step := 1; step < 1<<len(prefixes); step++ {
			p := prefixes[bits.TrailingZeros(uint(step))]
			if m.has(p) {
				delete(m, p)
				if !x.Delete(p) {
					t.Fatalf("Delete(%v) is false", p)
				}
			} else {
				m[p] = step
				if !x.Insert(p, step) {
					t.Fatalf("Insert(%v) is false", p)
				}
			}
			if compare(t, x, m, around); t.Failed() {
				return
			}
		}
	}
}

// P403

// orders calls f with all orders of l.
func orders(l []api.TableEntry, done int, f func([]api.TableEntry)) {
	if done == len(l) {
		f(l)
	}
	for i := done; i < len(l); i++ {
		l[done], l[i] = l[i], l[done]
		orders(l, done+1, f)
		l[done], l[i] = l[i], l[done]
	}
}

func TestOrderOfInsertions(t *testing.T) {
	for _, texts := range [][]string{
		{"0.0.0.0/0", "10.0.0.0/8", "10.0.0.0/9", "10.128.0.0/9", "10.0.0.0/32", "10.255.255.255/32"},
		{"10.0.0.0/7", "10.0.0.0/8", "11.0.0.0/8", "11.0.0.1/32", "12.0.0.0/8", "255.255.255.255/32"},
	} {
		entries := numbered(t, texts...)
		m := model{}
		var prefixes []api.Prefix
		for _, e := range entries {
			m[e.Prefix] = e.Value
			prefixes = append(prefixes, e.Prefix)
		}
		orders(entries, 0, func(l []api.TableEntry) {
			compare(t, table(t, l...), m, prefixes)
			compare(t, tableByDetours(t, l), m, prefixes)
		})
	}
}

// tableByDetours is a table of entries of which each one is inserted with
// another value at first, and the last ones are removed and inserted again.
func tableByDetours(t *testing.T, l []api.TableEntry) *trie.Table {
	t.Helper()
	x := trie.New()
	for _, e := range l {
		x.Insert(e.Prefix, -e.Value)
	}
	for i := range l {
		e := l[len(l)-1-i]
		if i < len(l)/2 {
			x.Delete(e.Prefix)
		}
		x.Insert(e.Prefix, e.Value)
	}
	return x
}

// A table keeps nothing of the prefixes that were deleted from it.
func TestNothingIsKeptOfDeletedPrefixes(t *testing.T) {
	entries := numbered(t, "0.0.0.0/0", "10.0.0.0/8", "10.0.0.0/9", "11.0.0.1/32", "255.255.255.255/32")
	orders(entries, 0, func(l []api.TableEntry) {
		x := table(t, l...)
		for i, e := range slices.Backward(l) {
			if !x.Delete(e.Prefix) {
				t.Fatalf("Delete(%v) is false", e.Prefix)
			}
			if !reflect.DeepEqual(x, table(t, l[:i]...)) {
				t.Fatalf("the table of %v without %v differs from a new one", l[:i+1], e.Prefix)
			}
		}
	})
}

// R1

func TestTablesOfManyPrefixes(t *testing.T) {
	const n = 1 << 14
	x := trie.New()
	for i := range uint32(n) {
		// An odd factor makes addresses that differ, all over the range.
		x.Insert(api.Prefix{Addr: i * 0x9e37_79b1, Len: 32}, int(i))
	}
	if x.Len() != n || len(x.Entries()) != n {
		t.Errorf("Len = %d", x.Len())
	}
	for i := range uint32(n) {
		a := i * 0x9e37_79b1
		if p, v, ok := x.Lookup(a); p != (api.Prefix{Addr: a, Len: 32}) || v != int(i) || !ok {
			t.Fatalf("Lookup(%#x) = %v, %d, %v", a, p, v, ok)
		}
		if !x.Delete(api.Prefix{Addr: a, Len: 32}) {
			t.Fatalf("Delete(%#x/32) is false", a)
		}
	}
	compare(t, x, model{}, []api.Prefix{{}})
}

// R2

func TestResultsAreNew(t *testing.T) {
	x := table(t, numbered(t, "0.0.0.0/0", "10.0.0.0/8", "10.1.0.0/16")...)
	p := prefix(t, "10.1.0.0/16")
	entries, covering := x.Entries(), x.Covering(p)
	wantEntries, wantCovering := slices.Clone(entries), slices.Clone(covering)
	for i := range entries {
		entries[i] = api.TableEntry{Prefix: api.Prefix{Addr: 1, Len: 32}, Value: 99}
	}
	clear(covering)
	if got := x.Entries(); !slices.Equal(got, wantEntries) {
		t.Errorf("Entries after a change of the result = %v", got)
	}
	if got := x.Covering(p); !slices.Equal(got, wantCovering) {
		t.Errorf("Covering after a change of the result = %v", got)
	}
	later := x.Entries()
	x.Insert(p, 50)
	x.Delete(api.Prefix{})
	if !slices.Equal(later, wantEntries) {
		t.Errorf("the result of Entries changed with the table: %v", later)
	}
}

func TestTablesAreIndependent(t *testing.T) {
	x, y := trie.New(), trie.New()
	p := prefix(t, "10.0.0.0/8")
	x.Insert(p, 1)
	y.Insert(p, 2)
	y.Insert(api.Prefix{}, 3)
	x.Delete(api.Prefix{})
	compare(t, x, model{p: 1}, []api.Prefix{{}, p})
	compare(t, y, model{p: 2, api.Prefix{}: 3}, []api.Prefix{{}, p})
}

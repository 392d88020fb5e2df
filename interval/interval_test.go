package interval_test

import (
	"math"
	"slices"
	"testing"

	"netverify/addr"
	"netverify/api"
	"netverify/interval"
)

const top = math.MaxUint32

// list is the list of the intervals with these bounds.
func list(bounds ...uint32) []api.Interval {
	var l []api.Interval
	for i := 0; i < len(bounds); i += 2 {
		l = append(l, api.Interval{Lo: bounds[i], Hi: bounds[i+1]})
	}
	return l
}

// A partition has the beginnings of cells that all numbers are divided into, in
// order. The first cell begins with 0. A set of cells is a number with the bits
// of these cells.
type partition []uint32

// partitions have single numbers and wide cells at both ends and in the middle.
func partitions() []partition {
	return []partition{
		{0, 1, 2, 3, 4},
		{0, 16, 32, 99, 65535},
		{0, top - 3, top - 2, top - 1, top},
		{0, 1<<31 - 2, 1<<31 - 1, 1 << 31, 1<<31 + 1},
		{0, 1, 1 << 31, top - 1, top},
	}
}

func (p partition) lo(cell int) uint32 {
	return p[cell]
}

func (p partition) hi(cell int) uint32 {
	if cell == len(p)-1 {
		return top
	}
	return p[cell+1] - 1
}

func (p partition) all() uint64 {
	return 1<<len(p) - 1
}

// An example is a list of intervals and the set of cells that it denotes.
type example struct {
	s     []api.Interval
	cells uint64
}

// examples are all lists of at most length intervals from the beginning of one
// cell to the end of another one, which may be an earlier one.
func (p partition) examples(length int) []example {
	all := []example{{}}
	for done := 0; length > 0; length-- {
		longer := all[done:]
		done = len(all)
		for _, x := range longer {
			for from := range p {
				for to := range p {
					s := append(slices.Clone(x.s), api.Interval{Lo: p.lo(from), Hi: p.hi(to)})
					cells := x.cells
					for c := from; c <= to; c++ {
						cells |= 1 << c
					}
					all = append(all, example{s, cells})
				}
			}
		}
	}
	return all
}

// canonical is the canonical list of a set of cells: its runs.
func (p partition) canonical(cells uint64) []api.Interval {
	var l []api.Interval
	for c := range p {
		if cells>>c&1 == 0 {
			continue
		}
		if c == 0 || cells>>(c-1)&1 == 0 {
			l = append(l, api.Interval{Lo: p.lo(c)})
		}
		l[len(l)-1].Hi = p.hi(c)
	}
	return l
}

func (p partition) size(cells uint64) uint64 {
	var n uint64
	for c := range p {
		if cells>>c&1 == 1 {
			n += uint64(p.hi(c)) - uint64(p.lo(c)) + 1
		}
	}
	return n
}

func check(t *testing.T, what string, got, want []api.Interval, arguments ...[]api.Interval) {
	t.Helper()
	if !slices.Equal(got, want) {
		t.Errorf("%s of %v = %v, want %v", what, arguments, got, want)
	}
}

// P301

func TestHasOfLists(t *testing.T) {
	for _, x := range []struct {
		s       []api.Interval
		in, out []uint32
	}{
		{nil, nil, []uint32{0, 1, top}},
		{list(0, 0), []uint32{0}, []uint32{1, top}},
		{list(top, top), []uint32{top}, []uint32{0, top - 1}},
		{list(0, top), []uint32{0, 1, 1 << 31, top}, nil},
		{list(5, 9), []uint32{5, 6, 8, 9}, []uint32{0, 4, 10, top}},
		{list(9, 5), nil, []uint32{4, 5, 7, 9, 10}},
		{list(1, 0), nil, []uint32{0, 1, 2}},
		{list(top, 0), nil, []uint32{0, 1, top}},
		{list(9, 5, 7, 7), []uint32{7}, []uint32{5, 6, 8, 9}},
		{list(7, 7, 9, 5), []uint32{7}, []uint32{5, 6, 8, 9}},
		{list(20, 30, 1, 2), []uint32{1, 2, 20, 30}, []uint32{0, 3, 19, 31}},
		{list(1, 9, 3, 4), []uint32{1, 2, 3, 5, 9}, []uint32{0, 10}},
		{list(1, 5, 4, 9, 4, 9), []uint32{1, 4, 5, 9}, []uint32{0, 10}},
	} {
		for _, n := range x.in {
			if !interval.Has(x.s, n) {
				t.Errorf("Has(%v, %d) is false", x.s, n)
			}
		}
		for _, n := range x.out {
			if interval.Has(x.s, n) {
				t.Errorf("Has(%v, %d) is true", x.s, n)
			}
		}
	}
}

func TestHasOfEveryShortList(t *testing.T) {
	for _, p := range partitions() {
		for _, x := range p.examples(2) {
			for c := range p {
				want := x.cells>>c&1 == 1
				if interval.Has(x.s, p.lo(c)) != want || interval.Has(x.s, p.hi(c)) != want {
					t.Errorf("Has(%v, %d or %d) is not %v", x.s, p.lo(c), p.hi(c), want)
				}
			}
		}
	}
}

// P302

func TestValidOfLists(t *testing.T) {
	for _, x := range []struct {
		s    []api.Interval
		want bool
	}{
		{nil, true},
		{[]api.Interval{}, true},
		{list(0, 0), true},
		{list(top, top), true},
		{list(0, top), true},
		{list(1, 0), false},
		{list(top, top-1), false},
		{list(1, 2, 4, 5), true},
		{list(1, 2, 3, 5), false},
		{list(1, 2, 2, 5), false},
		{list(1, 2, 1, 2), false},
		{list(4, 5, 1, 2), false},
		{list(1, 9, 3, 4), false},
		{list(1, 2, 9, 8), false},
		{list(9, 8, 11, 12), false},
		{list(1, 2, 4, 4, 6, 9), true},
		{list(1, 2, 4, 5, 6, 9), false},
		{list(1, 2, 4, 5, 2, 3), false},
		{list(0, 0, top, top), true},
		{list(0, top-2, top, top), true},
		{list(0, top-1, top, top), false},
		// One more than the end of the first interval must not become 0.
		{list(0, top, 0, 0), false},
		{list(0, top, 1, 1), false},
		{list(top, top, 1, 2), false},
		{list(top-1, top-1, 0, 0), false},
	} {
		if got := interval.Valid(x.s); got != x.want {
			t.Errorf("Valid(%v) is %v", x.s, got)
		}
	}
}

func TestNormalizeOfLists(t *testing.T) {
	for _, x := range []struct{ s, want []api.Interval }{
		{nil, nil},
		{[]api.Interval{}, nil},
		{list(1, 0), nil},
		{list(top, 0, 9, 8), nil},
		{list(1, 2), list(1, 2)},
		{list(1, 2, 4, 5), list(1, 2, 4, 5)},
		{list(4, 5, 1, 2), list(1, 2, 4, 5)},
		{list(1, 2, 3, 5), list(1, 5)},
		{list(3, 5, 1, 2), list(1, 5)},
		{list(1, 2, 2, 5), list(1, 5)},
		{list(1, 9, 3, 4), list(1, 9)},
		{list(1, 9, 3, 4, 8, 12), list(1, 12)},
		{list(1, 4, 1, 9, 1, 2), list(1, 9)},
		{list(1, 3, 7, 9, 4, 6), list(1, 9)},
		{list(5, 4, 7, 7), list(7, 7)},
		// An interval that denotes nothing joins nothing, wherever it stands.
		{list(1, 2, 3, 2, 4, 5), list(1, 2, 4, 5)},
		{list(1, 2, 9, 1, 4, 5), list(1, 2, 4, 5)},
		{list(0, top, 0, 0, top, top), list(0, top)},
		{list(top, top, 0, 0), list(0, 0, top, top)},
		{list(top, top, 0, top-1), list(0, top)},
		{list(top, top, 0, top-2), list(0, top-2, top, top)},
		{list(1<<31, top, 0, 1<<31-1), list(0, top)},
	} {
		got := interval.Normalize(x.s)
		check(t, "Normalize", got, x.want, x.s)
		if !interval.Valid(got) {
			t.Errorf("Normalize(%v) = %v, which is not canonical", x.s, got)
		}
	}
}

func TestCanonicalListsAreUnique(t *testing.T) {
	for _, p := range partitions() {
		for _, x := range p.examples(3) {
			want := p.canonical(x.cells)
			check(t, "Normalize", interval.Normalize(x.s), want, x.s)
			if got := interval.Valid(x.s); got != slices.Equal(x.s, want) {
				t.Errorf("Valid(%v) is %v", x.s, got)
			}
		}
	}
}

// P303

func TestOperationsOnLists(t *testing.T) {
	a, b := list(30, 40, 9, 3, 10, 20, 12, 21), list(35, 50, 0, 2, 15, 25)
	check(t, "Union", interval.Union(a, b), list(0, 2, 10, 25, 30, 50), a, b)
	check(t, "Intersect", interval.Intersect(a, b), list(15, 21, 35, 40), a, b)
	check(t, "Subtract", interval.Subtract(a, b), list(10, 14, 30, 34), a, b)
	check(t, "Subtract", interval.Subtract(b, a), list(0, 2, 22, 25, 41, 50), b, a)
	check(t, "Complement", interval.Complement(a), list(0, 9, 22, 29, 41, top), a)
	check(t, "Complement", interval.Complement(b), list(3, 14, 26, 34, 51, top), b)
}

func TestOperationsAtTheEnds(t *testing.T) {
	none, all, ends := list(1, 0), list(0, top), list(top, top, 0, 0)
	inner := list(1, top-1)
	check(t, "Union", interval.Union(nil, nil), nil)
	check(t, "Union", interval.Union(none, ends), list(0, 0, top, top), none, ends)
	check(t, "Union", interval.Union(ends, inner), all, ends, inner)
	check(t, "Intersect", interval.Intersect(all, ends), list(0, 0, top, top), all, ends)
	check(t, "Intersect", interval.Intersect(inner, ends), nil, inner, ends)
	check(t, "Intersect", interval.Intersect(all, all), all, all, all)
	check(t, "Intersect", interval.Intersect(all, none), nil, all, none)
	check(t, "Subtract", interval.Subtract(all, ends), inner, all, ends)
	check(t, "Subtract", interval.Subtract(all, none), all, all, none)
	check(t, "Subtract", interval.Subtract(all, all), nil, all, all)
	check(t, "Subtract", interval.Subtract(none, all), nil, none, all)
	check(t, "Complement", interval.Complement(nil), all)
	check(t, "Complement", interval.Complement(none), all, none)
	check(t, "Complement", interval.Complement(all), nil, all)
	check(t, "Complement", interval.Complement(ends), inner, ends)
	check(t, "Complement", interval.Complement(inner), list(0, 0, top, top), inner)
	check(t, "Complement", interval.Complement(list(0, 0)), list(1, top), list(0, 0))
	check(t, "Complement", interval.Complement(list(top, top)), list(0, top-1), list(top, top))
}

func TestOperationsOnEveryPairOfShortLists(t *testing.T) {
	for _, p := range partitions() {
		examples := p.examples(2)
		for _, a := range examples {
			for _, b := range examples {
				check(t, "Union", interval.Union(a.s, b.s), p.canonical(a.cells|b.cells), a.s, b.s)
				check(t, "Intersect", interval.Intersect(a.s, b.s), p.canonical(a.cells&b.cells), a.s, b.s)
				check(t, "Subtract", interval.Subtract(a.s, b.s), p.canonical(a.cells&^b.cells), a.s, b.s)
			}
		}
	}
}

func TestOperationsOnEveryPairOfSets(t *testing.T) {
	p := partition{0, 1, 7, 8, 20, 21, 500, top}
	for m := range p.all() + 1 {
		for n := range p.all() + 1 {
			a, b := p.canonical(m), p.canonical(n)
			check(t, "Union", interval.Union(a, b), p.canonical(m|n), a, b)
			check(t, "Intersect", interval.Intersect(a, b), p.canonical(m&n), a, b)
			check(t, "Subtract", interval.Subtract(a, b), p.canonical(m&^n), a, b)
		}
	}
}

func TestComplementAndSizeOfEveryShortList(t *testing.T) {
	for _, p := range partitions() {
		for _, x := range p.examples(3) {
			check(t, "Complement", interval.Complement(x.s), p.canonical(p.all()&^x.cells), x.s)
			if got := interval.Size(x.s); got != p.size(x.cells) {
				t.Errorf("Size(%v) = %d, want %d", x.s, got, p.size(x.cells))
			}
		}
	}
}

func TestSizeOfLists(t *testing.T) {
	for _, x := range []struct {
		s    []api.Interval
		want uint64
	}{
		{nil, 0},
		{list(1, 0), 0},
		{list(top, 0), 0},
		{list(0, 0), 1},
		{list(top, top), 1},
		{list(0, 0, top, top), 2},
		{list(3, 9), 7},
		{list(3, 9, 5, 4, 3, 9, 4, 5), 7},
		{list(3, 9, 8, 12), 10},
		{list(1, top), 1<<32 - 1},
		{list(0, top), 1 << 32},
		{list(0, top, 0, top, 5, 9), 1 << 32},
		{list(1<<31, top, 0, 1<<31-1), 1 << 32},
	} {
		if got := interval.Size(x.s); got != x.want {
			t.Errorf("Size(%v) = %d, want %d", x.s, got, x.want)
		}
	}
}

// P304

func TestOfPrefixes(t *testing.T) {
	for _, a := range []uint32{0, 1, 6, 0x55555555, 0xaaaaaaaa, 0x0a000001, 1<<31 - 1, 1 << 31, top - 1, top} {
		for n := 0; n <= 32; n++ {
			size := uint64(1) << (32 - n)
			lo := uint64(a) / size * size
			p := api.Prefix{Addr: uint32(lo), Len: n}
			got := interval.Of(p)
			if want := list(uint32(lo), uint32(lo+size-1)); !slices.Equal(got, want) {
				t.Errorf("Of(%v) = %v, want %v", p, got, want)
			}
			if back := interval.Prefixes(got); !slices.Equal(back, []api.Prefix{p}) {
				t.Errorf("Prefixes(Of(%v)) = %v", p, back)
			}
		}
	}
}

func TestPrefixesOfLists(t *testing.T) {
	for _, x := range []struct {
		s    []api.Interval
		want []string
	}{
		{nil, nil},
		{list(1, 0, top, 0), nil},
		{list(0, top), []string{"0.0.0.0/0"}},
		{list(0, 0), []string{"0.0.0.0/32"}},
		{list(top, top), []string{"255.255.255.255/32"}},
		{list(top, top, 0, 0), []string{"0.0.0.0/32", "255.255.255.255/32"}},
		{list(0, 1<<31-1), []string{"0.0.0.0/1"}},
		{list(1<<31, top), []string{"128.0.0.0/1"}},
		{list(1<<31-1, 1<<31), []string{"127.255.255.255/32", "128.0.0.0/32"}},
		{list(0, 4), []string{"0.0.0.0/30", "0.0.0.4/32"}},
		{list(3, 9), []string{"0.0.0.3/32", "0.0.0.4/30", "0.0.0.8/31"}},
		{list(4, 11), []string{"0.0.0.4/30", "0.0.0.8/30"}},
		{list(0x0a000000, 0x0affffff), []string{"10.0.0.0/8"}},
		{list(0x0a000001, 0x0a0000ff), []string{"10.0.0.1/32", "10.0.0.2/31", "10.0.0.4/30", "10.0.0.8/29", "10.0.0.16/28", "10.0.0.32/27", "10.0.0.64/26", "10.0.0.128/25"}},
		// Intervals that together make up a prefix give that prefix.
		{list(6, 7, 4, 5), []string{"0.0.0.4/30"}},
		{list(4, 4, 5, 6, 7, 7), []string{"0.0.0.4/30"}},
		{list(4, 6, 5, 7), []string{"0.0.0.4/30"}},
		{list(1<<31, top, 0, 1<<31-1), []string{"0.0.0.0/0"}},
		{list(0, 15, 2, 3), []string{"0.0.0.0/28"}},
		{list(8, 8, 0, 0, 4, 4), []string{"0.0.0.0/32", "0.0.0.4/32", "0.0.0.8/32"}},
	} {
		var got []string
		for _, p := range interval.Prefixes(x.s) {
			got = append(got, addr.FormatPrefix(p))
		}
		if !slices.Equal(got, x.want) {
			t.Errorf("Prefixes(%v) = %q, want %q", x.s, got, x.want)
		}
	}
}

// coverByHalves finds the prefixes within p in another way than package
// interval does: a prefix that is not whole in the set has its addresses
// covered in each half on its own.
func coverByHalves(s []api.Interval, p api.Prefix) []api.Prefix {
	lo, hi := p.Addr, p.Addr|uint32(1<<(32-p.Len)-1)
	touched := false
	for _, x := range s {
		if x.Lo <= lo && hi <= x.Hi {
			return []api.Prefix{p}
		}
		touched = touched || x.Lo <= hi && lo <= x.Hi
	}
	if !touched {
		return nil
	}
	left := api.Prefix{Addr: lo, Len: p.Len + 1}
	right := api.Prefix{Addr: lo | 1<<(31-p.Len), Len: p.Len + 1}
	return append(coverByHalves(s, left), coverByHalves(s, right)...)
}

func TestPrefixesAreTheFewest(t *testing.T) {
	for _, cell := range []struct{ first, size uint32 }{
		{0, 1}, {5, 1}, {top - 11, 1}, {1<<31 - 6, 1}, {0, 1 << 28}, {3 << 28, 1 << 28}, {0x0a000000, 24}, {1<<31 - 6, 1<<16 + 1},
	} {
		for m := range uint64(1 << 12) {
			var s []api.Interval
			for i := range uint32(12) {
				if m>>i&1 == 1 {
					lo := cell.first + i*cell.size
					s = append(s, api.Interval{Lo: lo, Hi: lo + cell.size - 1})
				}
			}
			want := coverByHalves(interval.Normalize(s), api.Prefix{})
			slices.Reverse(s)
			if got := interval.Prefixes(s); !slices.Equal(got, want) {
				t.Errorf("Prefixes(%v) = %v, want %v", s, got, want)
			}
		}
	}
}

func TestPrefixesOfLongIntervals(t *testing.T) {
	for i := range 32 {
		for k := range 32 {
			lo, hi := uint32(1)<<i-1, ^(uint32(1)<<k - 1)
			for _, s := range [][]api.Interval{list(lo, hi), list(lo, top), list(0, hi), list(lo+1, hi-1)} {
				want := coverByHalves(interval.Normalize(s), api.Prefix{})
				if got := interval.Prefixes(s); !slices.Equal(got, want) {
					t.Errorf("Prefixes(%v) = %v, want %v", s, got, want)
				}
			}
		}
	}
	if got := interval.Prefixes(list(1, top-1)); len(got) != 62 {
		t.Errorf("Prefixes of all numbers but the first and the last has %d prefixes, want 62", len(got))
	}
}

// R1

func TestOfInvalidPrefixesDoesNotPanic(t *testing.T) {
	for _, n := range []int{math.MinInt, -33, -32, -1, 0, 8, 31, 33, 64, 1 << 32, math.MaxInt} {
		for _, a := range []uint32{0, 1, 1 << 31, top} {
			interval.Of(api.Prefix{Addr: a, Len: n})
		}
	}
}

func TestLongLists(t *testing.T) {
	const n = 1 << 17
	var even, odd []api.Interval
	for i := range uint32(n) {
		// Multiplication by an odd number changes the order of the numbers.
		x := i * 40503 % n
		even = append(even, api.Interval{Lo: 2 * x, Hi: 2 * x})
		odd = append(odd, api.Interval{Lo: 2*x + 1, Hi: 2*x + 1})
	}
	if got := interval.Normalize(even); len(got) != n || !interval.Valid(got) {
		t.Errorf("Normalize of %d single numbers has %d intervals", n, len(got))
	}
	if got := interval.Complement(even); len(got) != n || got[n-1] != (api.Interval{Lo: 2*n - 1, Hi: top}) {
		t.Errorf("Complement of %d single numbers has %d intervals", n, len(got))
	}
	if got := interval.Prefixes(even); len(got) != n || got[1] != (api.Prefix{Addr: 2, Len: 32}) {
		t.Errorf("Prefixes of %d single numbers has %d prefixes", n, len(got))
	}
	if got := interval.Size(slices.Concat(even, even, odd)); got != 2*n {
		t.Errorf("Size of %d numbers is %d", 2*n, got)
	}
	if got := interval.Subtract(even, odd); len(got) != n {
		t.Errorf("Subtract of %d single numbers has %d intervals", n, len(got))
	}
	if got := interval.Prefixes(slices.Concat(odd, even)); !slices.Equal(got, []api.Prefix{{Addr: 0, Len: 14}}) {
		t.Errorf("Prefixes of %d numbers in a row = %v", 2*n, got)
	}
	check(t, "Union", interval.Union(even, odd), list(0, 2*n-1))
	check(t, "Intersect", interval.Intersect(even, odd), nil)
}

// R2

func TestArgumentsAndResultsAreApart(t *testing.T) {
	operations := map[string]func(a, b []api.Interval) []api.Interval{
		"Union":      interval.Union,
		"Intersect":  interval.Intersect,
		"Subtract":   interval.Subtract,
		"Normalize":  func(a, _ []api.Interval) []api.Interval { return interval.Normalize(a) },
		"Complement": func(a, _ []api.Interval) []api.Interval { return interval.Complement(a) },
		"others": func(a, b []api.Interval) []api.Interval {
			interval.Valid(a)
			interval.Size(a)
			interval.Prefixes(a)
			interval.Has(a, 9)
			return nil
		},
	}
	for what, f := range operations {
		for _, bounds := range [][]uint32{nil, {4, 5}, {9, 9, 4, 6}, {4, 5, 9, 9}, {8, 7, 4, 6, 5, 9}} {
			// The arguments have room behind them, which is not theirs to change.
			room := slices.Concat(list(bounds...), list(1, 2, 9, 9))
			a := room[:len(room)-2]
			b := slices.Concat(list(0, 4), a, list(20, top))
			roomBefore, bBefore := slices.Clone(room), slices.Clone(b)
			got := f(a, b)
			for i := range got {
				got[i] = api.Interval{Lo: 77, Hi: 77}
			}
			if !slices.Equal(room, roomBefore) || !slices.Equal(b, bBefore) {
				t.Errorf("%s changed its arguments %v, %v or returned a part of them", what, roomBefore, bBefore)
			}
			again := f(a, b)
			got = append(got, list(88, 88)...)
			if slices.Contains(again, api.Interval{Lo: 77, Hi: 77}) || slices.Contains(again, api.Interval{Lo: 88, Hi: 88}) {
				t.Errorf("two results of %s share memory", what)
			}
		}
	}
}

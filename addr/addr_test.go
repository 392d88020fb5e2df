package addr_test

import (
	"math"
	"slices"
	"strconv"
	"strings"
	"testing"

	"netverify/addr"
	"netverify/api"
)

// texts calls f with every string of at most length bytes of alphabet.
func texts(alphabet string, length int, f func(string)) {
	var extend func(string)
	extend = func(s string) {
		f(s)
		if len(s) == length {
			return
		}
		for i := range len(alphabet) {
			extend(s + alphabet[i:i+1])
		}
	}
	extend("")
}

// quad is the address of four numbers.
func quad(a, b, c, d uint32) uint32 {
	return a*16777216 + b*65536 + c*256 + d
}

// samples are addresses with ordinary and with extreme bits.
func samples() []uint32 {
	list := []uint32{0, math.MaxUint32, 0x55555555, 0xaaaaaaaa, 0x12345678, 0xdeadbeef, quad(10, 0, 0, 1), quad(192, 168, 255, 0)}
	for i := range 32 {
		list = append(list, 1<<i, 1<<i-1, ^uint32(1<<i))
	}
	return list
}

// lengths are numbers in and out of the range of a prefix length.
func lengths() []int {
	list := []int{math.MinInt, math.MinInt + 1, math.MinInt32, -33, -32, -2, -1, 33, 34, 63, 64, 65, 96, 256, 1 << 32, 1<<32 + 8, math.MaxInt32, math.MaxInt - 1, math.MaxInt}
	for n := 0; n <= 32; n++ {
		list = append(list, n)
	}
	return list
}

// bit returns bit i of a, counted from the most significant one.
func bit(a uint32, i int) uint32 {
	return a / (1 << (31 - i)) % 2
}

// maskByBits finds a mask in another way than package addr does: bit by bit.
func maskByBits(n int) uint32 {
	var m uint32
	for i := range 32 {
		m *= 2
		if i < n {
			m++
		}
	}
	return m
}

// P201

func TestParseOfAddresses(t *testing.T) {
	for s, want := range map[string]uint32{
		"0.0.0.0":         0,
		"0.0.0.1":         1,
		"0.0.1.0":         256,
		"0.1.0.0":         65536,
		"1.0.0.0":         16777216,
		"1.2.3.4":         16909060,
		"10.0.0.1":        167772161,
		"127.255.255.255": 2147483647,
		"128.0.0.0":       2147483648,
		"192.168.100.9":   3232261129,
		"255.255.255.255": 4294967295,
	} {
		if a, ok := addr.Parse(s); a != want || !ok {
			t.Errorf("Parse(%q) = %d, %v, want %d", s, a, ok, want)
		}
		if got := addr.Format(want); got != s {
			t.Errorf("Format(%d) = %q, want %q", want, got, s)
		}
	}
}

func TestParseRefusesOtherTexts(t *testing.T) {
	for _, s := range []string{
		"", ".", "...", "....", "1", "1.", "1.2", "1.2.3", "1.2.3.", ".2.3.4", "1..3.4", "1.2..4", "1..2.3.4",
		"1.2.3.4.", ".1.2.3.4", "1.2.3.4.5", "1.2.3.4.5.6",
		"256.2.3.4", "1.256.3.4", "1.2.256.4", "1.2.3.256", "1.2.3.999", "1.2.3.4294967296", "1.2.3.18446744073709551616",
		"00.2.3.4", "01.2.3.4", "1.02.3.4", "1.2.003.4", "1.2.3.04", "1.2.3.00",
		"-1.2.3.4", "1.-2.3.4", "1.2.3.-4", "+1.2.3.4", "1.2.3.+4", "-0.0.0.0",
		" 1.2.3.4", "1.2.3.4 ", "1. 2.3.4", "1.2 .3.4", "1.2.3.4\n", "\t1.2.3.4", "1.2.3.4\x00",
		"a.2.3.4", "1.2.3.d", "1.2.3.f4", "0x1.2.3.4", "1.2.3.4a", "1,2,3,4", "1:2:3:4", "1.2.3,4",
		"1.2.3.4/32", "1.2.3.4/", "16909060", "::1", "::ffff:1.2.3.4", "1.2.3.\u0664", "1.2.3.\xff",
	} {
		if a, ok := addr.Parse(s); a != 0 || ok {
			t.Errorf("Parse(%q) = %d, %v, want 0, false", s, a, ok)
		}
	}
}

// parseByAtoi finds an address in another way than package addr does: it
// splits the text, and compares each number with what is written for it.
func parseByAtoi(s string) (uint32, bool) {
	l := strings.Split(s, ".")
	if len(l) != 4 {
		return 0, false
	}
	var a uint32
	for _, part := range l {
		n, err := strconv.Atoi(part)
		if err != nil || n < 0 || n > 255 || strconv.Itoa(n) != part {
			return 0, false
		}
		a = a*256 + uint32(n)
	}
	return a, true
}

func TestParseOfShortTexts(t *testing.T) {
	texts("012. ", 8, func(s string) {
		want, wantOK := parseByAtoi(s)
		if a, ok := addr.Parse(s); a != want || ok != wantOK {
			t.Errorf("Parse(%q) = %d, %v, want %d, %v", s, a, ok, want, wantOK)
		}
	})
}

func TestParseOfEveryNumberInEveryPlace(t *testing.T) {
	for place := range 4 {
		for n := range 1000 {
			l := []string{"9", "9", "9", "9"}
			l[place] = strconv.Itoa(n)
			s := strings.Join(l, ".")
			want, wantOK := parseByAtoi(s)
			if a, ok := addr.Parse(s); a != want || ok != wantOK || ok != (n <= 255) {
				t.Errorf("Parse(%q) = %d, %v, want %d, %v", s, a, ok, want, wantOK)
			}
			if wantOK && addr.Format(want) != s {
				t.Errorf("Format(%d) = %q, want %q", want, addr.Format(want), s)
			}
		}
	}
}

func TestParseOfEveryByteInEveryPlace(t *testing.T) {
	const s = "10.20.3.40"
	for at := range len(s) {
		for c := range 256 {
			text := s[:at] + string([]byte{byte(c)}) + s[at+1:]
			want, wantOK := parseByAtoi(text)
			if a, ok := addr.Parse(text); a != want || ok != wantOK {
				t.Errorf("Parse(%q) = %d, %v, want %d, %v", text, a, ok, want, wantOK)
			}
		}
	}
}

func TestParseOfLongTexts(t *testing.T) {
	for _, s := range []string{strings.Repeat(".", 1<<20), strings.Repeat("1.", 1<<20), strings.Repeat("1", 1<<20), "1.2.3." + strings.Repeat("0", 1<<20), strings.Repeat("0", 1<<20) + "1.2.3.4"} {
		if a, ok := addr.Parse(s); a != 0 || ok {
			t.Errorf("Parse of a text of %d bytes = %d, %v", len(s), a, ok)
		}
	}
}

func TestAddressesRoundTrip(t *testing.T) {
	for _, want := range samples() {
		s := addr.Format(want)
		if a, ok := addr.Parse(s); a != want || !ok {
			t.Errorf("Parse(Format(%d)) = Parse(%q) = %d, %v", want, s, a, ok)
		}
	}
}

// P202

func TestMaskOfLengths(t *testing.T) {
	for n, want := range map[int]uint32{0: 0, 1: 0x80000000, 2: 0xc0000000, 7: 0xfe000000, 8: 0xff000000, 9: 0xff800000, 16: 0xffff0000, 24: 0xffffff00, 30: 0xfffffffc, 31: 0xfffffffe, 32: 0xffffffff} {
		if m := addr.Mask(n); m != want {
			t.Errorf("Mask(%d) = %x, want %x", n, m, want)
		}
	}
	for _, n := range lengths() {
		if m := addr.Mask(n); m != maskByBits(n) {
			t.Errorf("Mask(%d) = %x, want %x", n, m, maskByBits(n))
		}
	}
}

func TestMaskLenOfMasks(t *testing.T) {
	for n := 0; n <= 32; n++ {
		m := maskByBits(n)
		if got, ok := addr.MaskLen(m); got != n || !ok {
			t.Errorf("MaskLen(%x) = %d, %v, want %d", m, got, ok, n)
		}
	}
}

func TestMaskLenRefusesOtherNumbers(t *testing.T) {
	masks := map[uint32]int{}
	for n := 0; n <= 32; n++ {
		masks[maskByBits(n)] = n
	}
	check := func(m uint32) {
		want, wantOK := masks[m]
		if n, ok := addr.MaskLen(m); n != want || ok != wantOK {
			t.Errorf("MaskLen(%x) = %d, %v, want %d, %v", m, n, ok, want, wantOK)
		}
	}
	for _, m := range samples() {
		check(m)
	}
	// All halves beside halves that are extreme, and all masks with one or two
	// bits turned.
	for m := range uint32(65536) {
		check(m)
		check(m * 65536)
		check(m*65536 + 65535)
		check(m + 0xffff0000)
	}
	for n := 0; n <= 32; n++ {
		for i := range 32 {
			for k := range 32 {
				check(maskByBits(n) ^ 1<<i)
				check(maskByBits(n) ^ 1<<i ^ 1<<k)
			}
		}
	}
}

// P203

func TestValidOfPrefixes(t *testing.T) {
	for _, x := range []struct {
		a    uint32
		n    int
		want bool
	}{
		{0, 0, true},
		{1, 0, false},
		{0x80000000, 0, false},
		{0x80000000, 1, true},
		{0x40000000, 1, false},
		{0, 1, true},
		{quad(10, 0, 0, 0), 8, true},
		{quad(10, 0, 0, 0), 7, true},
		{quad(10, 0, 0, 0), 6, false},
		{quad(10, 1, 0, 0), 8, false},
		{quad(10, 0, 0, 1), 31, false},
		{quad(10, 0, 0, 1), 32, true},
		{math.MaxUint32, 32, true},
		{math.MaxUint32, 31, false},
		{0, 32, true},
		{0, 33, false},
		{math.MaxUint32, 33, false},
		{0, -1, false},
		{0, math.MinInt, false},
		{0, math.MaxInt, false},
		{0, 1 << 32, false},
	} {
		if got := addr.Valid(api.Prefix{Addr: x.a, Len: x.n}); got != x.want {
			t.Errorf("Valid(%s, %d) is %v", addr.Format(x.a), x.n, got)
		}
	}
}

func TestValidLooksAtEveryBit(t *testing.T) {
	for _, a := range samples() {
		for _, n := range lengths() {
			want := n >= 0 && n <= 32
			for i := max(0, n); i < 32; i++ {
				want = want && bit(a, i) == 0
			}
			if got := addr.Valid(api.Prefix{Addr: a, Len: n}); got != want {
				t.Errorf("Valid(%x, %d) is %v", a, n, got)
			}
		}
	}
}

func TestNetworkOfAddresses(t *testing.T) {
	for _, x := range []struct {
		a    uint32
		n    int
		want api.Prefix
	}{
		{quad(10, 1, 2, 3), 8, api.Prefix{Addr: quad(10, 0, 0, 0), Len: 8}},
		{quad(10, 1, 2, 3), 24, api.Prefix{Addr: quad(10, 1, 2, 0), Len: 24}},
		{quad(10, 1, 2, 3), 31, api.Prefix{Addr: quad(10, 1, 2, 2), Len: 31}},
		{quad(10, 1, 2, 3), 32, api.Prefix{Addr: quad(10, 1, 2, 3), Len: 32}},
		{quad(10, 1, 2, 3), 33, api.Prefix{Addr: quad(10, 1, 2, 3), Len: 32}},
		{quad(10, 1, 2, 3), math.MaxInt, api.Prefix{Addr: quad(10, 1, 2, 3), Len: 32}},
		{math.MaxUint32, 1, api.Prefix{Addr: 1 << 31, Len: 1}},
		{math.MaxUint32, 0, api.Prefix{}},
		{math.MaxUint32, -1, api.Prefix{}},
		{math.MaxUint32, math.MinInt, api.Prefix{}},
	} {
		if got := addr.Network(x.a, x.n); got != x.want {
			t.Errorf("Network(%s, %d) = %v, want %v", addr.Format(x.a), x.n, got, x.want)
		}
	}
}

func TestNetworkContainsItsAddress(t *testing.T) {
	for _, a := range samples() {
		for _, n := range lengths() {
			p := addr.Network(a, n)
			if p.Len != min(max(n, 0), 32) || !addr.Valid(p) {
				t.Errorf("Network(%x, %d) = %v", a, n, p)
			}
			for i := range p.Len {
				if bit(p.Addr, i) != bit(a, i) {
					t.Errorf("Network(%x, %d) = %v: bit %d", a, n, p, i)
				}
			}
			if !addr.Contains(p, a) {
				t.Errorf("Network(%x, %d) = %v does not contain the address", a, n, p)
			}
		}
	}
}

// P204

func TestHostTexts(t *testing.T) {
	for _, x := range []struct {
		s      string
		a      uint32
		n      int
		prefix bool
	}{
		{"0.0.0.0/0", 0, 0, true},
		{"0.0.0.0/32", 0, 32, true},
		{"0.0.0.1/0", 1, 0, false},
		{"128.0.0.0/1", 1 << 31, 1, true},
		{"64.0.0.0/1", 1 << 30, 1, false},
		{"10.0.0.0/8", quad(10, 0, 0, 0), 8, true},
		{"10.0.0.1/8", quad(10, 0, 0, 1), 8, false},
		{"10.0.0.1/24", quad(10, 0, 0, 1), 24, false},
		{"10.0.0.1/31", quad(10, 0, 0, 1), 31, false},
		{"10.0.0.1/32", quad(10, 0, 0, 1), 32, true},
		{"255.255.255.255/32", math.MaxUint32, 32, true},
		{"255.255.255.255/31", math.MaxUint32, 31, false},
		{"255.255.255.254/31", math.MaxUint32 - 1, 31, true},
	} {
		if a, n, ok := addr.ParseHost(x.s); a != x.a || n != x.n || !ok {
			t.Errorf("ParseHost(%q) = %d, %d, %v", x.s, a, n, ok)
		}
		if got := addr.FormatHost(x.a, x.n); got != x.s {
			t.Errorf("FormatHost(%d, %d) = %q, want %q", x.a, x.n, got, x.s)
		}
		want, text := api.Prefix{}, ""
		if x.prefix {
			want, text = api.Prefix{Addr: x.a, Len: x.n}, x.s
		}
		if p, ok := addr.ParsePrefix(x.s); p != want || ok != x.prefix {
			t.Errorf("ParsePrefix(%q) = %v, %v, want %v, %v", x.s, p, ok, want, x.prefix)
		}
		if got := addr.FormatPrefix(api.Prefix{Addr: x.a, Len: x.n}); got != text {
			t.Errorf("FormatPrefix of %s = %q, want %q", x.s, got, text)
		}
	}
}

func TestHostsAndPrefixesRefuseOtherTexts(t *testing.T) {
	for _, s := range []string{
		"", "/", "//", "0", "0.0.0.0", "/0", "/8", "0.0.0.0/", "0.0.0.0//0", "0.0.0.0/0/", "0.0.0.0/0/0", "/0.0.0.0/0", "0/0.0.0.0",
		"0.0.0.0/33", "0.0.0.0/99", "0.0.0.0/00", "0.0.0.0/08", "0.0.0.0/032", "0.0.0.0/-0", "0.0.0.0/-1", "0.0.0.0/+8", "0.0.0.0/4294967296", "0.0.0.0/18446744073709551616",
		"0.0.0.0 /8", "0.0.0.0/ 8", " 0.0.0.0/8", "0.0.0.0/8 ", "0.0.0.0/8\n", "0.0.0.0/8;", "0.0.0.0/a", "0.0.0.0/8a", "0.0.0.0/\xff",
		"0.0.0/8", "0.0.0.0.0/8", "0.0.0./8", "256.0.0.0/8", "00.0.0.0/8", "0.0.0.0\\8", "0.0.0.0/255.0.0.0", "0.0.0.0:8",
	} {
		if a, n, ok := addr.ParseHost(s); a != 0 || n != 0 || ok {
			t.Errorf("ParseHost(%q) = %d, %d, %v, want 0, 0, false", s, a, n, ok)
		}
		if p, ok := addr.ParsePrefix(s); p != (api.Prefix{}) || ok {
			t.Errorf("ParsePrefix(%q) = %v, %v, want none", s, p, ok)
		}
	}
}

func TestParseHostOfEveryByteInEveryPlace(t *testing.T) {
	const s = "10.20.3.40/21"
	for at := range len(s) {
		for c := range 256 {
			text := s[:at] + string([]byte{byte(c)}) + s[at+1:]
			l := strings.Split(text, "/")
			a, n, ok := addr.ParseHost(text)
			if len(l) != 2 {
				if a != 0 || n != 0 || ok {
					t.Errorf("ParseHost(%q) = %d, %d, %v", text, a, n, ok)
				}
				continue
			}
			want, wantOK := parseByAtoi(l[0])
			length, err := strconv.Atoi(l[1])
			wantOK = wantOK && err == nil && length >= 0 && length <= 32 && strconv.Itoa(length) == l[1]
			if !wantOK {
				want, length = 0, 0
			}
			if a != want || n != length || ok != wantOK {
				t.Errorf("ParseHost(%q) = %d, %d, %v, want %d, %d, %v", text, a, n, ok, want, length, wantOK)
			}
		}
	}
}

func TestFormatOfEveryLength(t *testing.T) {
	for _, a := range samples() {
		for _, n := range lengths() {
			inside := n >= 0 && n <= 32
			want := ""
			if inside {
				want = addr.Format(a) + "/" + strconv.Itoa(n)
			}
			if got := addr.FormatHost(a, n); got != want {
				t.Errorf("FormatHost(%x, %d) = %q, want %q", a, n, got, want)
			}
			if b, k, ok := addr.ParseHost(want); ok != inside || inside && (b != a || k != n) {
				t.Errorf("ParseHost(%q) = %d, %d, %v", want, b, k, ok)
			}
			valid := inside && uint64(a)%(1<<(32-n)) == 0
			p := api.Prefix{Addr: a, Len: n}
			if !valid {
				want = ""
			}
			if got := addr.FormatPrefix(p); got != want {
				t.Errorf("FormatPrefix(%v) = %q, want %q", p, got, want)
			}
			if q, ok := addr.ParsePrefix(addr.FormatHost(a, n)); ok != valid || valid && q != p || !valid && q != (api.Prefix{}) {
				t.Errorf("ParsePrefix of %x, %d = %v, %v", a, n, q, ok)
			}
		}
	}
}

// P205

// cells are addresses of which the first or the last six bits vary, and the
// prefixes that consist of such addresses: each prefix of lengths 0 to 6 stands
// for the cells with its first bits.
func cells(high bool) ([]uint32, []api.Prefix) {
	var addresses []uint32
	var prefixes []api.Prefix
	step, first, base := uint32(1), 26, quad(10, 20, 30, 64)
	if high {
		step, first, base = 1<<26, 0, 0
	}
	for i := range uint32(64) {
		addresses = append(addresses, base+i*step)
	}
	for n := 0; n <= 6; n++ {
		for i := uint32(0); i < 64; i += 64 >> n {
			prefixes = append(prefixes, api.Prefix{Addr: base + i*step, Len: first + n})
		}
	}
	return addresses, prefixes
}

// members are the indices of the first and last cell of p.
func members(p api.Prefix, addresses []uint32) (int, int) {
	first := slices.Index(addresses, p.Addr)
	size := 64 >> (p.Len % 26)
	return first, first + size - 1
}

func TestRelationsOfSmallPrefixes(t *testing.T) {
	for _, high := range []bool{false, true} {
		addresses, prefixes := cells(high)
		for _, p := range prefixes {
			first, last := members(p, addresses)
			for i, a := range addresses {
				if got := addr.Contains(p, a); got != (first <= i && i <= last) {
					t.Errorf("Contains(%v, %x) is %v", p, a, got)
				}
			}
			for _, q := range prefixes {
				from, to := members(q, addresses)
				if got := addr.Covers(p, q); got != (first <= from && to <= last) {
					t.Errorf("Covers(%v, %v) is %v", p, q, got)
				}
				if got := addr.Overlaps(p, q); got != (max(first, from) <= min(last, to)) {
					t.Errorf("Overlaps(%v, %v) is %v", p, q, got)
				}
			}
		}
	}
}

func TestContainsComparesTheFirstBits(t *testing.T) {
	for _, a := range samples() {
		for n := 0; n <= 32; n++ {
			p := addr.Network(a, n)
			for i := range 32 {
				// Turning a bit leads out of p exactly if it is one of the first n.
				if got := addr.Contains(p, a^1<<(31-i)); got != (i >= n) {
					t.Errorf("Contains(%v, %x with bit %d turned) is %v", p, a, i, got)
				}
			}
		}
	}
}

func TestRelationsOfNestedPrefixes(t *testing.T) {
	for _, a := range samples() {
		for n := 0; n <= 32; n++ {
			for k := 0; k <= 32; k++ {
				p, q := addr.Network(a, n), addr.Network(a, k)
				if addr.Covers(p, q) != (n <= k) || !addr.Overlaps(p, q) {
					t.Errorf("Covers or Overlaps of %v and %v is wrong", p, q)
				}
				if n == 0 || k == 0 {
					continue
				}
				other := addr.Network(^a, k)
				if addr.Covers(p, other) || addr.Covers(other, p) || addr.Overlaps(p, other) {
					t.Errorf("Covers or Overlaps of %v and %v, which are disjoint, is wrong", p, other)
				}
			}
		}
	}
}

func TestLastAndHalves(t *testing.T) {
	for s, want := range map[string]string{
		"0.0.0.0/0":          "255.255.255.255 0.0.0.0/1 128.0.0.0/1",
		"0.0.0.0/1":          "127.255.255.255 0.0.0.0/2 64.0.0.0/2",
		"128.0.0.0/1":        "255.255.255.255 128.0.0.0/2 192.0.0.0/2",
		"10.0.0.0/8":         "10.255.255.255 10.0.0.0/9 10.128.0.0/9",
		"10.4.0.0/14":        "10.7.255.255 10.4.0.0/15 10.6.0.0/15",
		"10.0.1.0/24":        "10.0.1.255 10.0.1.0/25 10.0.1.128/25",
		"10.0.1.6/31":        "10.0.1.7 10.0.1.6/32 10.0.1.7/32",
		"255.255.255.254/31": "255.255.255.255 255.255.255.254/32 255.255.255.255/32",
	} {
		p, ok := addr.ParsePrefix(s)
		if !ok {
			t.Fatalf("ParsePrefix(%q) failed", s)
		}
		lo, hi, ok := addr.Halves(p)
		got := addr.Format(addr.Last(p)) + " " + addr.FormatPrefix(lo) + " " + addr.FormatPrefix(hi)
		if !ok || got != want {
			t.Errorf("Last and Halves of %s are %s, %v, want %s", s, got, ok, want)
		}
	}
}

func TestHalvesMakeUpThePrefix(t *testing.T) {
	for _, a := range samples() {
		for n := 0; n < 32; n++ {
			p := addr.Network(a, n)
			size := uint64(1) << (32 - n)
			if got := uint64(addr.Last(p)) - uint64(p.Addr) + 1; got != size {
				t.Errorf("from the first to the last address of %v there are %d, want %d", p, got, size)
			}
			lo, hi, ok := addr.Halves(p)
			want := api.Prefix{Addr: p.Addr, Len: n + 1}
			if !ok || lo != want || hi.Len != n+1 || uint64(hi.Addr) != uint64(p.Addr)+size/2 || addr.Last(hi) != addr.Last(p) {
				t.Errorf("Halves(%v) = %v, %v, %v", p, lo, hi, ok)
			}
		}
	}
}

func TestSingleAddresses(t *testing.T) {
	for _, a := range samples() {
		p := api.Prefix{Addr: a, Len: 32}
		if addr.Last(p) != a || !addr.Contains(p, a) || addr.Contains(p, a+1) || addr.Contains(p, a-1) {
			t.Errorf("Last or Contains of %v is wrong", p)
		}
		if lo, hi, ok := addr.Halves(p); ok || lo != (api.Prefix{}) || hi != (api.Prefix{}) {
			t.Errorf("Halves(%v) = %v, %v, %v, want none", p, lo, hi, ok)
		}
	}
}

// P206

func TestCompareOfPrefixes(t *testing.T) {
	ordered := []api.Prefix{
		{Addr: 0, Len: math.MinInt},
		{Addr: 0, Len: -1},
		{Addr: 0, Len: 0},
		{Addr: 0, Len: 1},
		{Addr: 0, Len: 32},
		{Addr: 0, Len: math.MaxInt},
		{Addr: 1, Len: math.MinInt},
		{Addr: 1, Len: 0},
		{Addr: 1, Len: 32},
		{Addr: quad(10, 0, 0, 0), Len: 8},
		{Addr: quad(10, 0, 0, 0), Len: 9},
		{Addr: quad(10, 0, 1, 0), Len: 7},
		{Addr: 1<<31 - 1, Len: 99},
		{Addr: 1 << 31, Len: 1},
		{Addr: math.MaxUint32, Len: math.MinInt},
		{Addr: math.MaxUint32, Len: 32},
		{Addr: math.MaxUint32, Len: math.MaxInt},
	}
	for i, p := range ordered {
		for k, q := range ordered {
			want := 0
			if i < k {
				want = -1
			}
			if i > k {
				want = 1
			}
			if got := addr.Compare(p, q); got != want {
				t.Errorf("Compare(%v, %v) = %d, want %d", p, q, got, want)
			}
		}
	}
}

// R1

func TestInvalidPrefixesDoNotPanic(t *testing.T) {
	for _, a := range samples() {
		for _, n := range lengths() {
			p := api.Prefix{Addr: a, Len: n}
			addr.Last(p)
			addr.Halves(p)
			addr.Contains(p, a)
			for _, k := range lengths() {
				q := api.Prefix{Addr: ^a, Len: k}
				addr.Covers(p, q)
				addr.Overlaps(p, q)
				addr.Compare(p, q)
			}
		}
	}
}

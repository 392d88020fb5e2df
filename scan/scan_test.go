package scan_test

import (
	"math"
	"slices"
	"strconv"
	"strings"
	"testing"

	"netverify/api"
	"netverify/scan"
)

// texts calls f with every string of at most length bytes of alphabet.
func texts(alphabet string, length int, f func(string)) {
	var extend func(string)
	extend = func(s string) {
		f(s)
		if len(s) == length {
			return
		}
		for i := range len(alphabet) {
			extend(s + alphabet[i:i+1])
		}
	}
	extend("")
}

func isLetter(c int) bool {
	return c >= 65 && c <= 90 || c >= 97 && c <= 122
}

// P101

func TestLinesOfTexts(t *testing.T) {
	for _, x := range []struct {
		text string
		want []string
	}{
		{"", nil},
		{"\n", []string{""}},
		{"\n\n", []string{"", ""}},
		{"a", []string{"a"}},
		{"a\n", []string{"a"}},
		{"a\n\n", []string{"a", ""}},
		{"\na", []string{"", "a"}},
		{"a\nb", []string{"a", "b"}},
		{"a\n\nb\n", []string{"a", "", "b"}},
		{" ", []string{" "}},
		{"a\n ", []string{"a", " "}},
		{"\t a \t\nb~", []string{"\t a \t", "b~"}},
		{"# not a comment here\n", []string{"# not a comment here"}},
	} {
		got, e := scan.Lines(x.text)
		if e != api.OK || !slices.Equal(got, x.want) {
			t.Errorf("Lines(%q) = %q, %d, want %q", x.text, got, e, x.want)
		}
	}
}

func TestLinesEndWithLineFeeds(t *testing.T) {
	texts("a\n\t ", 6, func(s string) {
		want := strings.Split(s, "\n")
		if want[len(want)-1] == "" {
			want = want[:len(want)-1]
		}
		got, e := scan.Lines(s)
		if e != api.OK || !slices.Equal(got, want) {
			t.Errorf("Lines(%q) = %q, %d, want %q", s, got, e, want)
		}
	})
}

func TestLinesChecksEveryByte(t *testing.T) {
	for c := range 256 {
		allowed := c == 9 || c == 10 || c >= 32 && c <= 126
		b := string([]byte{byte(c)})
		for _, s := range []string{b, b + "a\n", "a" + b + "\nb", "a\nb" + b, "a\n" + b + "\n"} {
			got, e := scan.Lines(s)
			if allowed && (e != api.OK || len(got) == 0) {
				t.Errorf("Lines(%q) = %q, %d, want no error", s, got, e)
			}
			if !allowed && (e != api.ErrSyntax || len(got) != 0) {
				t.Errorf("Lines(%q) = %q, %d, want ErrSyntax", s, got, e)
			}
		}
	}
}

func TestLinesOfLongTexts(t *testing.T) {
	long := strings.Repeat("a", api.MaxText)
	for _, x := range []struct {
		what, text string
		lines      int
		e          api.Errno
	}{
		{"one line of MaxText bytes", long, 1, api.OK},
		{"MaxText bytes with a final line feed", long[1:] + "\n", 1, api.OK},
		{"MaxText line feeds", strings.Repeat("\n", api.MaxText), api.MaxText, api.OK},
		{"MaxText bytes, the last one not allowed", long[1:] + "\r", 0, api.ErrSyntax},
		{"MaxText+1 bytes", long + "a", 0, api.ErrLimit},
		{"MaxText+1 bytes with a final line feed", long + "\n", 0, api.ErrLimit},
		{"MaxText+1 bytes, the first one not allowed", "\r" + long, 0, api.ErrLimit},
	} {
		got, e := scan.Lines(x.text)
		if e != x.e || len(got) != x.lines {
			t.Errorf("Lines of %s: %d lines, error %d, want %d, %d", x.what, len(got), e, x.lines, x.e)
		}
		if e == api.OK && len(strings.Join(got, "\n")) < api.MaxText-1 {
			t.Errorf("Lines of %s lost bytes", x.what)
		}
	}
}

// P102

func TestFieldsOfLines(t *testing.T) {
	for _, x := range []struct {
		line    string
		comment byte
		want    []string
	}{
		{"", '!', nil},
		{" \t \t", '!', nil},
		{"a", '!', []string{"a"}},
		{"  a\t\tbc \t d\t", '!', []string{"a", "bc", "d"}},
		{"!", '!', nil},
		{"!a b", '!', nil},
		{" \t! a b", '!', nil},
		{"a !b c", '!', []string{"a"}},
		{"a\t!\tb", '!', []string{"a"}},
		{"a!b c", '!', []string{"a!b", "c"}},
		{"a! b", '!', []string{"a!", "b"}},
		{"a b! !c d", '!', []string{"a", "b!"}},
		{"a !b c", '#', []string{"a", "!b", "c"}},
		{"a #b c", '#', []string{"a"}},
		{"a b", ' ', []string{"a", "b"}},
		{"a\tb", '\t', []string{"a", "b"}},
		{"a\nb\r c\v", '!', []string{"a\nb\r", "c\v"}},
		{"a \n b", '!', []string{"a", "\n", "b"}},
		{"a \nb c", '\n', []string{"a"}},
		{"\x00 \xff \u00a0 \u2003", '!', []string{"\x00", "\xff", "\u00a0", "\u2003"}},
		{"a \x00b", 0, []string{"a"}},
		{"a \xffb \xc3\xa4", 0xc3, []string{"a", "\xffb"}},
	} {
		if got := scan.Fields(x.line, x.comment); !slices.Equal(got, x.want) {
			t.Errorf("Fields(%q, %q) = %q, want %q", x.line, x.comment, got, x.want)
		}
	}
}

func TestFieldsOfEveryByte(t *testing.T) {
	for c := range 256 {
		b := string([]byte{byte(c)})
		line := "a" + b + "d " + b + " e"
		whole, cut := []string{"a" + b + "d", b, "e"}, []string{"a" + b + "d"}
		if c == 9 || c == 32 {
			whole = []string{"a", "d", "e"}
			cut = whole
		}
		other := byte('!')
		if c == '!' {
			other = '#'
		}
		// The first field of the line begins with this letter.
		if c == 'a' {
			cut = nil
		}
		if got := scan.Fields(line, other); !slices.Equal(got, whole) {
			t.Errorf("Fields(%q, %q) = %q, want %q", line, other, got, whole)
		}
		if got := scan.Fields(line, byte(c)); !slices.Equal(got, cut) {
			t.Errorf("Fields(%q, %q) = %q, want %q", line, byte(c), got, cut)
		}
	}
}

func TestFieldsAreMaximalRuns(t *testing.T) {
	texts("a! \t\n", 6, func(s string) {
		var want []string
		for _, f := range strings.Split(strings.ReplaceAll(s, "\t", " "), " ") {
			if strings.HasPrefix(f, "!") {
				break
			}
			if f != "" {
				want = append(want, f)
			}
		}
		if got := scan.Fields(s, '!'); !slices.Equal(got, want) {
			t.Errorf("Fields(%q, '!') = %q, want %q", s, got, want)
		}
	})
}

func TestFieldsOfLongLine(t *testing.T) {
	line := strings.Repeat("ab ", api.MaxText)
	if got := scan.Fields(line, '!'); len(got) != api.MaxText || got[api.MaxText-1] != "ab" {
		t.Errorf("Fields of a line of %d bytes has %d fields, want %d", len(line), len(got), api.MaxText)
	}
}

// P103

// written writes each token as its line and its text; tokens have no spaces.
func written(tokens []api.Token) string {
	var l []string
	for _, k := range tokens {
		l = append(l, strconv.Itoa(k.Line)+":"+k.Text)
	}
	return strings.Join(l, " ")
}

func TestTokensOfTexts(t *testing.T) {
	for _, x := range []struct {
		text  string
		want  string
		lines int
	}{
		{"", "", 0},
		{"\n", "", 1},
		{"\n\n", "", 2},
		{" \t", "", 1},
		{"a", "1:a", 1},
		{"a\n", "1:a", 1},
		{"\na\n\nb", "2:a 4:b", 4},
		{"{", "1:{", 1},
		{"{};", "1:{ 1:} 1:;", 1},
		{"{{}}", "1:{ 1:{ 1:} 1:}", 1},
		{"a{b}c;d", "1:a 1:{ 1:b 1:} 1:c 1:; 1:d", 1},
		{"a b\tc", "1:a 1:b 1:c", 1},
		{"e0 {\n address 10.0.0.1/24;\n}\n", "1:e0 1:{ 2:address 2:10.0.0.1/24 2:; 3:}", 3},
		{"#", "", 1},
		{"# a { ; }", "", 1},
		{"a # b\nc", "1:a 2:c", 2},
		{"a#b c\nd", "1:a 2:d", 2},
		{"a;#b\n#\n}", "1:a 1:; 3:}", 3},
		{"a # b # c\n# d\n", "1:a", 2},
		{"!a \"b\" :c,", "1:!a 1:\"b\" 1::c,", 1},
	} {
		tokens, lines, e := scan.Tokens(x.text)
		if got := written(tokens); e != api.OK || lines != x.lines || got != x.want {
			t.Errorf("Tokens(%q) = %s, %d, %d, want %s, %d", x.text, got, lines, e, x.want, x.lines)
		}
	}
}

// tokensByRewriting finds tokens in another way than package scan does: it puts
// spaces around marks and splits at them.
func tokensByRewriting(s string) ([]api.Token, int) {
	var tokens []api.Token
	lines := strings.Split(s, "\n")
	if lines[len(lines)-1] == "" {
		lines = lines[:len(lines)-1]
	}
	spaced := strings.NewReplacer("{", " { ", "}", " } ", ";", " ; ")
	for i, line := range lines {
		code, _, _ := strings.Cut(line, "#")
		for _, f := range strings.Fields(spaced.Replace(code)) {
			tokens = append(tokens, api.Token{Line: i + 1, Text: f})
		}
	}
	return tokens, len(lines)
}

func TestTokensAreMarksAndMaximalRuns(t *testing.T) {
	texts("a \t\n{};#", 5, func(s string) {
		want, wantLines := tokensByRewriting(s)
		got, lines, e := scan.Tokens(s)
		if e != api.OK || lines != wantLines || !slices.Equal(got, want) {
			t.Errorf("Tokens(%q) = %v, %d, %d, want %v, %d", s, got, lines, e, want, wantLines)
		}
	})
}

func TestTokensOfEveryByte(t *testing.T) {
	for c := range 256 {
		b := string([]byte{byte(c)})
		for _, s := range []string{"x" + b + "y", "x # " + b + "\ny"} {
			got, lines, e := scan.Tokens(s)
			if c != 9 && c != 10 && (c < 32 || c > 126) {
				if e != api.ErrSyntax || lines != 0 || len(got) != 0 {
					t.Errorf("Tokens(%q) = %v, %d, %d, want ErrSyntax", s, got, lines, e)
				}
				continue
			}
			want, wantLines := tokensByRewriting(s)
			if e != api.OK || lines != wantLines || !slices.Equal(got, want) {
				t.Errorf("Tokens(%q) = %v, %d, %d, want %v, %d", s, got, lines, e, want, wantLines)
			}
		}
	}
}

func TestTokensOfLongTexts(t *testing.T) {
	for _, x := range []struct {
		what, text    string
		tokens, lines int
		e             api.Errno
	}{
		{"MaxText marks", strings.Repeat(";", api.MaxText), api.MaxText, 1, api.OK},
		{"one token of MaxText bytes", strings.Repeat("a", api.MaxText), 1, 1, api.OK},
		{"MaxText line feeds", strings.Repeat("\n", api.MaxText), 0, api.MaxText, api.OK},
		{"MaxText+1 marks", strings.Repeat(";", api.MaxText+1), 0, 0, api.ErrLimit},
		{"MaxText+1 bytes that are not allowed", strings.Repeat("\r", api.MaxText+1), 0, 0, api.ErrLimit},
		{"MaxText+1 bytes of a comment", "#" + strings.Repeat(" ", api.MaxText), 0, 0, api.ErrLimit},
		{"tokens before a byte that is not allowed", "a b\nc \x7f", 0, 0, api.ErrSyntax},
	} {
		got, lines, e := scan.Tokens(x.text)
		if e != x.e || len(got) != x.tokens || lines != x.lines {
			t.Errorf("Tokens of %s: %d tokens, %d lines, error %d", x.what, len(got), lines, e)
		}
	}
}

// P104

func TestNumberOfTexts(t *testing.T) {
	for _, x := range []struct {
		text        string
		least, most int
		want        int
		ok          bool
	}{
		{"0", 0, 9, 0, true},
		{"0", -5, 5, 0, true},
		{"0", 1, 5, 0, false},
		{"0", -5, -1, 0, false},
		{"7", 0, 9, 7, true},
		{"10", 0, 10, 10, true},
		{"65535", 0, 65535, 65535, true},
		{"", 0, 9, 0, false},
		{"00", 0, 9, 0, false},
		{"07", 0, 9, 0, false},
		{"0000000007", 0, 9, 0, false},
		{"-0", -9, 9, 0, false},
		{"-1", -9, 9, 0, false},
		{"+1", 0, 9, 0, false},
		{" 1", 0, 9, 0, false},
		{"1 ", 0, 9, 0, false},
		{"1\n", 0, 9, 0, false},
		{"1_0", 0, 99, 0, false},
		{"1.0", 0, 99, 0, false},
		{"1e1", 0, 99, 0, false},
		{"0x1", 0, 99, 0, false},
		{"a", 0, 1 << 40, 0, false},
		{"\u0663", 0, 1 << 40, 0, false},
		{"1\xff", 0, 1 << 40, 0, false},
		{"4294967295", 0, math.MaxUint32, math.MaxUint32, true},
		{"4294967296", 0, math.MaxUint32, 0, false},
		{"1000000000", 0, 1 << 40, 1000000000, true},
		{"9999999999", 0, 1 << 40, 9999999999, true},
		{"9999999999", math.MinInt, math.MaxInt, 9999999999, true},
		{"9999999999", 9999999999, 9999999999, 9999999999, true},
		{"9999999999", 0, 9999999998, 0, false},
		{"10000000000", 0, 1 << 40, 0, false},
		{"00000000001", 0, 1 << 40, 0, false},
		{"99999999999", 0, math.MaxInt, 0, false},
		{"18446744073709551617", 0, 9, 0, false},
	} {
		got, ok := scan.Number(x.text, x.least, x.most)
		if got != x.want || ok != x.ok {
			t.Errorf("Number(%q, %d, %d) = %d, %v, want %d, %v", x.text, x.least, x.most, got, ok, x.want, x.ok)
		}
	}
}

func TestNumberKeepsToItsBounds(t *testing.T) {
	for value := range 130 {
		s := strconv.Itoa(value)
		for least := value - 2; least <= value+2; least++ {
			for most := value - 2; most <= value+2; most++ {
				want, inside := 0, least <= value && value <= most
				if inside {
					want = value
				}
				if got, ok := scan.Number(s, least, most); got != want || ok != inside {
					t.Errorf("Number(%q, %d, %d) = %d, %v", s, least, most, got, ok)
				}
			}
		}
	}
}

func TestNumberReadsCanonicalDecimalsOnly(t *testing.T) {
	texts("0129+-_ a/:", 4, func(s string) {
		want, err := strconv.Atoi(s)
		canonical := err == nil && want >= 0 && strconv.Itoa(want) == s
		if !canonical {
			want = 0
		}
		if got, ok := scan.Number(s, -1000000, 1000000); got != want || ok != canonical {
			t.Errorf("Number(%q) = %d, %v, want %d, %v", s, got, ok, want, canonical)
		}
	})
}

func TestNumberOfEveryByte(t *testing.T) {
	for c := range 256 {
		for _, s := range []string{string([]byte{byte(c)}), string([]byte{'1', byte(c)}), string([]byte{byte(c), '1'}), string([]byte{'1', byte(c), '1'})} {
			digits := c >= 48 && c <= 57 && (c > 48 || s[0] != '0' || len(s) == 1)
			if _, ok := scan.Number(s, 0, 1000); ok != digits {
				t.Errorf("Number(%q, 0, 1000) is %v", s, ok)
			}
		}
	}
}

func TestNumberOfEachLength(t *testing.T) {
	for n := range 40 {
		_, ok := scan.Number(strings.Repeat("1", n), 0, 9999999999)
		if want := n >= 1 && n <= 10; ok != want {
			t.Errorf("Number of %d digits is %v", n, ok)
		}
	}
}

// P105

func TestNameOfTexts(t *testing.T) {
	for s, want := range map[string]bool{
		"":                 false,
		"a":                true,
		"Z":                true,
		"e0":               true,
		"eth0/1.2":         true,
		"a-b_c/d.e":        true,
		"a-_/.":            true,
		"0a":               false,
		"-a":               false,
		"_a":               false,
		"/a":               false,
		".a":               false,
		" a":               false,
		"a ":               false,
		"a b":              false,
		"a\n":              false,
		"a{":               false,
		"r\u00e4":          false,
		"\u00e4":           false,
		"abcdefghijklmn":   true,
		"abcdefghijklmno":  true,
		"abcdefghijklmn;":  false,
		"abcdefghijklmnop": false,
	} {
		if scan.Name(s) != want {
			t.Errorf("Name(%q) is not %v", s, want)
		}
	}
}

func TestNameOfEveryByte(t *testing.T) {
	for c := range 256 {
		b := string([]byte{byte(c)})
		digit := c >= 48 && c <= 57
		other := c == '-' || c == '_' || c == '/' || c == '.'
		if got := scan.Name(b); got != isLetter(c) {
			t.Errorf("Name(%q) is %v", b, got)
		}
		if got := scan.Name(b + "a"); got != isLetter(c) {
			t.Errorf("Name(%q) is %v", b+"a", got)
		}
		for _, s := range []string{"a" + b, "a" + b + "a", "Z" + strings.Repeat("9", api.MaxName-2) + b} {
			if got := scan.Name(s); got != (isLetter(c) || digit || other) {
				t.Errorf("Name(%q) is %v", s, got)
			}
		}
	}
}

func TestNameOfEachLength(t *testing.T) {
	for n := range 2 * api.MaxName {
		s := strings.Repeat("n", n)
		if want := n >= 1 && n <= api.MaxName; scan.Name(s) != want {
			t.Errorf("Name of %d letters is not %v", n, want)
		}
	}
}

// R2 and R3

func TestResultsAreNewAndRepeat(t *testing.T) {
	const text = "a b\n{c} # d\n"
	l, _ := scan.Lines(text)
	l[0] = "changed"
	f := scan.Fields(text, '#')
	f[0] = "changed"
	k, _, _ := scan.Tokens(text)
	k[0].Text = "changed"
	if l, _ = scan.Lines(text); !slices.Equal(l, []string{"a b", "{c} # d"}) {
		t.Errorf("Lines returned %q the second time", l)
	}
	if f = scan.Fields(text, '#'); !slices.Equal(f, []string{"a", "b\n{c}"}) {
		t.Errorf("Fields returned %q the second time", f)
	}
	if k, _, _ = scan.Tokens(text); written(k) != "1:a 1:b 2:{ 2:c 2:}" {
		t.Errorf("Tokens returned %v the second time", k)
	}
}

// Package scan splits texts into lines, fields and tokens, and reads numbers
// and names. See doc/01-scan.md.
package scan

import (
	"strings"

	"netverify/api"
)

const (
	blanks = "\t "
	marks  = "{};"
	// tokenStops has no line feed because tokens are looked for within a line.
	tokenStops = blanks + marks + "#"
	maxDigits  = 10
)

// Lines splits s into lines, without their line feeds.
func Lines(s string) ([]string, api.Errno) {
	if len(s) > api.MaxText {
		return nil, api.ErrLimit
	}
	var lines []string
	start := 0
	for i := 0; i < len(s); i++ {
		if !isTextByte(s[i]) {
			return nil, api.ErrSyntax
		}
		if s[i] == '\n' {
			lines = append(lines, s[start:i])
			start = i + 1
		}
	}
	if start < len(s) {
		lines = append(lines, s[start:])
	}
	return lines, api.OK
}

// Fields returns the fields of a line up to the first one that begins with
// comment.
func Fields(line string, comment byte) []string {
	var fields []string
	for at := 0; at < len(line); {
		if isIn(line[at], blanks) {
			at++
			continue
		}
		// Only the beginning of a field is looked at here, so a comment byte
		// inside a field stays a part of it.
		if line[at] == comment {
			break
		}
		end := runEnd(line, at, blanks)
		fields = append(fields, line[at:end])
		at = end
	}
	return fields
}

// Tokens returns the tokens of s, each with the number of its line, and the
// number of lines.
func Tokens(s string) ([]api.Token, int, api.Errno) {
	lines, e := Lines(s)
	if e != api.OK {
		return nil, 0, e
	}
	var tokens []api.Token
nextLine:
	for i, line := range lines {
		for at := 0; at < len(line); {
			if line[at] == '#' {
				continue nextLine
			}
			if isIn(line[at], blanks) {
				at++
				continue
			}
			end := at + 1
			if !isIn(line[at], marks) {
				end = runEnd(line, at, tokenStops)
			}
			tokens = append(tokens, api.Token{Line: i + 1, Text: line[at:end]})
			at = end
		}
	}
	return tokens, len(lines), api.OK
}

// Number returns the value of a decimal number from least to most.
func Number(s string, least, most int) (int, bool) {
	if s == "" || len(s) > maxDigits || s[0] == '0' && len(s) > 1 {
		return 0, false
	}
	// Ten digits need more than 32 bits, which is all that an int may have.
	var value int64
	for i := 0; i < len(s); i++ {
		if !isDigit(s[i]) {
			return 0, false
		}
		value = 10*value + int64(s[i]-'0')
	}
	if value < int64(least) || value > int64(most) {
		return 0, false
	}
	return int(value), true
}

// Name reports whether s is a name.
func Name(s string) bool {
	if s == "" || len(s) > api.MaxName || !isLetter(s[0]) {
		return false
	}
	for i := 1; i < len(s); i++ {
		if !isLetter(s[i]) && !isDigit(s[i]) && !isIn(s[i], "-_/.") {
			return false
		}
	}
	return true
}

// runEnd returns the end of the run of bytes of s that begins at start and has
// none of the bytes of stops.
func runEnd(s string, start int, stops string) int {
	end := start
	for end < len(s) && !isIn(s[end], stops) {
		end++
	}
	return end
}

func isTextByte(c byte) bool {
	return c == '\t' || c == '\n' || ' ' <= c && c <= '~'
}

func isIn(c byte, set string) bool {
	return strings.IndexByte(set, c) >= 0
}

func isDigit(c byte) bool {
	return '0' <= c && c <= '9'
}

func isLetter(c byte) bool {
	return 'A' <= c && c <= 'Z' || 'a' <= c && c <= 'z'
}

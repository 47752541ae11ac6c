// Package ascii is layer 1: bytes of protocol texts. See shared/doc/01-ascii.md.
//
// Every loop runs over bytes, not runes: protocol texts need not be valid
// UTF-8, and the library's conversions would fold or replace other bytes.
package ascii

import "strings"

const (
	blanks     = " \t"
	tokenMarks = "!#$%&'*+-.^_`|~"
)

// Lower returns s with the letters A to Z in lower case.
func Lower(s string) string {
	b := []byte(s)
	for i, c := range b {
		if isUpper(c) {
			b[i] = c - 'A' + 'a'
		}
	}
	return string(b)
}

// Fold reports whether a and b are equal without regard to case.
func Fold(a, b string) bool {
	return Lower(a) == Lower(b)
}

// Token reports whether s is a token.
func Token(s string) bool {
	for i := range len(s) {
		if !isTokenByte(s[i]) {
			return false
		}
	}
	return s != ""
}

// Trim returns s without the blanks and tabs at its beginning and end.
func Trim(s string) string {
	return strings.Trim(s, blanks)
}

// Value reports whether s may be the value of a header field.
func Value(s string) bool {
	for i := range len(s) {
		if !isValueByte(s[i]) {
			return false
		}
	}
	return s == Trim(s)
}

// List returns the elements of comma-separated lists, in order.
func List(l ...string) []string {
	var elements []string
	for _, s := range l {
		for _, part := range strings.Split(s, ",") {
			if element := Trim(part); element != "" {
				elements = append(elements, element)
			}
		}
	}
	return elements
}

func isUpper(c byte) bool {
	return 'A' <= c && c <= 'Z'
}

func isTokenByte(c byte) bool {
	return isUpper(c) || 'a' <= c && c <= 'z' || '0' <= c && c <= '9' ||
		strings.IndexByte(tokenMarks, c) >= 0
}

func isValueByte(c byte) bool {
	return c == '\t' || ' ' <= c && c != 127
}

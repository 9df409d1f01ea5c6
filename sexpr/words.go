package sexpr

import (
	"strconv"

	"telpher/api"
)

// IsIdent reports whether s is an identifier.
func IsIdent(s string) bool {
	if s == "" || len(s) > api.MaxWord || !isLetter(s[0]) {
		return false
	}
	for i := range len(s) {
		if !isLetter(s[i]) && !isDigit(s[i]) && s[i] != '_' {
			return false
		}
	}
	return true
}

// ParseInt parses a decimal int64 in canonical form.
func ParseInt(s string) (int64, bool) {
	n, err := strconv.ParseInt(s, 10, 64)
	// strconv also reads a plus sign, leading zeros and -0, but writes only the canonical form.
	if err != nil || strconv.FormatInt(n, 10) != s {
		return 0, false
	}
	return n, true
}

// isWord reports whether s is a complete word.
func isWord(s string) bool {
	if s == "" || len(s) > api.MaxWord {
		return false
	}
	for i := range len(s) {
		if !isWordByte(s[i]) {
			return false
		}
	}
	return true
}

// isStringValue reports whether s can be the value of a quoted string.
func isStringValue(s string) bool {
	if len(s) > api.MaxString {
		return false
	}
	for i := range len(s) {
		if !isStringByte(s[i]) {
			return false
		}
	}
	return true
}

func isLetter(c byte) bool { return 'a' <= c && c <= 'z' || 'A' <= c && c <= 'Z' }

func isDigit(c byte) bool { return '0' <= c && c <= '9' }

func isWordByte(c byte) bool { return isLetter(c) || isDigit(c) || c == '_' || c == '-' }

// isStringByte reports whether the value of a quoted string may contain c.
func isStringByte(c byte) bool { return 32 <= c && c <= 126 }

// mustEscape reports whether c has a backslash before it in a quoted string.
func mustEscape(c byte) bool { return c == '"' || c == '\\' }

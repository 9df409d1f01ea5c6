package sexpr_test

import (
	"math"
	"strconv"
	"strings"
	"testing"

	"telpher/api"
	"telpher/sexpr"
)

// P1.4: which bytes an identifier begins and continues with.
func TestIdentBytes(t *testing.T) {
	const letters = "abcdefghijklmnopqrstuvwxyzABCDEFGHIJKLMNOPQRSTUVWXYZ"
	for c := range 256 {
		b := string([]byte{byte(c)})
		if got, want := sexpr.IsIdent(b), strings.Contains(letters, b); got != want {
			t.Errorf("IsIdent(%q) = %v", b, got)
		}
		if got, want := sexpr.IsIdent(b+"a"), strings.Contains(letters, b); got != want {
			t.Errorf("IsIdent(%q) = %v", b+"a", got)
		}
		for _, s := range []string{"a" + b, "a" + b + "z"} {
			if got, want := sexpr.IsIdent(s), strings.Contains(letters+"0123456789_", b); got != want {
				t.Errorf("IsIdent(%q) = %v", s, got)
			}
		}
	}
}

// P1.4: the length of an identifier.
func TestIdentLength(t *testing.T) {
	longest := "x" + strings.Repeat("_", api.MaxWord-1)
	for s, want := range map[string]bool{"": false, "x": true, longest: true, longest + "_": false, strings.Repeat("y", 1<<16): false} {
		if sexpr.IsIdent(s) != want {
			t.Errorf("IsIdent of %d bytes: %v", len(s), !want)
		}
	}
}

// P1.4: every int64 is parsed from its canonical form.
func TestParseInt(t *testing.T) {
	values := []int64{0, 1, -1, 9, 10, -10, 1000000, math.MaxInt64, math.MaxInt64 - 1, math.MinInt64, math.MinInt64 + 1}
	for shift := range 63 {
		values = append(values, 1<<shift, -1<<shift, 1<<shift-1)
	}
	for _, v := range values {
		if n, ok := sexpr.ParseInt(strconv.FormatInt(v, 10)); !ok || n != v {
			t.Errorf("ParseInt of %d = %d, %v", v, n, ok)
		}
	}
}

// P1.4: every other string is refused with 0.
func TestParseIntRefuses(t *testing.T) {
	for _, s := range []string{
		"", "-", "--1", "-0", "00", "-00", "01", "-01", "007", "+0", "+1", "1+", "1-", "1-1", "- 1", " 1", "1 ", "1\n", "\x001",
		"1_0", "_1", "0x1", "0b1", "0o1", "1e3", "1.0", "1.", "a", "1a", "inf", "\u0661", "\uff11",
		"9223372036854775808", "-9223372036854775809", "18446744073709551616", "-18446744073709551616", "9223372036854775807 ",
		"09223372036854775807", strings.Repeat("9", 1<<16), strings.Repeat("0", 1<<16),
	} {
		if n, ok := sexpr.ParseInt(s); ok || n != 0 {
			t.Errorf("ParseInt(%.40q) = %d, %v", s, n, ok)
		}
	}
}

package subtype_test

import (
	"fmt"
	"slices"
	"testing"

	"telpher/api"
	"telpher/dnf"
	"telpher/hierarchy"
	"telpher/subtype"
	. "telpher/typetest"
)

// show writes a value with all its fields, nil and empty slices told apart.
func show(x any) string { return fmt.Sprintf("%#v", x) }

// brief writes a value, or the beginning of it.
func brief(x any) string {
	text := fmt.Sprint(x)
	return text[:min(len(text), 400)]
}

// only returns the only branch of a type.
func only(t *testing.T, x api.Type) api.Branch {
	t.Helper()
	l, err := dnf.Expand(x)
	if err != api.OK || len(l) != 1 {
		t.Fatalf("Expand(%s) = %s, error %d; want one branch", brief(x), brief(l), err)
	}
	return l[0]
}

// expectMatch checks that the branch of b matches that of the pattern, with these terms assigned.
func expectMatch(t *testing.T, b, pattern api.Type, want ...api.Type) {
	t.Helper()
	got, ok := subtype.Match(SampleHierarchy(), only(t, b), only(t, pattern))
	if !ok || !slices.EqualFunc(got, want, Same) {
		t.Errorf("Match(%s, %s) = %s, %v; want %s", brief(b), brief(pattern), brief(got), ok, brief(want))
	}
}

func expectNoMatch(t *testing.T, b, pattern api.Type) {
	t.Helper()
	got, ok := subtype.Match(SampleHierarchy(), only(t, b), only(t, pattern))
	if ok || got != nil {
		t.Errorf("Match(%s, %s) = %s, %v; want nil, false", brief(b), brief(pattern), brief(got), ok)
	}
}

func expectSubtype(t *testing.T, h *hierarchy.Hierarchy, x, y api.Type, want bool) {
	t.Helper()
	if got := subtype.IsSubtype(h, x, y); got != want {
		t.Errorf("IsSubtype(%s, %s) = %v", brief(x), brief(y), got)
	}
}

// expectBoth checks whether x is a subtype of y, and y of x.
func expectBoth(t *testing.T, x, y api.Type, below, above bool) {
	t.Helper()
	h := SampleHierarchy()
	expectSubtype(t, h, x, y, below)
	expectSubtype(t, h, y, x, above)
	if equivalent := below && above; subtype.Equivalent(h, x, y) != equivalent || subtype.Equivalent(h, y, x) != equivalent {
		t.Errorf("Equivalent(%s, %s) is not %v", brief(x), brief(y), equivalent)
	}
}

func expectBelow(t *testing.T, x, y api.Type) {
	t.Helper()
	expectBoth(t, x, y, true, false)
}

func expectEquivalent(t *testing.T, x, y api.Type) {
	t.Helper()
	expectBoth(t, x, y, true, true)
}

func expectUnrelated(t *testing.T, x, y api.Type) {
	t.Helper()
	expectBoth(t, x, y, false, false)
}

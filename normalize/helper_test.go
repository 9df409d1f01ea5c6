package normalize_test

import (
	"fmt"
	"testing"

	"telpher/api"
	"telpher/hierarchy"
	"telpher/normalize"
	. "telpher/typetest"
)

// show writes a value with all its fields, nil and empty slices told apart.
func show(x any) string { return fmt.Sprintf("%#v", x) }

// expectForm checks the normal form of x, and that IsNormal knows it from x.
func expectForm(t *testing.T, h *hierarchy.Hierarchy, x, want api.Type) {
	t.Helper()
	got, err := normalize.Normalize(h, x)
	if err != api.OK || !Same(got, want) {
		t.Errorf("Normalize(%s) = %s, error %d; want %s", Text(x), Text(got), err, Text(want))
	}
	if !normalize.IsNormal(h, want) || normalize.IsNormal(h, x) != Same(x, want) {
		t.Errorf("IsNormal(%s) is not %v, or the normal form is not normal", Text(x), Same(x, want))
	}
}

// expectNormal checks that x is normal.
func expectNormal(t *testing.T, h *hierarchy.Hierarchy, x api.Type) {
	t.Helper()
	expectForm(t, h, x, x)
}

// expectError checks that x has no normal form for a reason.
func expectError(t *testing.T, h *hierarchy.Hierarchy, x api.Type, want api.Errno) {
	t.Helper()
	got, err := normalize.Normalize(h, x)
	if err != want || !Same(got, api.Type{}) {
		t.Errorf("Normalize(%s) = %s, error %d; want error %d", Text(x), Text(got), err, want)
	}
	if normalize.IsNormal(h, x) {
		t.Errorf("IsNormal(%s) is true", Text(x))
	}
}

// sized returns a normal tuple of so many nodes, with as few levels as possible.
func sized(nodes int) api.Type {
	t := Tuple()
	for i := range api.MaxArgs {
		if part := (nodes - 1 + i) / api.MaxArgs; part > 0 {
			t.Args = append(t.Args, sized(part))
		}
	}
	return t
}

// bind puts an existential quantifier around a body with the variable 0.
func bind(bound api.Type, elements ...api.Type) api.Type { return Exists(bound, Tuple(elements...)) }

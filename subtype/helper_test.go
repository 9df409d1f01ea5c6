package subtype_test

import (
	"fmt"
	"slices"
	"testing"

	"telpher/api"
	"telpher/dnf"
	"telpher/hierarchy"
	"telpher/subtype"
	. "telpher/typetest"
)

func circle() api.Type { return Named("Circle") }

func shape() api.Type { return Named("Shape") }

func vec(t api.Type) api.Type { return Named("Vec", t) }

func list(t api.Type) api.Type { return Named("List", t) }

// ints returns a type with the two branches Bool and Int.
func ints() api.Type { return Union(Bool(), Int()) }

// anyBox returns the type of all boxes.
func anyBox() api.Type { return Exists(Any(), Box(Variable(0))) }

// declarations returns abstract types Shape, List[T] below Coll[Box[T]] below Any, and Map[K, V],
// and concrete types Circle, Square, Box[T], Vec[T] below List[T], Ring[T] below Vec[Box[T]],
// Pair[K, V] below Map[K, Box[V]], Swap[K, V] below Pair[V, K], and Text below List[Int].
func declarations() []api.Decl {
	return []api.Decl{
		{Name: "Shape"},
		{Name: "Circle", Super: shape(), Concrete: true},
		{Name: "Square", Super: shape(), Concrete: true},
		{Name: "Box", Arity: 1, Concrete: true},
		{Name: "Coll", Arity: 1},
		{Name: "List", Arity: 1, Super: Named("Coll", Box(Variable(0)))},
		{Name: "Vec", Arity: 1, Super: list(Variable(0))},
		{Name: "Ring", Arity: 1, Super: vec(Box(Variable(0))), Concrete: true},
		{Name: "Map", Arity: 2},
		{Name: "Pair", Arity: 2, Super: Named("Map", Variable(0), Box(Variable(1)))},
		{Name: "Swap", Arity: 2, Super: Named("Pair", Variable(1), Variable(0)), Concrete: true},
		{Name: "Text", Super: list(Int()), Concrete: true},
	}
}

func declare(h *hierarchy.Hierarchy, l ...api.Decl) {
	for _, d := range l {
		if err := h.Declare(d); err != api.OK {
			panic(fmt.Sprintf("Declare(%v): error %d", d, err))
		}
	}
}

// newHierarchy returns a hierarchy with the declarations.
func newHierarchy() *hierarchy.Hierarchy {
	h := hierarchy.New()
	declare(h, declarations()...)
	return h
}

// show writes a value with all its fields, nil and empty slices told apart.
func show(x any) string { return fmt.Sprintf("%#v", x) }

// brief writes a value, or the beginning of it.
func brief(x any) string {
	text := fmt.Sprint(x)
	return text[:min(len(text), 400)]
}

// only returns the only branch of a type.
func only(t *testing.T, x api.Type) api.Branch {
	t.Helper()
	l, err := dnf.Expand(x)
	if err != api.OK || len(l) != 1 {
		t.Fatalf("Expand(%s) = %s, error %d; want one branch", brief(x), brief(l), err)
	}
	return l[0]
}

// expectMatch checks that the branch of b matches that of the pattern, with these terms assigned.
func expectMatch(t *testing.T, b, pattern api.Type, want ...api.Type) {
	t.Helper()
	got, ok := subtype.Match(newHierarchy(), only(t, b), only(t, pattern))
	if !ok || !slices.EqualFunc(got, want, Same) {
		t.Errorf("Match(%s, %s) = %s, %v; want %s", brief(b), brief(pattern), brief(got), ok, brief(want))
	}
}

func expectNoMatch(t *testing.T, b, pattern api.Type) {
	t.Helper()
	got, ok := subtype.Match(newHierarchy(), only(t, b), only(t, pattern))
	if ok || got != nil {
		t.Errorf("Match(%s, %s) = %s, %v; want nil, false", brief(b), brief(pattern), brief(got), ok)
	}
}

func expectSubtype(t *testing.T, h *hierarchy.Hierarchy, x, y api.Type, want bool) {
	t.Helper()
	if got := subtype.IsSubtype(h, x, y); got != want {
		t.Errorf("IsSubtype(%s, %s) = %v", brief(x), brief(y), got)
	}
}

// expectBoth checks whether x is a subtype of y, and y of x.
func expectBoth(t *testing.T, x, y api.Type, below, above bool) {
	t.Helper()
	h := newHierarchy()
	expectSubtype(t, h, x, y, below)
	expectSubtype(t, h, y, x, above)
	if equivalent := below && above; subtype.Equivalent(h, x, y) != equivalent || subtype.Equivalent(h, y, x) != equivalent {
		t.Errorf("Equivalent(%s, %s) is not %v", brief(x), brief(y), equivalent)
	}
}

func expectBelow(t *testing.T, x, y api.Type) {
	t.Helper()
	expectBoth(t, x, y, true, false)
}

func expectEquivalent(t *testing.T, x, y api.Type) {
	t.Helper()
	expectBoth(t, x, y, true, true)
}

func expectUnrelated(t *testing.T, x, y api.Type) {
	t.Helper()
	expectBoth(t, x, y, false, false)
}

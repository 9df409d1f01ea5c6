package subtype_test

import (
	"fmt"
	"slices"
	"testing"

	"telpher/api"
	"telpher/dnf"
	"telpher/hierarchy"
	"telpher/subtype"
	. "telpher/typetest"
)

// normalInside makes a type normal inside: its closed arguments and upper bounds are replaced by
// normal types. Its own branches may be redundant, on which no law depends.
func normalInside(g *Generator, t api.Type) api.Type {
	t.Args = slices.Clone(t.Args)
	for i, arg := range t.Args {
		switch {
		case t.Kind == api.KindNamed && closed(arg), t.Kind == api.KindExists && i == 0:
			t.Args[i] = Pick(g, Any(), Int(), Ints(), Circle(), Shape(), AnyBox(), Box(Int()), Tuple(Int()), Never(), Exists(Ints(), Tuple(Variable(0), Box(Variable(0)))))
		default:
			t.Args[i] = normalInside(g, arg)
		}
	}
	return t
}

// normalTypes returns many types that are normal inside.
func normalTypes(g *Generator, count int) []api.Type {
	var l []api.Type
	for len(l) < count {
		t := normalInside(g, g.Term(g.IntN(5), 0))
		if _, err := dnf.Expand(t); err == api.OK {
			l = append(l, t)
		}
	}
	return l
}

// normalAbove returns a type that is normal inside and often a supertype of t, or false.
func normalAbove(g *Generator, t api.Type) (api.Type, bool) {
	l, _ := dnf.Expand(t)
	above := normalInside(g, g.Above(l))
	_, err := dnf.Expand(above)
	return above, err == api.OK
}

// P5.5: IsSubtype is reflexive.
func TestReflexive(t *testing.T) {
	h := SampleHierarchy()
	for _, x := range normalTypes(NewGenerator(2), 5000) {
		expectSubtype(t, h, x, x, true)
		if !subtype.Equivalent(h, x, x) {
			t.Errorf("%v is not equivalent to itself", x)
		}
	}
}

// P5.5: IsSubtype is transitive.
func TestTransitive(t *testing.T) {
	h := SampleHierarchy()
	g := NewGenerator(3)
	chains := 0
	for _, x := range normalTypes(g, 20000) {
		y, ok := normalAbove(g, x)
		if !ok || !subtype.IsSubtype(h, x, y) {
			continue
		}
		if z, ok := normalAbove(g, y); ok && subtype.IsSubtype(h, y, z) {
			chains++
			if !subtype.IsSubtype(h, x, z) {
				t.Fatalf("IsSubtype is not transitive for %v, %v and %v", x, y, z)
			}
		}
	}
	if chains < 1000 {
		t.Errorf("only %d chains", chains)
	}
}

// P5.5: a subtype of a member of a union is a subtype of the union, and a union is a subtype if its members are.
func TestMembersOfUnions(t *testing.T) {
	h := SampleHierarchy()
	g := NewGenerator(4)
	holds, fails := 0, 0
	l := normalTypes(g, 6000)
	for i, x := range l {
		y, ok := normalAbove(g, x)
		other := l[len(l)-1-i]
		both := []api.Type{Union(y, other), Union(other, y), Union(other, Tuple(other), y)}
		if !ok || slices.ContainsFunc(both, func(u api.Type) bool { _, err := dnf.Expand(u); return err != api.OK }) {
			continue
		}
		if subtype.IsSubtype(h, x, y) {
			holds++
			for _, u := range both {
				expectSubtype(t, h, x, u, true)
			}
		} else {
			fails++
		}
		expectSubtype(t, h, Union(x, other), y, subtype.IsSubtype(h, x, y) && subtype.IsSubtype(h, other, y))
	}
	if min(holds, fails) < 500 {
		t.Errorf("%d subtypes, %d others", holds, fails)
	}
}

// P5.5: tuples are compared element-wise, and arguments must be equivalent.
func TestTuplesAndArguments(t *testing.T) {
	h := SampleHierarchy()
	g := NewGenerator(5)
	var holds, equivalent int
	l := []api.Type{Int(), Bool(), Circle(), Shape(), Any(), Ints(), Union(Int(), Bool()), AnyBox(), Box(Int()), Box(Ints()), Box(Union(Int(), Bool())), Tuple(), Tuple(Int()), Tuple(Ints()),
		Union(Tuple(Int()), Tuple(Bool())), Exists(Shape(), Variable(0)), Exists(Ints(), Tuple(Variable(0), Box(Variable(0)))), Tuple(Ints(), Exists(Ints(), Box(Variable(0)))), Vec(Int()), List(Int()), Named("Text"), Named("Ring", Int()), Vec(Box(Int()))}
	for _, x := range l {
		for _, y := range l {
			isBelow, isAbove := subtype.IsSubtype(h, x, y), subtype.IsSubtype(h, y, x)
			v, w := Pick(g, l...), Pick(g, l...)
			if isBelow {
				holds++
			}
			expectSubtype(t, h, Tuple(x), Tuple(y), isBelow)
			expectSubtype(t, h, Tuple(x, v), Tuple(y, w), isBelow && subtype.IsSubtype(h, v, w))
			expectSubtype(t, h, Tuple(Int(), Tuple(v, x)), Tuple(Any(), Tuple(v, y)), isBelow)
			expectSubtype(t, h, Tuple(x), Tuple(y, y), false)
			if subtype.Equivalent(h, x, y) != (isBelow && isAbove) {
				t.Errorf("Equivalent(%v, %v) is not IsSubtype in both directions", x, y)
			}
			expectSubtype(t, h, Box(x), Box(y), isBelow && isAbove)
			expectSubtype(t, h, Vec(x), List(y), isBelow && isAbove)
			expectSubtype(t, h, Named("Map", v, x), Named("Map", v, y), isBelow && isAbove)
			if isBelow && isAbove && !Same(x, y) {
				equivalent++
			}
		}
	}
	if holds < 60 || equivalent < 6 {
		t.Errorf("%d subtypes, %d equivalent pairs", holds, equivalent)
	}
}

// answers calls all functions for all pairs of types.
func answers(h *hierarchy.Hierarchy, l []api.Type) []string {
	var all []string
	for _, x := range l {
		for _, y := range l {
			all = append(all, fmt.Sprint(subtype.IsSubtype(h, x, y), subtype.Equivalent(h, x, y)))
			branches, _ := dnf.Expand(x)
			patterns, _ := dnf.Expand(y)
			for _, b := range branches {
				all = append(all, fmt.Sprint(subtype.BranchIsSubtype(h, b, y)))
				for _, p := range patterns {
					assigned, ok := subtype.Match(h, b, p)
					all = append(all, fmt.Sprint(assigned, ok))
				}
			}
		}
	}
	return all
}

// P5.5: the results do not change when declarations are added to the hierarchy.
func TestMonotonic(t *testing.T) {
	h := SampleHierarchy()
	l := []api.Type{Any(), Never(), Shape(), Circle(), Union(Circle(), Square()), List(Int()), Named("Text"), AnyBox(), Exists(Any(), List(Variable(0))), Exists(Any(), Named("Coll", Variable(0))),
		Exists(Shape(), Tuple(Variable(0), Box(Variable(0)))), Union(Tuple(Circle(), AnyBox()), Tuple(Square(), AnyBox())), Named("Ring", Shape()), Vec(Box(Shape())), Named("Map", Int(), Box(Int())), Named("Swap", Int(), Int())}
	before := answers(h, l)
	expectSubtype(t, h, Shape(), Union(Circle(), Square()), false)
	for _, d := range LaterDecls() {
		Declare(h, d)
		if after := answers(h, l); !slices.Equal(before, after) {
			t.Errorf("the declaration of %s changes a result", d.Name)
		}
	}
	// The new declarations count.
	expectSubtype(t, h, Named("Disc"), Shape(), true)
	expectSubtype(t, h, Named("Deque", Int()), Named("Coll", Box(Int())), true)
	expectSubtype(t, SampleHierarchy(), Named("Disc"), Shape(), false)
}

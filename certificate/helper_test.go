package certificate_test

import (
	"fmt"
	"slices"
	"testing"

	"telpher/api"
	"telpher/certificate"
	"telpher/dnf"
	"telpher/hierarchy"
	"telpher/normalize"
	"telpher/subtype"
	. "telpher/typetest"
)

// show writes a value with all its fields, nil and empty slices told apart.
func show(x any) string { return fmt.Sprintf("%#v", x) }

// node returns a type certificate.
func node(parts ...api.Certificate) api.Certificate { return api.Certificate{Parts: parts} }

// direct returns a direct branch certificate for a branch with these parts, which assigns nothing.
func direct(branch int, parts ...api.Certificate) api.Certificate {
	return api.Certificate{Branch: branch, Parts: parts}
}

// assign returns a direct branch certificate that assigns one term.
func assign(branch int, t api.Type, parts ...api.Certificate) api.Certificate {
	return api.Certificate{Branch: branch, Assigned: []api.Type{t}, Parts: parts}
}

// split returns a split branch certificate.
func split(occurrence int, parts ...api.Certificate) api.Certificate {
	return api.Certificate{Split: occurrence, Parts: parts}
}

// into returns the type certificate of branches that match these branches, with nothing assigned
// and nothing to be shown.
func into(branches ...int) api.Certificate {
	var c api.Certificate
	for _, branch := range branches {
		c.Parts = append(c.Parts, direct(branch))
	}
	return c
}

// self returns the certificate that a type with so many simple branches is a subtype of itself.
func self(count int) api.Certificate {
	var c api.Certificate
	for i := range count {
		c.Parts = append(c.Parts, direct(i+1))
	}
	return c
}

// toAny returns the certificate that so many branches are subtypes of Any.
func toAny(count int) api.Certificate { return into(slices.Repeat([]int{1}, count)...) }

// boxed returns the certificate that a box is a subtype of itself, from that of its argument.
func boxed(c api.Certificate) api.Certificate { return node(direct(1, c, c)) }

// sameCertificate compares certificates without the functions under test.
func sameCertificate(a, b api.Certificate) bool {
	return a.Branch == b.Branch && a.Split == b.Split && slices.EqualFunc(a.Assigned, b.Assigned, Same) && slices.EqualFunc(a.Parts, b.Parts, sameCertificate)
}

// brief writes a certificate in few words, or the beginning of it.
func brief(c api.Certificate) string {
	text := fmt.Sprintf("%d/%d", c.Branch, c.Split)
	for _, t := range c.Assigned {
		text += " " + Text(t)
	}
	for _, part := range c.Parts[:min(len(c.Parts), 20)] {
		text += " (" + brief(part) + ")"
	}
	return text[:min(len(text), 400)]
}

// expectProof checks that Prove returns a certificate for normal types, and that Verify accepts it.
func expectProof(t *testing.T, h *hierarchy.Hierarchy, x, y api.Type, want api.Certificate) {
	t.Helper()
	expectNormal(t, h, x, y)
	got, ok := certificate.Prove(h, x, y)
	if !ok || !sameCertificate(got, want) {
		t.Errorf("Prove(%s, %s) = %s, %v; want %s", Text(x), Text(y), brief(got), ok, brief(want))
	}
	expectVerify(t, h, x, y, want, true)
}

// expectNoProof checks that Prove returns none, and that Verify does not accept what may look like one.
func expectNoProof(t *testing.T, h *hierarchy.Hierarchy, x, y api.Type) {
	t.Helper()
	got, ok := certificate.Prove(h, x, y)
	if ok || !sameCertificate(got, api.Certificate{}) || subtype.IsSubtype(h, x, y) {
		t.Errorf("Prove(%s, %s) = %s, %v", Text(x), Text(y), brief(got), ok)
	}
	for _, c := range []api.Certificate{{}, node(direct(1)), toAny(2), self(2), node(split(1)), node(split(1, direct(1), direct(1)))} {
		expectVerify(t, h, x, y, c, false)
	}
}

func expectVerify(t *testing.T, h *hierarchy.Hierarchy, x, y api.Type, c api.Certificate, want bool) {
	t.Helper()
	if got := certificate.Verify(h, x, y, c); got != want {
		t.Errorf("Verify(%s, %s, %s) = %v", Text(x), Text(y), brief(c), got)
	}
}

func expectNormal(t *testing.T, h *hierarchy.Hierarchy, l ...api.Type) {
	t.Helper()
	for _, x := range l {
		if !normalize.IsNormal(h, x) {
			t.Errorf("%s is not normal", Text(x))
		}
	}
}

// normal returns the normal form of a type that has one.
func normal(t *testing.T, h *hierarchy.Hierarchy, x api.Type) api.Type {
	t.Helper()
	form, err := normalize.Normalize(h, x)
	if err != api.OK {
		t.Fatalf("%s has no normal form", Text(x))
	}
	return form
}

// normalPair returns two normal types, of which the first is often a subtype of the second.
func normalPair(g *Generator, h *hierarchy.Hierarchy) (api.Type, api.Type) {
	for {
		s, t := g.Pair()
		switch g.IntN(10) {
		case 0:
			t = s
		case 1:
			t = Union(t, s)
		case 2:
			s, t = Tuple(Box(s), s), Exists(t, Tuple(Box(Variable(0)), Variable(0)))
		case 3, 4, 5:
			s = splittable(g)
			l, _ := dnf.Expand(s)
			t = g.Above(l)
		}
		x, err := normalize.Normalize(h, s)
		y, errY := normalize.Normalize(h, t)
		if err == api.OK && errY == api.OK {
			return x, y
		}
	}
}

// splittable returns a type with covariant occurrences that are worth a split.
func splittable(g *Generator) api.Type {
	elements := []api.Type{Variable(0), Pick(g, Box(Variable(0)), Vec(Variable(0)), Tuple(Variable(0), Box(Variable(0))))}
	for range g.IntN(3) {
		elements = append(elements, Pick(g, Variable(0), Ints(), Box(Int()), AnyBox()))
	}
	Shuffle(g, elements)
	return Exists(Pick(g, Ints(), Ints(), three(), Union(Int(), AnyBox()), paired(Ints(), Box(Variable(0)))), Tuple(elements...))
}

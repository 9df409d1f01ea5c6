package certificate_test

import (
	"math"
	"testing"

	"telpher/api"
	"telpher/certificate"
	. "telpher/typetest"
)

// P7.2: Verify accepts other choices than those of Prove.
func TestOtherChoices(t *testing.T) {
	h := SampleHierarchy()
	matched := func(branch int) api.Certificate { return assign(branch, Variable(0), toAny(2)) }
	// Of branches, also in the certificates of obligations.
	x := Tuple(Circle(), Circle())
	y := Union(Tuple(Circle(), Shape()), Tuple(Shape(), Circle()))
	expectProof(t, h, x, y, into(1))
	expectVerify(t, h, x, y, into(2), true)
	expectProof(t, h, Box(x), Exists(y, Box(Variable(0))), node(assign(1, x, into(1))))
	expectVerify(t, h, Box(x), Exists(y, Box(Variable(0))), node(assign(1, x, into(2))), true)
	expectVerify(t, h, Box(x), Exists(y, Box(Variable(0))), node(assign(1, x, into(3))), false)
	// Of a split where a branch matches, of another split, and of different ones in the parts of a split.
	x, y = paired(Ints(), Variable(0), Box(Variable(0))), normal(t, h, Tuple(Any(), Any(), AnyBox()))
	m := matched(1)
	expectProof(t, h, x, y, node(m))
	for _, c := range []api.Certificate{split(1, m, m), split(2, m, m), split(1, split(1, m, m), m), split(1, m, split(1, m, m)), split(2, split(1, m, m), split(1, m, m))} {
		expectVerify(t, h, x, y, node(c), true)
	}
	for _, c := range []api.Certificate{split(3, m, m), split(1, m), split(1, m, m, m), split(1, split(2, m, m), m), split(1, split(1, split(1, m, m), m), m), split(2, m, split(2, m, m))} {
		expectVerify(t, h, x, y, node(c), false)
	}
}

// change is a certificate that differs in one field from one that Verify accepts.
type change struct {
	name   string
	change func(c *api.Certificate)
}

func changes() []change {
	return []change{
		{"more branch", func(c *api.Certificate) { c.Branch++ }},
		{"less branch", func(c *api.Certificate) { c.Branch-- }},
		{"more split", func(c *api.Certificate) { c.Split++ }},
		{"less split", func(c *api.Certificate) { c.Split-- }},
		{"greatest branch", func(c *api.Certificate) { c.Branch = math.MaxInt }},
		{"least branch", func(c *api.Certificate) { c.Branch = math.MinInt }},
		{"greatest split", func(c *api.Certificate) { c.Split = math.MaxInt }},
		{"least split", func(c *api.Certificate) { c.Split = math.MinInt }},
		{"another term", func(c *api.Certificate) { c.Assigned = append(c.Assigned, Int()) }},
		{"a term in front", func(c *api.Certificate) { c.Assigned = append([]api.Type{Variable(0)}, c.Assigned...) }},
		{"another part", func(c *api.Certificate) { c.Parts = append(c.Parts, node()) }},
		{"another branch part", func(c *api.Certificate) { c.Parts = append(c.Parts, direct(1)) }},
		{"a part in front", func(c *api.Certificate) { c.Parts = append([]api.Certificate{node()}, c.Parts...) }},
		{"one term less", func(c *api.Certificate) { c.Assigned = c.Assigned[1:] }},
		{"other terms", func(c *api.Certificate) { c.Assigned[0] = Box(c.Assigned[0]) }},
		{"a term with another kind", func(c *api.Certificate) { c.Assigned[0].Kind++ }},
		{"a term with another name", func(c *api.Certificate) { c.Assigned[0].Name += "x" }},
		{"a term with another index", func(c *api.Certificate) { c.Assigned[0].Index++ }},
		{"the last part less", func(c *api.Certificate) { c.Parts = c.Parts[:len(c.Parts)-1] }},
		{"the first part less", func(c *api.Certificate) { c.Parts = c.Parts[1:] }},
		{"the parts in another order", func(c *api.Certificate) { c.Parts[0], c.Parts[1] = c.Parts[1], c.Parts[0] }},
		{"the first part twice", func(c *api.Certificate) { c.Parts[1] = c.Parts[0] }},
	}
}

// applies reports whether there is something to change.
func (d change) applies(c api.Certificate) bool {
	switch d.name {
	case "one term less", "other terms", "a term with another kind", "a term with another name", "a term with another index":
		return len(c.Assigned) > 0
	case "the last part less", "the first part less":
		return len(c.Parts) > 0
	case "the parts in another order", "the first part twice":
		return len(c.Parts) > 1 && !sameCertificate(c.Parts[0], c.Parts[1])
	}
	return true
}

// eachNode visits copies of c, in each of them another node, which may be changed.
func eachNode(c api.Certificate, visit func(whole, changed *api.Certificate)) {
	for i := range certificate.Size(c) {
		whole := copyCertificate(c)
		left := i
		visit(&whole, nodeAt(&whole, &left))
	}
}

func nodeAt(c *api.Certificate, left *int) *api.Certificate {
	if *left == 0 {
		return c
	}
	*left--
	for i := range c.Parts {
		if found := nodeAt(&c.Parts[i], left); found != nil {
			return found
		}
	}
	return nil
}

func copyCertificate(c api.Certificate) api.Certificate {
	c.Assigned = append([]api.Type{}, c.Assigned...)
	parts := c.Parts
	c.Parts = nil
	for _, part := range parts {
		c.Parts = append(c.Parts, copyCertificate(part))
	}
	return c
}

// changing returns pairs of types whose certificates have all kinds of nodes, but no two choices.
func changing(t *testing.T) [][2]api.Type {
	h := SampleHierarchy()
	both := normal(t, h, Union(Tuple(Bool(), AnyBox()), Tuple(Int(), AnyBox())))
	return [][2]api.Type{
		{Int(), Any()}, {Ints(), three()}, {Never(), Int()},
		{Named("Swap", Ints(), Box(three())), Named("Map", Box(three()), Box(Ints()))},
		{Tuple(Int(), Bool(), Box(Ints()), Vec(Ints())), paired(Union(Bool(), Int(), Shape()), Variable(0), Box(Variable(0)), List(Variable(0)))},
		{paired(Ints(), Box(Variable(0))), both},
		{Exists(Any(), Tuple(Named("Pair", Variable(0), Ints()), Box(Named("Map", Variable(0), Box(Ints()))))), Exists(Exists(Any(), Exists(Any(), Named("Map", Variable(1), Box(Variable(0))))), Tuple(Variable(0), Box(Variable(0))))},
		{Exists(Ints(), Tuple(Box(Variable(0)), Box(Variable(0)))), Exists(three(), Tuple(Box(Variable(0)), Box(Variable(0))))},
	}
}

// P7.2: Verify rejects certificates in which one field is changed, removed or added.
func TestChangedCertificates(t *testing.T) {
	h := SampleHierarchy()
	applied := map[string]int{}
	for _, pair := range changing(t) {
		c, ok := certificate.Prove(h, pair[0], pair[1])
		if !ok {
			t.Errorf("Prove(%s, %s) is false", Text(pair[0]), Text(pair[1]))
		}
		expectVerify(t, h, pair[0], pair[1], c, true)
		for _, d := range changes() {
			eachNode(c, func(whole, changed *api.Certificate) {
				if !d.applies(*changed) {
					return
				}
				d.change(changed)
				applied[d.name]++
				if certificate.Verify(h, pair[0], pair[1], *whole) {
					t.Errorf("Verify(%s, %s, %s) is true for a certificate with %s", Text(pair[0]), Text(pair[1]), brief(*whole), d.name)
				}
			})
		}
	}
	for _, d := range changes() {
		if applied[d.name] < 4 {
			t.Errorf("%s: only %d certificates", d.name, applied[d.name])
		}
	}
}

// P7.2: Verify rejects a Branch or Split that is out of range, and a node of both kinds.
func TestOutOfRange(t *testing.T) {
	h := SampleHierarchy()
	for _, branch := range []int{0, 3, -1, 1 << 31, math.MaxInt, math.MinInt} {
		expectVerify(t, h, Int(), Ints(), into(branch), false)
	}
	expectVerify(t, h, Int(), Ints(), into(2), true)
	x, y := paired(Ints(), Box(Variable(0))), Tuple(Any(), Any())
	parts := []api.Certificate{direct(1), direct(1)}
	for _, occurrence := range []int{0, 2, 3, -1, 1 << 31, math.MaxInt, math.MinInt} {
		expectVerify(t, h, x, y, node(split(occurrence, parts...)), false)
		expectVerify(t, h, x, y, node(split(occurrence)), false)
		expectVerify(t, h, Int(), Any(), node(split(occurrence)), false)
		expectVerify(t, h, Int(), Any(), node(split(occurrence, direct(1))), false)
	}
	expectVerify(t, h, x, y, node(split(1, parts...)), true)
	expectVerify(t, h, x, y, node(api.Certificate{Branch: 1, Split: 1, Parts: parts}), false)
	expectVerify(t, h, x, y, node(api.Certificate{Branch: 1, Split: 1}), false)
	expectVerify(t, h, x, y, node(api.Certificate{Split: 1, Assigned: []api.Type{Variable(0)}, Parts: parts}), false)
	for _, c := range []api.Certificate{{Branch: 1, Parts: into(1).Parts}, {Split: 1, Parts: into(1).Parts}, {Assigned: []api.Type{Int()}, Parts: into(1).Parts}, direct(1), {}} {
		expectVerify(t, h, Int(), Any(), c, false)
	}
	// An occurrence in an argument is not covariant.
	expectVerify(t, h, Exists(Ints(), Box(Variable(0))), Any(), node(split(1, parts...)), false)
}

// P7.2: Verify rejects certificates that would be right if parts that do not match did.
func TestNoMatch(t *testing.T) {
	h := SampleHierarchy()
	twice := Exists(Any(), Tuple(Box(Variable(0)), Box(Variable(0))))
	both := func(x, y api.Type) api.Type { return Exists(Any(), Exists(Any(), Tuple(x, y))) }
	before := paired(Any(), Box(Variable(0)))
	first := node(assign(1, Variable(0), toAny(1)))
	for _, c := range []struct {
		x, y api.Type
		c    api.Certificate
	}{
		// The parts of the bodies.
		{Box(Int()), Tuple(Int()), into(1)}, {Tuple(Int()), Box(Int()), node(direct(1, self(1), self(1)))}, {Tuple(Int()), Int(), into(1)}, {Tuple(Int()), Tuple(Int(), Int()), into(1)}, {Tuple(Int(), Int()), Tuple(Int()), into(1)}, {Any(), Int(), into(1)}, {Int(), Tuple(), into(1)},
		{List(Int()), Vec(Int()), node(direct(1, self(1), self(1)))}, {Bool(), Int(), into(1)}, {Shape(), Circle(), into(1)}, {paired(Shape(), Box(Variable(0))), Tuple(Circle(), Any()), into(1)},
		// Arguments, of which one is closed and the other one is not.
		{Exists(Int(), Box(Variable(0))), Box(Int()), node(direct(1, self(1), self(1)))}, {Exists(Int(), Box(Box(Variable(0)))), Box(Box(Int())), node(direct(1, boxed(self(1)), boxed(self(1))))}, {Box(Ints()), Exists(Any(), Box(Box(Variable(0)))), node(assign(1, Ints(), toAny(2)))},
		{Exists(Any(), Box(Vec(Variable(0)))), Exists(Any(), Box(List(Variable(0)))), first}, {Exists(Any(), Box(Variable(0))), Exists(Any(), Box(List(Variable(0)))), first}, {Box(Vec(Int())), Exists(Any(), Box(List(Variable(0)))), node(assign(1, Int(), toAny(1)))},
		// Terms that have to agree.
		{both(Box(Variable(1)), Box(Variable(0))), twice, first}, {Exists(Any(), Tuple(Box(Variable(0)), Box(Int()))), twice, first}, {Exists(Any(), Tuple(Box(Int()), Box(Variable(0)))), twice, node(assign(1, Int(), toAny(1)))},
		{Exists(Any(), Tuple(Box(Vec(Variable(0))), Box(List(Variable(0))))), twice, node(assign(1, Vec(Variable(0)), toAny(1)))}, {Exists(Any(), Tuple(Box(Vec(Variable(0))), Box(Variable(0)))), twice, node(assign(1, Vec(Variable(0)), toAny(1)))},
		{both(Box(Vec(Variable(1))), Box(Vec(Variable(0)))), twice, node(assign(1, Vec(Variable(0)), toAny(1)))},
		// The part at a covariant occurrence, and an assigned term that is not closed.
		{both(Variable(1), Tuple(Box(Variable(0)), Box(Variable(1)))), paired(Any(), Tuple(Box(Variable(0)), Any())), node(assign(1, Variable(1), toAny(1)))}, {Exists(Any(), Tuple(Int(), Box(Variable(0)))), before, first}, {Exists(Any(), Tuple(Box(Variable(0)), Box(Variable(0)))), before, first},
		{Exists(Any(), Tuple(List(Variable(0)), Box(Vec(Variable(0))))), before, node(assign(1, Vec(Variable(0)), toAny(1)))}, {Exists(Any(), Tuple(Int(), Box(Vec(Variable(0))))), before, node(assign(1, Vec(Variable(0)), toAny(1)))}, {both(Vec(Variable(1)), Box(List(Variable(0)))), before, node(assign(1, List(Variable(1)), toAny(1)))},
		{Exists(Any(), Tuple(Vec(Int()), Box(List(Variable(0))))), before, node(assign(1, List(Variable(0)), toAny(1)))}, {Exists(List(Any()), Tuple(Variable(0), Box(List(Variable(0))))), before, node(assign(1, List(Variable(0)), toAny(1)))},
	} {
		expectNormal(t, h, c.x, c.y)
		expectVerify(t, h, c.x, c.y, c.c, false)
		expectNoProof(t, h, c.x, c.y)
	}
}

// P7.2: Verify returns false for types that are not normal, whatever the certificate is.
func TestNotNormal(t *testing.T) {
	h := SampleHierarchy()
	for _, c := range []struct {
		x, y api.Type
		c    api.Certificate
	}{
		{Union(Int(), Bool()), Any(), into(1, 1)}, {Int(), Union(Int(), Bool()), into(1)}, {Union(Int(), Int()), Any(), into(1, 1)}, {Int(), Union(Any(), Int()), into(1)}, {Union(Circle(), Shape()), Shape(), into(1, 1)},
		{Box(Union(Int(), Bool())), Any(), into(1)}, {Tuple(Ints()), Any(), into(1, 1)}, {Tuple(Never()), Int(), node()}, {Exists(Any(), Int()), Any(), into(1)}, {Int(), Exists(Int(), Variable(0)), into(1)},
		{Exists(Union(Int(), Bool()), Box(Variable(0))), Any(), into(1)}, {Named("Unknown"), Any(), into(1)}, {Named("Box"), Any(), into(1)}, {Int(), Union(Int(), Named("Unknown")), into(1)},
		{Variable(0), Any(), into(1)}, {Box(Variable(0)), Any(), into(1)}, {Node(9), Any(), node()}, {Int(), Node(9), node()}, {Node(9), Node(9), node()}, {Nest(12, Box, Int()), Any(), into(1)},
	} {
		expectVerify(t, h, c.x, c.y, c.c, false)
	}
	expectVerify(t, h, Ints(), Any(), into(1, 1), true)
}

// P7.2: Size counts all nodes, and Equal compares all fields, of arbitrary certificates.
func TestSizeAndEqual(t *testing.T) {
	odd := api.Certificate{Branch: -5, Split: math.MinInt + 9, Assigned: []api.Type{Node(9, Variable(-1)), Any()}, Parts: []api.Certificate{{Split: math.MaxInt - 9}, {}, {Parts: []api.Certificate{{}, {Assigned: []api.Type{Int()}}}}}}
	for _, c := range []struct {
		c    api.Certificate
		size int
	}{{api.Certificate{}, 1}, {direct(-1), 1}, {self(3), 4}, {odd, 6}, {node(odd, odd), 13}, {api.Certificate{Assigned: Repeat(9, Int())}, 1}} {
		if got := certificate.Size(c.c); got != c.size {
			t.Errorf("Size(%s) = %d, want %d", brief(c.c), got, c.size)
		}
	}
	whole := node(odd, direct(1, odd))
	if !certificate.Equal(whole, copyCertificate(whole)) {
		t.Error("a certificate is not equal to a copy")
	}
	for _, d := range changes() {
		eachNode(whole, func(changed, at *api.Certificate) {
			if !d.applies(*at) {
				return
			}
			d.change(at)
			if certificate.Equal(whole, *changed) || certificate.Equal(*changed, whole) || !certificate.Equal(*changed, *changed) {
				t.Errorf("Equal does not see a certificate with %s", d.name)
			}
		})
	}
}

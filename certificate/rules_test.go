package certificate_test

import (
	"fmt"
	"math"
	"slices"
	"testing"

	"telpher/api"
	"telpher/certificate"
	"telpher/hierarchy"
	"telpher/subtype"
	. "telpher/typetest"
)

// oddCertificates returns certificates that are malformed, deep or wide.
func oddCertificates() []api.Certificate {
	l := []api.Certificate{{}, direct(1), {Branch: math.MinInt, Split: math.MaxInt}, node(split(-1)), node(direct(1, node())), nested(1 << 16), flat(1 << 16), into(1, 2, 3), node(split(1, nested(9), direct(1)))}
	for _, x := range append(Malformed(), DeepTerms()...) {
		l = append(l, api.Certificate{Assigned: []api.Type{x, x}}, node(assign(1, x, node(), toAny(1))))
	}
	return l
}

// P0.1, rules 1, 2 and 5: all functions end with some result for all arguments, and change none of them.
func TestOddArguments(t *testing.T) {
	l := append(Malformed(), Int(), Any(), Never(), Ints(), AnyBox(), Tuple(Ints(), Int()), Box(Union(Int(), Bool())), paired(Ints(), Box(Variable(0))), paired(Never(), Box(Variable(0))))
	certificates := oddCertificates()
	before := show([]any{l, certificates[7:20]})
	for _, h := range []*hierarchy.Hierarchy{SampleHierarchy(), hierarchy.New(), new(hierarchy.Hierarchy), nil} {
		for i, x := range l {
			for _, y := range l {
				expectSomeResult(t, h, x, y)
			}
			expectVerify(t, h, x, Int(), certificates[i%len(certificates)], false)
			expectVerify(t, h, Int(), x, certificates[i%len(certificates)], false)
		}
		for _, c := range certificates {
			expectVerify(t, h, Tuple(Int(), Bool()), Tuple(Int(), Int()), c, false)
		}
	}
	for _, c := range certificates {
		if b, err := certificate.Encode(c); err != api.OK && b != nil {
			t.Errorf("Encode(%s) returns bytes with error %d", brief(c), err)
		}
		if !certificate.Equal(c, c) || certificate.Size(c) < 1 {
			t.Errorf("%s is not equal to itself, or has no nodes", brief(c))
		}
	}
	if show([]any{l, certificates[7:20]}) != before {
		t.Error("an argument was changed")
	}
}

func expectSomeResult(t *testing.T, h *hierarchy.Hierarchy, x, y api.Type) {
	t.Helper()
	c, ok := certificate.Prove(h, x, y)
	if !ok && !sameCertificate(c, api.Certificate{}) || ok && !subtype.IsSubtype(h, x, y) {
		t.Errorf("Prove(%s, %s) = %s, %v", Text(x), Text(y), brief(c), ok)
	}
}

// P0.1, rule 1: types may nest deep.
func TestDeepTypes(t *testing.T) {
	h := SampleHierarchy()
	deep := DeepTerms()
	for i, x := range deep {
		for _, y := range []api.Type{Any(), AnyBox(), deep[(i+1)%len(deep)]} {
			expectNoProof(t, h, x, y)
			expectNoProof(t, h, y, x)
		}
	}
}

// P0.1, rule 5: no hierarchy at all counts as a new one, and no bytes are too few.
func TestNoArguments(t *testing.T) {
	if c, ok := certificate.Prove(nil, Int(), Ints()); !ok || !certificate.Verify(nil, Int(), Ints(), c) {
		t.Errorf("Prove without a hierarchy = %s, %v", brief(c), ok)
	}
	expectDecodeError(t, "", api.ErrTruncated)
	if c, err := certificate.Decode(nil); err != api.ErrTruncated || !sameCertificate(c, api.Certificate{}) {
		t.Errorf("Decode(nil) = %s, error %d", brief(c), err)
	}
}

// P0.1, rule 1: deep certificates are measured and compared.
func TestDeepCertificates(t *testing.T) {
	deep, other := nested(1<<16), nested(1<<16)
	if size := certificate.Size(deep); size != 1<<16 {
		t.Errorf("Size is %d", size)
	}
	at := &other
	for len(at.Parts) > 0 {
		at = &at.Parts[0]
	}
	if !certificate.Equal(deep, nested(1<<16)) {
		t.Error("deep certificates are not equal")
	}
	at.Assigned = []api.Type{Int()}
	if certificate.Equal(deep, other) {
		t.Error("deep certificates are equal")
	}
}

// scribble overwrites all memory to which a certificate leads.
func scribble(c api.Certificate) {
	for _, x := range c.Assigned {
		Scribble(x)
	}
	for _, part := range c.Parts {
		scribble(part)
	}
	assigned, parts := c.Assigned[:cap(c.Assigned)], c.Parts[:cap(c.Parts)]
	for i := range assigned {
		assigned[i] = Node(1000)
	}
	for i := range parts {
		parts[i] = direct(1000)
	}
}

// assignedTerms returns all terms in a certificate.
func assignedTerms(c api.Certificate) []api.Type {
	l := slices.Clone(c.Assigned)
	for _, part := range c.Parts {
		l = append(l, assignedTerms(part)...)
	}
	return l
}

// shareParts reports whether two nodes hold the same memory.
func shareParts(c api.Certificate, known map[any]bool) bool {
	var places []any
	if len(c.Parts) > 0 {
		places = append(places, &c.Parts[0])
	}
	if len(c.Assigned) > 0 {
		places = append(places, &c.Assigned[0])
	}
	for _, place := range places {
		if known[place] {
			return true
		}
		known[place] = true
	}
	return slices.ContainsFunc(c.Parts, func(part api.Certificate) bool { return shareParts(part, known) })
}

// P0.1, rule 2: results share no memory with arguments, the hierarchy, or other results, nor do
// the parts of one result.
func TestResultsShareNoMemory(t *testing.T) {
	h := SampleHierarchy()
	Declare(h, api.Decl{Name: "Named", Super: List(Tuple(Box(Ints()), Int()))})
	pairs := append(changing(t),
		[2]api.Type{Tuple(Box(Tuple(AnyBox())), Vec(Tuple(AnyBox()))), Exists(Any(), Tuple(Box(Variable(0)), List(Variable(0))))},
		[2]api.Type{Tuple(Named("Named"), Named("Named")), Exists(Any(), Exists(Any(), Tuple(List(Variable(1)), List(Variable(0)))))},
		[2]api.Type{Tuple(Box(Box(Int())), Box(Box(Int())), Box(AnyBox())), paired(Any(), Variable(0), Box(Variable(0)))})
	for _, pair := range pairs {
		before := show([]any{pair, h.Decls()})
		first, _ := certificate.Prove(h, pair[0], pair[1])
		second, _ := certificate.Prove(h, pair[0], pair[1])
		b, _ := certificate.Encode(first)
		decoded, _ := certificate.Decode(b)
		kept := show(second)
		for _, c := range []api.Certificate{first, decoded} {
			if ShareMemory(assignedTerms(c)...) || shareParts(c, map[any]bool{}) {
				t.Errorf("parts of the certificate for %s share memory", Text(pair[0]))
			}
			scribble(c)
		}
		for i := range b {
			b[i] = 0xff
		}
		if show([]any{pair, h.Decls()}) != before {
			t.Errorf("a certificate for %s shares memory with an argument", Text(pair[0]))
		}
		if again, _ := certificate.Prove(h, pair[0], pair[1]); show(second) != kept || show(again) != kept {
			t.Errorf("certificates for %s share memory", Text(pair[0]))
		}
	}
	b := []byte("\x00\x00\x01\x02\x03Int\x00\x00\x00")
	c, _ := certificate.Decode(b)
	clear(b)
	if !sameCertificate(c, assign(0, Int())) {
		t.Errorf("Decode keeps memory of its argument: %s", brief(c))
	}
}

// P0.1, rule 2: valid arguments, the hierarchy among them, are not changed.
func TestArgumentsUnchanged(t *testing.T) {
	h := SampleHierarchy()
	g := NewGenerator(74)
	for range 500 {
		x, y := normalPair(g, h)
		before := show([]any{x, y})
		c, _ := certificate.Prove(h, x, y)
		beforeProof := show(c)
		certificate.Verify(h, x, y, c)
		certificate.Verify(h, y, x, c)
		b, _ := certificate.Encode(c)
		beforeBytes := string(b)
		certificate.Decode(b)
		if show([]any{x, y}) != before || show(c) != beforeProof || string(b) != beforeBytes {
			t.Fatalf("the arguments %v and %v, or their certificate, were changed", x, y)
		}
	}
	if !h.Equal(SampleHierarchy()) {
		t.Error("the hierarchy was changed")
	}
}

// P0.1, rule 3: nil and empty slices are equal everywhere.
func TestNilAndEmpty(t *testing.T) {
	h := SampleHierarchy()
	empty := func(branch int) api.Certificate {
		return api.Certificate{Branch: branch, Assigned: []api.Type{}, Parts: []api.Certificate{}}
	}
	bare := api.Certificate{Parts: []api.Certificate{empty(1)}, Assigned: []api.Type{}}
	if !certificate.Equal(bare, into(1)) || !certificate.Equal(into(1), bare) {
		t.Error("Equal tells nil and empty slices apart")
	}
	expectVerify(t, h, Int(), Any(), bare, true)
	expectVerify(t, h, Never(), Any(), empty(0), true)
	expectEncoding(t, bare, "\x00\x00\x00\x01\x01\x00\x00\x00")
	x := api.Type{Kind: api.KindNamed, Name: "Int", Args: []api.Type{}}
	if c, ok := certificate.Prove(h, Box(x), Box(Int())); !ok || !certificate.Verify(h, Box(Int()), Box(x), c) || !sameCertificate(c, boxed(self(1))) {
		t.Errorf("Prove with empty slices = %s, %v", brief(c), ok)
	}
	expectVerify(t, h, Box(x), Exists(api.Type{Args: []api.Type{}}, Box(Variable(0))), node(assign(1, x, toAny(1))), true)
	expectVerify(t, h, Box(Int()), AnyBox(), node(assign(1, x, toAny(1))), true)
}

// P7.4 and P5.5: certificates stay valid when declarations are added to the hierarchy, and stay
// those of Prove.
func TestDeclaredLater(t *testing.T) {
	h := SampleHierarchy()
	g := NewGenerator(75)
	type proof struct {
		x, y api.Type
		c    api.Certificate
		ok   bool
	}
	var proofs []proof
	related := 0
	for range 600 {
		x, y := normalPair(g, h)
		c, ok := certificate.Prove(h, x, y)
		proofs = append(proofs, proof{x, y, c, ok})
		if ok {
			related++
		}
	}
	if related < 200 {
		t.Errorf("only %d types are related", related)
	}
	disc := Named("Disc")
	expectVerify(t, h, disc, Shape(), into(1), false)
	for _, d := range LaterDecls() {
		Declare(h, d)
		for _, p := range proofs {
			if again, ok := certificate.Prove(h, p.x, p.y); ok != p.ok || !sameCertificate(again, p.c) {
				t.Errorf("the declaration of %s changes Prove(%s, %s)", d.Name, Text(p.x), Text(p.y))
			}
			expectVerify(t, h, p.x, p.y, p.c, p.ok)
		}
	}
	expectProof(t, h, disc, Shape(), into(1))
	expectNoProof(t, SampleHierarchy(), disc, Shape())
}

// P0.1, rule 1: supertypes that grow threefold at each step, of types that are not normal, end in no time.
func TestGrowingSupertypes(t *testing.T) {
	h := hierarchy.New()
	Declare(h, api.Decl{Name: "Triple", Arity: 3}, api.Decl{Name: "D0", Arity: 1})
	for i := range 50 {
		Declare(h, api.Decl{Name: fmt.Sprintf("D%d", i+1), Arity: 1, Super: Named(fmt.Sprintf("D%d", i), Named("Triple", Repeat(3, Variable(0))...))})
	}
	anyD0 := Exists(Any(), Named("D0", Variable(0)))
	for _, x := range []api.Type{Named("D50", Int()), Exists(Any(), Named("D50", Variable(0))), Union(Named("D50", Int()), Any()), Tuple(Named("D49", Int()), Int())} {
		for _, y := range []api.Type{anyD0, Union(anyD0, Any()), Tuple(anyD0, Any())} {
			if c, ok := certificate.Prove(h, x, y); !ok && !sameCertificate(c, api.Certificate{}) {
				t.Errorf("Prove(%s, %s) = %s, %v", Text(x), Text(y), brief(c), ok)
			}
			expectVerify(t, h, x, y, node(assign(1, Int(), toAny(1))), false)
		}
	}
	triple := Named("Triple", Repeat(3, Int())...)
	expectProof(t, h, Named("D1", Int()), anyD0, node(assign(1, triple, toAny(1))))
	expectProof(t, h, Named("D2", Int()), anyD0, node(assign(1, Named("Triple", Repeat(3, triple)...), toAny(1))))
}

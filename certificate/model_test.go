package certificate_test

import (
	"slices"
	"testing"

	"telpher/api"
	"telpher/certificate"
	"telpher/dnf"
	"telpher/hierarchy"
	"telpher/subtype"
	"telpher/typeterm"
	. "telpher/typetest"
)

// model follows P7.1 and P7.2 to the letter, on top of the relation of package subtype. It gives up
// on certificates that are too large for a test.
type model struct {
	h      *hierarchy.Hierarchy
	nodes  int
	splits int
}

const mostNodes = 3000

func (m *model) gaveUp() bool { return m.nodes > mostNodes }

// obligation is that branches are subtypes of a type.
type obligation struct {
	branches []api.Branch
	above    api.Type
}

// walk lists the obligations of one direct certificate.
type walk struct {
	*model
	b         api.Branch
	assigned  []api.Type
	met       []bool // the variables that have been assigned so far
	arguments []obligation
	covariant []obligation
}

func expand(t api.Type) []api.Branch {
	l, _ := dnf.Expand(t)
	return l
}

// mutual returns the obligations of two terms that agree: of each pair of closed ones two.
func mutual(x, y api.Type) []obligation {
	if len(typeterm.FreeVars(x)) == 0 {
		return []obligation{{expand(x), y}, {expand(y), x}}
	}
	var l []obligation
	for i := range x.Args {
		l = append(l, mutual(x.Args[i], y.Args[i])...)
	}
	return l
}

func (w *walk) argument(x, y api.Type) {
	switch {
	case y.Kind == api.KindVar && !w.met[y.Index]:
		w.met[y.Index] = true
	case y.Kind == api.KindVar:
		w.arguments = append(w.arguments, mutual(w.assigned[y.Index], x)...)
	case len(typeterm.FreeVars(y)) == 0:
		w.arguments = append(w.arguments, mutual(x, y)...)
	default:
		for i := range x.Args {
			w.argument(x.Args[i], y.Args[i])
		}
	}
}

func (w *walk) part(x, y api.Type) {
	switch y.Kind {
	case api.KindTuple:
		for i := range x.Args {
			w.part(x.Args[i], y.Args[i])
		}
	case api.KindNamed:
		super, _ := w.h.Supertype(x, y.Name)
		for i := range super.Args {
			w.argument(super.Args[i], y.Args[i])
		}
	case api.KindVar:
		term := w.assigned[y.Index]
		if len(typeterm.FreeVars(term)) == 0 {
			w.covariant = append(w.covariant, obligation{dnf.ExpandPart(w.b, x), term})
		} else if term.Kind == api.KindNamed {
			super, _ := w.h.Supertype(x, term.Name)
			w.covariant = append(w.covariant, mutual(super, term)...)
		}
	}
}

// obligations returns the terms that Match assigns, and what P7.1 asks of a direct certificate.
func (m *model) obligations(b, p api.Branch) ([]api.Type, []obligation, bool) {
	assigned, ok := subtype.Match(m.h, b, p)
	if !ok {
		return nil, nil, false
	}
	w := walk{model: m, b: b, assigned: assigned, met: make([]bool, len(assigned))}
	w.part(b.Body, p.Body)
	all := append(w.arguments, w.covariant...)
	for i, bound := range p.Bounds {
		all = append(all, obligation{dnf.ExpandPart(b, assigned[i]), bound})
	}
	return assigned, all, true
}

// choose orders the choices for a branch certificate, of which the first that is possible is taken:
// of the branches 1, 2, and so on, and of the splits -1, -2, and so on.
type choose func(branches, splits int) []int

// inOrder makes the choices of Prove.
func inOrder(branches, splits int) []int {
	var l []int
	for i := range branches {
		l = append(l, i+1)
	}
	for k := range splits {
		l = append(l, -1-k)
	}
	return l
}

// prove returns the certificate of obligations that hold.
func (m *model) prove(o obligation, order choose) api.Certificate {
	var c api.Certificate
	m.nodes++
	for _, b := range o.branches {
		c.Parts = append(c.Parts, m.proveBranch(b, o.above, order))
	}
	return c
}

func (m *model) proveBranch(b api.Branch, t api.Type, order choose) api.Certificate {
	m.nodes++
	if m.gaveUp() {
		return api.Certificate{}
	}
	patterns := expand(t)
	for _, choice := range order(len(patterns), len(dnf.CovariantVars(b))) {
		if choice < 0 {
			parts, _ := dnf.SplitAt(b, -1-choice)
			if m.areBelow(parts, t) {
				m.splits++
				return api.Certificate{Split: -choice, Parts: m.prove(obligation{parts, t}, order).Parts}
			}
			continue
		}
		assigned, l, ok := m.obligations(b, patterns[choice-1])
		if ok {
			c := api.Certificate{Branch: choice, Assigned: assigned}
			for _, o := range l {
				c.Parts = append(c.Parts, m.prove(o, order))
			}
			return c
		}
	}
	panic("no choice is possible")
}

func (m *model) areBelow(l []api.Branch, t api.Type) bool {
	return !slices.ContainsFunc(l, func(b api.Branch) bool { return !subtype.BranchIsSubtype(m.h, b, t) })
}

// verify reports whether c is a type certificate for an obligation.
func (m *model) verify(c api.Certificate, o obligation) bool {
	return c.Branch == 0 && c.Split == 0 && len(c.Assigned) == 0 && m.verifyAll(c.Parts, o.branches, o.above)
}

func (m *model) verifyAll(parts []api.Certificate, l []api.Branch, t api.Type) bool {
	return slices.EqualFunc(parts, l, func(part api.Certificate, b api.Branch) bool { return m.verifyBranch(part, b, t) })
}

func (m *model) verifyBranch(c api.Certificate, b api.Branch, t api.Type) bool {
	patterns := expand(t)
	switch {
	case c.Branch == 0 && c.Split > 0:
		parts, ok := dnf.SplitAt(b, c.Split-1)
		return ok && len(c.Assigned) == 0 && m.verifyAll(c.Parts, parts, t)
	case c.Split != 0 || c.Branch <= 0 || c.Branch > len(patterns):
		return false
	}
	assigned, l, ok := m.obligations(b, patterns[c.Branch-1])
	return ok && slices.EqualFunc(assigned, c.Assigned, Same) && slices.EqualFunc(c.Parts, l, m.verify)
}

// P7.2 and P7.4: Prove returns the certificate of the model, or false exactly if the types are not
// related, and Verify accepts it.
func TestAgreesWithModel(t *testing.T) {
	h := SampleHierarchy()
	g := NewGenerator(72)
	var holds, fails, splits, gaveUp int
	for range 12000 {
		x, y := normalPair(g, h)
		c, ok := certificate.Prove(h, x, y)
		if ok != subtype.IsSubtype(h, x, y) {
			t.Fatalf("Prove(%s, %s) = %v", Text(x), Text(y), ok)
		}
		if !ok {
			fails++
			continue
		}
		m := &model{h: h}
		want := m.prove(obligation{expand(x), y}, inOrder)
		switch {
		case m.gaveUp():
			gaveUp++
			continue
		case m.splits > 0:
			splits++
		default:
			holds++
		}
		if !sameCertificate(c, want) {
			t.Fatalf("Prove(%v, %v) = %s, want %s", x, y, brief(c), brief(want))
		}
		expectVerify(t, h, x, y, c, true)
		if b, err := certificate.Encode(c); err == api.OK {
			if back, err := certificate.Decode(b); err != api.OK || !sameCertificate(back, c) {
				t.Fatalf("the certificate %s is decoded as %s, error %d", brief(c), brief(back), err)
			}
		}
	}
	if min(holds, fails, splits) < 500 || gaveUp > 100 {
		t.Errorf("the types are too much alike: %d with a certificate, %d with splits, %d without, %d not decided", holds, splits, fails, gaveUp)
	}
}

// P7.2 and P7.4: Verify accepts certificates with any choices, and only those.
func TestVerifyAgreesWithModel(t *testing.T) {
	h := SampleHierarchy()
	g := NewGenerator(73)
	shuffled := func(branches, splits int) []int {
		l := inOrder(branches, splits)
		Shuffle(g, l)
		return l
	}
	var accepted, rejected, other int
	for range 4000 {
		x, y := normalPair(g, h)
		o := obligation{expand(x), y}
		m := &model{h: h}
		c := changed(g, api.Certificate{})
		if subtype.IsSubtype(h, x, y) {
			c = m.prove(o, shuffled)
			if m.gaveUp() {
				continue
			}
			expectVerify(t, h, x, y, c, true)
			if first, _ := certificate.Prove(h, x, y); !sameCertificate(first, c) {
				other++
			}
		}
		for range 4 {
			c = changed(g, c)
			want := m.verify(c, o)
			if certificate.Verify(h, x, y, c) != want {
				t.Fatalf("Verify(%v, %v, %s) is not %v", x, y, brief(c), want)
			}
			if want {
				accepted++
			} else {
				rejected++
			}
		}
	}
	if min(accepted, rejected, 2*other) < 200 {
		t.Errorf("the certificates are too much alike: %d accepted, %d rejected, %d with other choices", accepted, rejected, other)
	}
}

// changed returns a copy of c that is changed in one node, and still right in some cases.
func changed(g *Generator, c api.Certificate) api.Certificate {
	c = copyCertificate(c)
	left := g.IntN(certificate.Size(c))
	at := nodeAt(&c, &left)
	switch g.IntN(9) {
	case 0:
		at.Branch = g.IntN(4)
	case 1:
		at.Split = g.IntN(3)
	case 2:
		at.Assigned = append(at.Assigned, Pick(g, Int(), Variable(0), Any()))
	case 3:
		for i := range at.Assigned {
			at.Assigned[i] = Pick(g, at.Assigned[i], Int(), Ints(), Variable(g.IntN(2)), Box(at.Assigned[i]))
		}
	case 4:
		at.Parts = append(at.Parts, node(direct(1)))
	case 5:
		at.Parts = at.Parts[:g.IntN(len(at.Parts)+1)]
	case 6:
		Shuffle(g, at.Parts)
	case 7:
		*at = Pick(g, direct(1), node(direct(1)), self(2), split(1, direct(1), direct(2)))
	case 8:
		for i := range at.Parts {
			at.Parts[i] = at.Parts[0]
		}
	}
	return c
}

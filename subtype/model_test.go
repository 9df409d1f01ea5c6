package subtype_test

import (
	"math/rand/v2"
	"slices"
	"testing"

	"telpher/api"
	"telpher/dnf"
	"telpher/hierarchy"
	"telpher/subtype"
	"telpher/typeterm"
	. "telpher/typetest"
)

// model follows P5.1 to P5.4 to the letter: it tries all splits in all orders, and decides every
// question as often as it is asked. It gives up after too many matches.
type model struct {
	h       *hierarchy.Hierarchy
	matches int
	splits  int // how many splits have led to a subtype
}

const mostMatches = 20000

func (m *model) gaveUp() bool { return m.matches > mostMatches }

func closed(t api.Type) bool { return len(typeterm.FreeVars(t)) == 0 }

func (m *model) agree(x, y api.Type) bool {
	switch {
	case closed(x) && closed(y) && m.equivalent(x, y):
		return true
	case x.Kind == api.KindVar && Same(x, y):
		return true
	}
	return x.Kind == api.KindNamed && y.Kind == api.KindNamed && x.Name == y.Name && slices.EqualFunc(x.Args, y.Args, m.agree)
}

func (m *model) fits(x, y api.Type, assigned []*api.Type) bool {
	switch {
	case y.Kind == api.KindVar && assigned[y.Index] == nil:
		assigned[y.Index] = &x
		return true
	case y.Kind == api.KindVar:
		return m.agree(x, *assigned[y.Index])
	case closed(y):
		return closed(x) && m.equivalent(x, y)
	}
	return x.Kind == api.KindNamed && y.Kind == api.KindNamed && x.Name == y.Name && m.allFit(x.Args, y.Args, assigned)
}

func (m *model) allFit(x, y []api.Type, assigned []*api.Type) bool {
	return slices.EqualFunc(x, y, func(x, y api.Type) bool { return m.fits(x, y, assigned) })
}

// isPartBelow decides P5.2 for a part of b and a closed or an assigned term.
func (m *model) isPartBelow(b api.Branch, x, y api.Type) bool {
	switch {
	case closed(y):
		return !slices.ContainsFunc(dnf.ExpandPart(b, x), func(part api.Branch) bool { return !m.isBelow(part, y) })
	case y.Kind == api.KindVar:
		return Same(x, y)
	}
	super, ok := m.h.Supertype(x, y.Name)
	return ok && y.Kind == api.KindNamed && slices.EqualFunc(super.Args, y.Args, m.agree)
}

// deferral is a part of b at a covariant occurrence of a variable of the pattern.
type deferral struct {
	part     api.Type
	variable int
}

func (m *model) compare(x, y api.Type, assigned []*api.Type, deferred *[]deferral) bool {
	switch y.Kind {
	case api.KindAny:
		return true
	case api.KindVar:
		*deferred = append(*deferred, deferral{x, y.Index})
		return true
	case api.KindTuple:
		return x.Kind == api.KindTuple && slices.EqualFunc(x.Args, y.Args, func(x, y api.Type) bool { return m.compare(x, y, assigned, deferred) })
	}
	super, ok := m.h.Supertype(x, y.Name)
	return ok && m.allFit(super.Args, y.Args, assigned)
}

func (m *model) match(b, p api.Branch) ([]api.Type, bool) {
	m.matches++
	assigned := make([]*api.Type, len(p.Bounds))
	var deferred []deferral
	if m.gaveUp() || !m.compare(b.Body, p.Body, assigned, &deferred) {
		return nil, false
	}
	for _, d := range deferred {
		if !m.isPartBelow(b, d.part, *assigned[d.variable]) {
			return nil, false
		}
	}
	var terms []api.Type
	for i, bound := range p.Bounds {
		if !m.isPartBelow(b, *assigned[i], bound) {
			return nil, false
		}
		terms = append(terms, *assigned[i])
	}
	return terms, true
}

func (m *model) isBelow(b api.Branch, t api.Type) bool {
	patterns, err := dnf.Expand(t)
	if err != api.OK {
		return false
	}
	for _, p := range patterns {
		if _, ok := m.match(b, p); ok {
			return true
		}
	}
	for k := range dnf.CovariantVars(b) {
		if m.areAllBelow(split(b, k), t) {
			m.splits++
			return true
		}
	}
	return false
}

func split(b api.Branch, k int) []api.Branch {
	l, ok := dnf.SplitAt(b, k)
	if !ok {
		panic("SplitAt fails")
	}
	return l
}

func (m *model) areAllBelow(l []api.Branch, t api.Type) bool {
	return !m.gaveUp() && !slices.ContainsFunc(l, func(b api.Branch) bool { return !m.isBelow(b, t) })
}

func (m *model) isSubtype(s, t api.Type) bool {
	l, err := dnf.Expand(s)
	_, errT := dnf.Expand(t)
	return err == api.OK && errT == api.OK && m.areAllBelow(l, t)
}

func (m *model) equivalent(s, t api.Type) bool { return m.isSubtype(s, t) && m.isSubtype(t, s) }

// generator makes types in a sequence that is always the same.
type generator struct{ *rand.Rand }

func newGenerator(seed uint64) generator { return generator{rand.New(rand.NewPCG(5, seed))} }

func pick[T any](g generator, l ...T) T { return l[g.IntN(len(l))] }

// term returns a valid term with so many levels, all of whose free variables are below vars.
func (g generator) term(levels, vars int) api.Type {
	choice := g.IntN(40)
	switch {
	case vars > 0 && choice < 14:
		return Variable(g.IntN(vars))
	case levels <= 0 || choice < 20:
		return g.plain(2, vars)
	case choice < 22:
		return pick(g, Any(), Any(), Any(), Never())
	case choice < 29:
		return Tuple(g.terms(1+g.IntN(3), levels-1, vars)...)
	case choice < 31:
		return Union(g.terms(2, levels-1, vars)...)
	}
	return Exists(g.bound(), g.quantified(levels-1, vars+1))
}

// quantified returns a term in which variable 0 often has occurrences of both kinds.
func (g generator) quantified(levels, vars int) api.Type {
	if g.IntN(4) == 0 {
		return g.term(levels, vars)
	}
	elements := []api.Type{Variable(0), pick(g, Box(Variable(0)), Box(Variable(0)), vec(Variable(0)), Box(Box(Variable(0))))}
	for range g.IntN(3) {
		elements = append(elements, pick(g, Variable(0), g.term(levels-1, vars), g.term(levels-1, vars)))
	}
	g.Shuffle(len(elements), func(i, j int) { elements[i], elements[j] = elements[j], elements[i] })
	return Tuple(elements...)
}

func (g generator) terms(count, levels, vars int) []api.Type {
	var l []api.Type
	for range count {
		l = append(l, g.term(levels, vars))
	}
	return l
}

// bound returns an upper bound, often one that is worth a split.
func (g generator) bound() api.Type {
	return pick(g, Any(), Any(), Int(), ints(), ints(), shape(), circle(), Union(Int(), shape()), anyBox(), Box(Int()), Box(ints()), vec(Int()), Tuple(Int()),
		Exists(ints(), Tuple(Variable(0), Box(Variable(0)))), Union(Int(), Exists(Any(), Tuple(Variable(0), vec(Variable(0))))), Never())
}

// plain returns a plain nominal type.
func (g generator) plain(levels, vars int) api.Type {
	argument := func() api.Type {
		switch choice := g.IntN(8); {
		case vars > 0 && choice < 4:
			return Variable(g.IntN(vars))
		case levels == 0 || choice < 6:
			return pick(g, Int(), Bool(), circle(), shape(), Any(), ints())
		case choice < 7:
			return g.term(1, 0)
		}
		return g.plain(levels-1, vars)
	}
	switch choice := g.IntN(10); {
	case choice < 3:
		return pick(g, Int(), Bool(), circle(), shape(), Named("Text"))
	case choice < 8:
		return Named(pick(g, "Box", "Box", "List", "Vec", "Ring", "Coll"), argument())
	}
	return Named(pick(g, "Map", "Pair", "Swap"), argument(), argument())
}

// above returns a body or a plain term that is often a supertype of t, and sometimes not.
func (g generator) above(t api.Type, vars int) api.Type {
	switch choice := g.IntN(24); {
	case choice == 0:
		return Any()
	case choice == 1 && vars > 0:
		return Variable(g.IntN(vars))
	case choice == 2:
		return g.plain(1, vars)
	}
	t.Args = slices.Clone(t.Args)
	for i, arg := range t.Args {
		switch {
		case t.Kind == api.KindTuple:
			t.Args[i] = g.above(arg, vars)
		case t.Kind == api.KindNamed && vars > 0 && g.IntN(3) == 0:
			t.Args[i] = Variable(g.IntN(vars))
		}
	}
	return t
}

// aboveBranches returns the union of types above the branches of some splits of l.
func (g generator) aboveBranches(l []api.Branch) api.Type {
	l = slices.Clone(l)
	for range g.IntN(4) {
		for i, b := range l {
			if count := len(dnf.CovariantVars(b)); count > 0 && g.IntN(2) == 0 {
				l = slices.Concat(l[:i], split(b, g.IntN(count)), l[i+1:])
				break
			}
		}
	}
	var members []api.Type
	for _, b := range l {
		if g.IntN(12) > 0 {
			vars := len(b.Bounds) + g.IntN(3)
			members = append(members, dnf.BranchType(Branch(g.above(b.Body, vars), g.boundsAbove(b.Bounds, vars)...)))
		}
	}
	for range 2 - min(len(members), 2) {
		members = append(members, g.term(3, 0))
	}
	return Union(members...)
}

func (g generator) boundsAbove(bounds []api.Type, count int) []api.Type {
	bounds = slices.Clone(bounds)
	for i := range bounds {
		if g.IntN(3) == 0 {
			bounds[i] = Any()
		}
	}
	for len(bounds) < count {
		bounds = append(bounds, g.bound())
	}
	return bounds
}

// pair returns two types, of which the first is often a subtype of the second.
func (g generator) pair() (api.Type, api.Type) {
	s := g.term(1+g.IntN(5), 0)
	l, err := dnf.Expand(s)
	if err != api.OK || g.IntN(4) == 0 {
		return s, g.term(1+g.IntN(4), 0)
	}
	return s, g.aboveBranches(l)
}

// P5.1 to P5.4: the functions agree with the model on many types.
func TestAgreesWithModel(t *testing.T) {
	g := newGenerator(1)
	h := newHierarchy()
	var holds, fails, splits, matched, gaveUp int
	for range 40000 {
		x, y := g.pair()
		m := &model{h: h}
		want := m.isSubtype(x, y)
		if m.gaveUp() {
			gaveUp++
			continue
		}
		if got := subtype.IsSubtype(h, x, y); got != want {
			t.Fatalf("IsSubtype(%v, %v) = %v", x, y, got)
		}
		switch {
		case want && m.splits > 0:
			splits++
		case want:
			holds++
		default:
			fails++
		}
		matched += expectSameMatches(t, h, x, y)
	}
	if min(holds, fails, splits, matched) < 500 || gaveUp > 1000 {
		t.Errorf("the types are too much alike: %d subtypes, %d others, %d with splits, %d matches, %d not decided", holds, fails, splits, matched, gaveUp)
	}
}

// expectSameMatches compares the results of Match and BranchIsSubtype for all branches of two
// types with those of the model. It returns the number of matches that assign terms.
func expectSameMatches(t *testing.T, h *hierarchy.Hierarchy, x, y api.Type) int {
	t.Helper()
	count := 0
	branches, _ := dnf.Expand(x)
	patterns, _ := dnf.Expand(y)
	for _, b := range branches {
		for _, p := range patterns {
			m := &model{h: h}
			want, ok := m.match(b, p)
			if m.gaveUp() {
				continue
			}
			got, gotOK := subtype.Match(h, b, p)
			if ok != gotOK || !slices.EqualFunc(got, want, Same) {
				t.Fatalf("Match(%v, %v) = %v, %v; want %v, %v", b, p, got, gotOK, want, ok)
			}
			if len(want) > 0 {
				count++
			}
		}
		m := &model{h: h}
		if want := m.isBelow(b, y); !m.gaveUp() && want != subtype.BranchIsSubtype(h, b, y) {
			t.Fatalf("BranchIsSubtype(%v, %v) is not %v", b, y, want)
		}
	}
	return count
}

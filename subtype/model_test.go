package subtype_test

import (
	"slices"
	"testing"

	"telpher/api"
	"telpher/dnf"
	"telpher/hierarchy"
	"telpher/subtype"
	"telpher/typeterm"
	. "telpher/typetest"
)

// model follows P5.1 to P5.4 to the letter: it tries all splits in all orders, and decides every
// question as often as it is asked. It gives up after too many matches.
type model struct {
	h       *hierarchy.Hierarchy
	matches int
	splits  int // how many splits have led to a subtype
}

const mostMatches = 20000

func (m *model) gaveUp() bool { return m.matches > mostMatches }

func closed(t api.Type) bool { return len(typeterm.FreeVars(t)) == 0 }

func (m *model) agree(x, y api.Type) bool {
	switch {
	case closed(x) && closed(y) && m.equivalent(x, y):
		return true
	case x.Kind == api.KindVar && Same(x, y):
		return true
	}
	return x.Kind == api.KindNamed && y.Kind == api.KindNamed && x.Name == y.Name && slices.EqualFunc(x.Args, y.Args, m.agree)
}

func (m *model) fits(x, y api.Type, assigned []*api.Type) bool {
	switch {
	case y.Kind == api.KindVar && assigned[y.Index] == nil:
		assigned[y.Index] = &x
		return true
	case y.Kind == api.KindVar:
		return m.agree(x, *assigned[y.Index])
	case closed(y):
		return closed(x) && m.equivalent(x, y)
	}
	return x.Kind == api.KindNamed && y.Kind == api.KindNamed && x.Name == y.Name && m.allFit(x.Args, y.Args, assigned)
}

func (m *model) allFit(x, y []api.Type, assigned []*api.Type) bool {
	return slices.EqualFunc(x, y, func(x, y api.Type) bool { return m.fits(x, y, assigned) })
}

// isPartBelow decides P5.2 for a part of b and a closed or an assigned term.
func (m *model) isPartBelow(b api.Branch, x, y api.Type) bool {
	switch {
	case closed(y):
		return !slices.ContainsFunc(dnf.ExpandPart(b, x), func(part api.Branch) bool { return !m.isBelow(part, y) })
	case y.Kind == api.KindVar:
		return Same(x, y)
	}
	super, ok := m.h.Supertype(x, y.Name)
	return ok && y.Kind == api.KindNamed && slices.EqualFunc(super.Args, y.Args, m.agree)
}

// deferral is a part of b at a covariant occurrence of a variable of the pattern.
type deferral struct {
	part     api.Type
	variable int
}

func (m *model) compare(x, y api.Type, assigned []*api.Type, deferred *[]deferral) bool {
	switch y.Kind {
	case api.KindAny:
		return true
	case api.KindVar:
		*deferred = append(*deferred, deferral{x, y.Index})
		return true
	case api.KindTuple:
		return x.Kind == api.KindTuple && slices.EqualFunc(x.Args, y.Args, func(x, y api.Type) bool { return m.compare(x, y, assigned, deferred) })
	}
	super, ok := m.h.Supertype(x, y.Name)
	return ok && m.allFit(super.Args, y.Args, assigned)
}

func (m *model) match(b, p api.Branch) ([]api.Type, bool) {
	m.matches++
	assigned := make([]*api.Type, len(p.Bounds))
	var deferred []deferral
	if m.gaveUp() || !m.compare(b.Body, p.Body, assigned, &deferred) {
		return nil, false
	}
	for _, d := range deferred {
		if !m.isPartBelow(b, d.part, *assigned[d.variable]) {
			return nil, false
		}
	}
	var terms []api.Type
	for i, bound := range p.Bounds {
		if !m.isPartBelow(b, *assigned[i], bound) {
			return nil, false
		}
		terms = append(terms, *assigned[i])
	}
	return terms, true
}

func (m *model) isBelow(b api.Branch, t api.Type) bool {
	patterns, err := dnf.Expand(t)
	if err != api.OK {
		return false
	}
	for _, p := range patterns {
		if _, ok := m.match(b, p); ok {
			return true
		}
	}
	for k := range dnf.CovariantVars(b) {
		if m.areAllBelow(split(b, k), t) {
			m.splits++
			return true
		}
	}
	return false
}

func split(b api.Branch, k int) []api.Branch {
	l, ok := dnf.SplitAt(b, k)
	if !ok {
		panic("SplitAt fails")
	}
	return l
}

func (m *model) areAllBelow(l []api.Branch, t api.Type) bool {
	return !m.gaveUp() && !slices.ContainsFunc(l, func(b api.Branch) bool { return !m.isBelow(b, t) })
}

func (m *model) isSubtype(s, t api.Type) bool {
	l, err := dnf.Expand(s)
	_, errT := dnf.Expand(t)
	return err == api.OK && errT == api.OK && m.areAllBelow(l, t)
}

func (m *model) equivalent(s, t api.Type) bool { return m.isSubtype(s, t) && m.isSubtype(t, s) }

// P5.1 to P5.4: the functions agree with the model on many types.
func TestAgreesWithModel(t *testing.T) {
	g := NewGenerator(1)
	h := SampleHierarchy()
	var holds, fails, splits, matched, gaveUp int
	for range 40000 {
		x, y := g.Pair()
		m := &model{h: h}
		want := m.isSubtype(x, y)
		if m.gaveUp() {
			gaveUp++
			continue
		}
		if got := subtype.IsSubtype(h, x, y); got != want {
			t.Fatalf("IsSubtype(%v, %v) = %v", x, y, got)
		}
		switch {
		case want && m.splits > 0:
			splits++
		case want:
			holds++
		default:
			fails++
		}
		matched += expectSameMatches(t, h, x, y)
	}
	if min(holds, fails, splits, matched) < 500 || gaveUp > 1000 {
		t.Errorf("the types are too much alike: %d subtypes, %d others, %d with splits, %d matches, %d not decided", holds, fails, splits, matched, gaveUp)
	}
}

// expectSameMatches compares the results of Match and BranchIsSubtype for all branches of two
// types with those of the model. It returns the number of matches that assign terms.
func expectSameMatches(t *testing.T, h *hierarchy.Hierarchy, x, y api.Type) int {
	t.Helper()
	count := 0
	branches, _ := dnf.Expand(x)
	patterns, _ := dnf.Expand(y)
	for _, b := range branches {
		for _, p := range patterns {
			m := &model{h: h}
			want, ok := m.match(b, p)
			if m.gaveUp() {
				continue
			}
			got, gotOK := subtype.Match(h, b, p)
			if ok != gotOK || !slices.EqualFunc(got, want, Same) {
				t.Fatalf("Match(%v, %v) = %v, %v; want %v, %v", b, p, got, gotOK, want, ok)
			}
			if len(want) > 0 {
				count++
			}
		}
		m := &model{h: h}
		if want := m.isBelow(b, y); !m.gaveUp() && want != subtype.BranchIsSubtype(h, b, y) {
			t.Fatalf("BranchIsSubtype(%v, %v) is not %v", b, y, want)
		}
	}
	return count
}

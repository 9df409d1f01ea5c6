package dnf_test

import (
	"math/rand/v2"
	"slices"
	"testing"

	"telpher/api"
	"telpher/dnf"
	"telpher/typeterm"
	. "telpher/typetest"
)

// model follows P4.2 to the letter: it writes out every branch at every step. Variable i of its
// bodies has the bound bounds[i].
type model struct {
	limited bool
	failed  bool
	bounds  []api.Type
}

// modelExpand returns what Expand has to return for a valid closed term, or without limits the branches of any closed term.
func modelExpand(t api.Type, limited bool) ([]api.Branch, bool) {
	m := &model{limited: limited}
	var l []api.Branch
	for _, body := range m.expand(t, nil) {
		l = append(l, m.number(body))
	}
	if limited && slices.ContainsFunc(l, modelExceeds) || m.failed {
		return nil, false
	}
	return l, true
}

func modelExceeds(b api.Branch) bool {
	covariant := 0
	for _, v := range occurrences(b.Body, true) {
		if v.covariant {
			covariant++
		}
	}
	return covariant > api.MaxCovariant || len(b.Bounds) > api.MaxVars || slices.ContainsFunc(b.Bounds, func(bound api.Type) bool {
		l, ok := modelExpand(bound, true)
		return !ok || len(l) > api.MaxBound
	})
}

func (m *model) expand(t api.Type, scope []int) []api.Type {
	var l []api.Type
	switch t.Kind {
	case api.KindAny, api.KindNamed, api.KindVar:
		l = append(l, rename(t, func(i int) int { return scope[len(scope)-1-i] }))
	case api.KindUnion:
		for _, member := range t.Args {
			l = append(l, m.expand(member, scope)...)
		}
	case api.KindTuple:
		var lists [][]api.Type
		for _, element := range t.Args {
			lists = append(lists, m.expand(element, scope))
		}
		l = tuplesOf(nil, lists)
	case api.KindExists:
		v := len(m.bounds)
		m.bounds = append(m.bounds, t.Args[0])
		for _, body := range m.expand(t.Args[1], append(slices.Clone(scope), v)) {
			l = append(l, m.bind(body, v)...)
		}
	}
	if m.limited && len(l) > api.MaxBranches {
		m.failed = true
		return nil
	}
	return l
}

// tuplesOf returns the tuples of the elements and of one member of each list.
func tuplesOf(elements []api.Type, lists [][]api.Type) []api.Type {
	if len(lists) == 0 {
		return []api.Type{Tuple(elements...)}
	}
	var l []api.Type
	for _, next := range lists[0] {
		l = append(l, tuplesOf(append(slices.Clone(elements), next), lists[1:])...)
	}
	return l
}

// bind replaces a variable, unless it has an invariant occurrence.
func (m *model) bind(body api.Type, v int) []api.Type {
	all := occurrences(body, true)
	if slices.Contains(all, occurrence{v, false}) {
		return []api.Type{body}
	}
	first := slices.Index(all, occurrence{v, true})
	if first < 0 {
		return []api.Type{body}
	}
	var l []api.Type
	for _, choice := range m.expand(m.bounds[v], nil) {
		l = append(l, m.bind(putAt(body, first, choice), v)...)
		if m.limited && len(l) > api.MaxBranches {
			m.failed = true
			return nil
		}
	}
	return l
}

// number returns the branch with a body of m.
func (m *model) number(body api.Type) api.Branch {
	var met []int
	for _, o := range occurrences(body, true) {
		if !slices.Contains(met, o.index) {
			met = append(met, o.index)
		}
	}
	b := Branch(rename(body, func(i int) int { return slices.Index(met, i) }))
	for _, v := range met {
		b.Bounds = append(b.Bounds, m.bounds[v])
	}
	return b
}

type occurrence struct {
	index     int
	covariant bool
}

// occurrences returns the occurrences of variables outside of the closed terms in t.
func occurrences(t api.Type, covariant bool) []occurrence {
	if t.Kind == api.KindVar {
		return []occurrence{{t.Index, covariant}}
	}
	var l []occurrence
	if t.Kind == api.KindTuple || t.Kind == api.KindNamed {
		for _, arg := range t.Args {
			l = append(l, occurrences(arg, covariant && t.Kind == api.KindTuple)...)
		}
	}
	return l
}

// putAt replaces the occurrence with a number, counted from 0.
func putAt(t api.Type, at int, by api.Type) api.Type {
	if t.Kind == api.KindVar && at == 0 {
		return by
	}
	if t.Kind == api.KindTuple || t.Kind == api.KindNamed {
		t.Args = slices.Clone(t.Args)
		for i, arg := range t.Args {
			count := len(occurrences(arg, true))
			if 0 <= at && at < count {
				t.Args[i] = putAt(arg, at, by)
			}
			at -= count
		}
	}
	return t
}

func rename(t api.Type, number func(int) int) api.Type {
	for at, o := range occurrences(t, true) {
		t = putAt(t, at, Variable(number(o.index)))
	}
	return t
}

// generator makes terms in a sequence that is always the same.
type generator struct{ *rand.Rand }

func newGenerator() generator { return generator{rand.New(rand.NewPCG(4, 4))} }

// term returns a term with so many levels, all of whose free variables are below vars.
func (g generator) term(levels, vars int) api.Type {
	choice := g.IntN(40)
	switch {
	case vars > 0 && choice < 12:
		return Variable(g.IntN(vars))
	case levels == 0 || choice < 15:
		return g.plain(2, vars)
	case choice < 17:
		return []api.Type{Any(), Never()}[g.IntN(2)]
	case choice < 18:
		return many(2 + g.IntN(6))
	case choice < 28:
		return Tuple(g.terms(g.IntN(4), levels-1, vars)...)
	case choice < 32:
		return Union(g.terms(2+g.IntN(2), levels-1, vars)...)
	}
	return Exists(g.term(min(levels-1, 2), 0), g.term(levels-1, vars+1))
}

func (g generator) terms(count, levels, vars int) []api.Type {
	var l []api.Type
	for range count {
		l = append(l, g.term(levels, vars))
	}
	return l
}

// plain returns a plain nominal type.
func (g generator) plain(levels, vars int) api.Type {
	switch choice := g.IntN(8); {
	case vars > 0 && choice < 5:
		return Box(Variable(g.IntN(vars)))
	case levels == 0 || choice < 6:
		return []api.Type{Int(), Bool()}[g.IntN(2)]
	case choice < 7:
		return Box(g.term(1, 0))
	}
	return Named("Map", g.plain(levels-1, vars), g.plain(levels-1, vars))
}

// P4.2: Expand agrees with the model on many terms.
func TestExpandAgreesWithModel(t *testing.T) {
	g := newGenerator()
	var failures, empty, several, withVars int
	for range 30000 {
		x := g.term(g.IntN(8), 0)
		if typeterm.Validate(x) != api.OK {
			continue
		}
		want, ok := modelExpand(x, true)
		l, err := dnf.Expand(x)
		if ok != (err == api.OK) || !ok && err != api.ErrTooLong || !sameBranches(l, want) {
			t.Fatalf("Expand(%v) = %v, error %d; want %v, %v", x, l, err, want, ok)
		}
		switch {
		case !ok:
			failures++
		case len(l) == 0:
			empty++
		case len(l) > 1:
			several++
		}
		if slices.ContainsFunc(l, func(b api.Branch) bool { return len(b.Bounds) > 1 }) {
			withVars++
		}
	}
	if min(failures, empty, several, withVars) < 100 {
		t.Errorf("the terms are too much alike: %d failures, %d empty, %d with several branches, %d with several variables", failures, empty, several, withVars)
	}
}

// sampleBranches returns branches of many terms.
func sampleBranches() []api.Branch {
	g := newGenerator()
	var all []api.Branch
	for range 10000 {
		x := g.term(g.IntN(6), 0)
		l, _ := dnf.Expand(x)
		all = append(all, l...)
	}
	return all
}

// P4.1 and P4.3: Expand returns valid branches, and exactly b for the type of a valid branch b.
func TestBranchTypeRoundTrip(t *testing.T) {
	for _, b := range sampleBranches() {
		if !dnf.ValidBranch(b) {
			t.Fatalf("ValidBranch(%v) is false", b)
		}
		if x := dnf.BranchType(b); typeterm.Validate(x) == api.OK {
			expectExpand(t, x, b)
		}
	}
}

// P4.3: the branches of UnionOf(l) are l.
func TestUnionOfRoundTrip(t *testing.T) {
	all := sampleBranches()
	for count := range 6 {
		for l := range slices.Chunk(all, count+1) {
			if x := dnf.UnionOf(l); typeterm.Validate(x) == api.OK {
				expectExpand(t, x, l...)
			}
		}
	}
}

// P4.4: SplitAt agrees with the model.
func TestSplitAtAgreesWithModel(t *testing.T) {
	tried := 0
	for _, b := range sampleBranches() {
		for k, at := range covariantPositions(b.Body) {
			m := &model{bounds: slices.Clone(b.Bounds)}
			var want []api.Branch
			for _, choice := range m.expand(b.Bounds[dnf.CovariantVars(b)[k]], nil) {
				want = append(want, m.number(putAt(b.Body, at, choice)))
			}
			l, ok := dnf.SplitAt(b, k)
			if !ok || !sameBranches(l, want) {
				t.Fatalf("SplitAt(%v, %d) = %v, %v; want %v", b, k, l, ok, want)
			}
			tried++
		}
	}
	if tried < 100 {
		t.Errorf("only %d branches were split", tried)
	}
}

// covariantPositions returns the positions of the covariant ones among all occurrences.
func covariantPositions(body api.Type) []int {
	var l []int
	for at, o := range occurrences(body, true) {
		if o.covariant {
			l = append(l, at)
		}
	}
	return l
}

// P4.4: ExpandPart agrees with the model, in which the variables that occur are bound.
func TestExpandPartAgreesWithModel(t *testing.T) {
	for _, b := range sampleBranches() {
		for _, part := range slices.Concat(parts(b.Body), b.Bounds) {
			var vars []int
			for _, o := range occurrences(part, true) {
				vars = append(vars, o.index)
			}
			slices.Sort(vars)
			vars = slices.Compact(vars)
			x := rename(part, func(i int) int { return len(vars) - 1 - slices.Index(vars, i) })
			for _, v := range slices.Backward(vars) {
				x = Exists(b.Bounds[v], x)
			}
			want, _ := modelExpand(x, false)
			if l := dnf.ExpandPart(b, part); !sameBranches(l, want) {
				t.Fatalf("ExpandPart(%v, %v) = %v; want %v", b, part, l, want)
			}
		}
	}
}

// parts returns all parts of a body: itself, elements and arguments.
func parts(body api.Type) []api.Type {
	l := []api.Type{body}
	if body.Kind == api.KindTuple || body.Kind == api.KindNamed {
		for _, arg := range body.Args {
			l = append(l, parts(arg)...)
		}
	}
	return l
}

// hasInstance decides by the meaning of types whether c, a concrete type, is an instance of t:
// it tries types for the variables. Named types have no supertypes here but Any.
func hasInstance(t, c api.Type) bool {
	isInstance := func(member api.Type) bool { return hasInstance(member, c) }
	switch t.Kind {
	case api.KindAny:
		return true
	case api.KindNamed:
		return Same(t, c)
	case api.KindUnion:
		return slices.ContainsFunc(t.Args, isInstance)
	case api.KindTuple:
		return c.Kind == api.KindTuple && slices.EqualFunc(t.Args, c.Args, hasInstance)
	case api.KindExists:
		// At covariant occurrences alone, the bound itself serves best.
		bound, body := t.Args[0], t.Args[1]
		return isInstance(typeterm.Substitute(body, bound)) || slices.ContainsFunc(parts(c), func(part api.Type) bool {
			return hasInstance(bound, part) && isInstance(typeterm.Substitute(body, part))
		})
	}
	return false
}

// concreteTypes returns many concrete types.
func concreteTypes() []api.Type {
	l := []api.Type{Int(), Bool(), Tuple()}
	for range 2 {
		for _, x := range l[:min(len(l), 8)] {
			l = append(l, Box(x), Tuple(x))
			for _, y := range l[:min(len(l), 6)] {
				l = append(l, Named("Map", x, y), Tuple(x, y), Tuple(y, x, Box(y)))
			}
		}
	}
	return l
}

// P4.5: the instances of a type are those of its branches.
func TestInstances(t *testing.T) {
	g := newGenerator()
	all := concreteTypes()
	instances := 0
	for range 1500 {
		x := g.term(g.IntN(6), 0)
		l, err := dnf.Expand(x)
		if err != api.OK {
			continue
		}
		for _, c := range all {
			of := hasInstance(x, c)
			ofBranch := slices.ContainsFunc(l, func(b api.Branch) bool { return hasInstance(dnf.BranchType(b), c) })
			if of != ofBranch {
				t.Fatalf("%v is an instance of %v: %v; of one of its branches %v: %v", c, x, of, l, ofBranch)
			}
			if of && x.Kind != api.KindAny {
				instances++
			}
		}
	}
	if instances < 100 {
		t.Errorf("only %d instances", instances)
	}
}

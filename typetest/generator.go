package typetest

import (
	"slices"

	"telpher/api"
	"telpher/dnf"
)

// A Generator makes types of the sample hierarchy in a sequence that is always the same.
type Generator struct{ state uint64 }

// NewGenerator returns a generator of a sequence of its own.
func NewGenerator(seed uint64) *Generator { return &Generator{seed << 32} }

// IntN returns a number below n, by the method called splitmix64.
func (g *Generator) IntN(n int) int {
	g.state += 0x9e3779b97f4a7c15
	x := g.state
	x = (x ^ x>>30) * 0xbf58476d1ce4e5b9
	x = (x ^ x>>27) * 0x94d049bb133111eb
	x ^= x >> 31
	return int(x % uint64(n))
}

// Pick returns a member of a list.
func Pick[T any](g *Generator, l ...T) T { return l[g.IntN(len(l))] }

// Shuffle changes the order of a list.
func Shuffle[T any](g *Generator, l []T) {
	for i := range l {
		j := g.IntN(i + 1)
		l[i], l[j] = l[j], l[i]
	}
}

// Term returns a valid term with so many levels, all of whose free variables are below vars.
func (g *Generator) Term(levels, vars int) api.Type {
	choice := g.IntN(40)
	switch {
	case vars > 0 && choice < 14:
		return Variable(g.IntN(vars))
	case levels <= 0 || choice < 20:
		return g.Plain(2, vars)
	case choice < 22:
		return Pick(g, Any(), Any(), Any(), Never())
	case choice < 29:
		return Tuple(g.terms(1+g.IntN(3), levels-1, vars)...)
	case choice < 31:
		return Union(g.terms(2, levels-1, vars)...)
	}
	return Exists(g.Bound(), g.quantified(levels-1, vars+1))
}

// quantified returns a term in which variable 0 often has occurrences of both kinds.
func (g *Generator) quantified(levels, vars int) api.Type {
	if g.IntN(4) == 0 {
		return g.Term(levels, vars)
	}
	elements := []api.Type{Variable(0), Pick(g, Box(Variable(0)), Box(Variable(0)), Vec(Variable(0)), Box(Box(Variable(0))))}
	for range g.IntN(3) {
		elements = append(elements, Pick(g, Variable(0), g.Term(levels-1, vars), g.Term(levels-1, vars)))
	}
	Shuffle(g, elements)
	return Tuple(elements...)
}

func (g *Generator) terms(count, levels, vars int) []api.Type {
	var l []api.Type
	for range count {
		l = append(l, g.Term(levels, vars))
	}
	return l
}

// Bound returns an upper bound, often one that is worth a split.
func (g *Generator) Bound() api.Type {
	return Pick(g, Any(), Any(), Int(), Ints(), Ints(), Shape(), Circle(), Union(Int(), Shape()), AnyBox(), Box(Int()), Box(Ints()), Vec(Int()), Tuple(Int()),
		Exists(Ints(), Tuple(Variable(0), Box(Variable(0)))), Union(Int(), Exists(Any(), Tuple(Variable(0), Vec(Variable(0))))), Never())
}

// Plain returns a plain nominal type.
func (g *Generator) Plain(levels, vars int) api.Type {
	argument := func() api.Type {
		switch choice := g.IntN(8); {
		case vars > 0 && choice < 4:
			return Variable(g.IntN(vars))
		case levels == 0 || choice < 6:
			return Pick(g, Int(), Bool(), Circle(), Shape(), Any(), Ints())
		case choice < 7:
			return g.Term(1, 0)
		}
		return g.Plain(levels-1, vars)
	}
	switch choice := g.IntN(10); {
	case choice < 3:
		return Pick(g, Int(), Bool(), Circle(), Shape(), Named("Text"))
	case choice < 8:
		return Named(Pick(g, "Box", "Box", "List", "Vec", "Ring", "Coll"), argument())
	}
	return Named(Pick(g, "Map", "Pair", "Swap"), argument(), argument())
}

// above returns a body or a plain term that is often a supertype of t, and sometimes not.
func (g *Generator) above(t api.Type, vars int) api.Type {
	switch choice := g.IntN(24); {
	case choice == 0:
		return Any()
	case choice == 1 && vars > 0:
		return Variable(g.IntN(vars))
	case choice == 2:
		return g.Plain(1, vars)
	}
	t.Args = slices.Clone(t.Args)
	for i, arg := range t.Args {
		switch {
		case t.Kind == api.KindTuple:
			t.Args[i] = g.above(arg, vars)
		case t.Kind == api.KindNamed && vars > 0 && g.IntN(3) == 0:
			t.Args[i] = Variable(g.IntN(vars))
		}
	}
	return t
}

// Above returns the union of types above the branches of some splits of l.
func (g *Generator) Above(l []api.Branch) api.Type {
	var members []api.Type
	for _, b := range g.split(l) {
		if g.IntN(12) > 0 {
			vars := len(b.Bounds) + g.IntN(3)
			members = append(members, dnf.BranchType(Branch(g.above(b.Body, vars), g.boundsAbove(b.Bounds, vars)...)))
		}
	}
	for range 2 - min(len(members), 2) {
		members = append(members, g.Term(3, 0))
	}
	return Union(members...)
}

// split replaces some branches of a list by the branches of splits.
func (g *Generator) split(l []api.Branch) []api.Branch {
	l = slices.Clone(l)
	for range g.IntN(4) {
		for i, b := range l {
			if count := len(dnf.CovariantVars(b)); count > 0 && g.IntN(2) == 0 {
				parts, _ := dnf.SplitAt(b, g.IntN(count))
				l = slices.Concat(l[:i], parts, l[i+1:])
				break
			}
		}
	}
	return l
}

func (g *Generator) boundsAbove(bounds []api.Type, count int) []api.Type {
	bounds = slices.Clone(bounds)
	for i := range bounds {
		if g.IntN(3) == 0 {
			bounds[i] = Any()
		}
	}
	for len(bounds) < count {
		bounds = append(bounds, g.Bound())
	}
	return bounds
}

// Pair returns two types, of which the first is often a subtype of the second.
func (g *Generator) Pair() (api.Type, api.Type) {
	s := g.Term(1+g.IntN(5), 0)
	l, err := dnf.Expand(s)
	if err != api.OK || g.IntN(4) == 0 {
		return s, g.Term(1+g.IntN(4), 0)
	}
	return s, g.Above(l)
}

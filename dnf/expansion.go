package dnf

import (
	"slices"

	"telpher/api"
)

// mostNodes is the number of nodes that fit into 2^31 - 1 bytes, at 56 bytes a node.
// Nothing is promised for larger answers, so that they need not use up the memory.
const mostNodes = (1<<31 - 1) / 56

// An expansion finds the branches of closed terms. In the bodies that it works on, a KindVar
// node with index i denotes symbol i.
type expansion struct {
	limited bool // whether the limits of Expand apply
	symbols []*symbol
}

// A symbol is either a variable or a branch that was chosen for an occurrence of a variable.
// A chosen branch is written out only when all branches are known: bounds in bounds make
// bodies far larger than the term, and often for branches of which nothing remains.
type symbol struct {
	chosen *branch // nil for a variable

	bound    api.Type
	expanded bool  // whether choices and tooMany are known
	choices  []int // a symbol for each branch of the bound
	tooMany  bool
}

// scope holds the symbols of the variables of a term: that with de Bruijn index 0 is the last one.
type scope []int

// symbol returns the symbol of a variable. Only in a malformed term there may be none.
func (s scope) symbol(index int) (int, bool) {
	if index < 0 || index >= len(s) {
		return 0, false
	}
	return s[len(s)-1-index], true
}

// inSymbols returns a body or a plain term with symbols as its variables.
func (s scope) inSymbols(t api.Type) api.Type {
	return replaceVars(t, func(index int, _ bool) api.Type {
		id, ok := s.symbol(index)
		if !ok {
			return api.Type{Kind: api.KindNever}
		}
		return variable(id)
	})
}

func (x *expansion) add(s symbol) int {
	x.symbols = append(x.symbols, &s)
	return len(x.symbols) - 1
}

func (x *expansion) declare(bound api.Type) int { return x.add(symbol{bound: bound}) }

// declareAll returns the scope of the body of a branch, in which variable 0 comes last as well.
func (x *expansion) declareAll(bounds []api.Type) scope {
	var all scope
	for _, bound := range slices.Backward(bounds) {
		all = append(all, x.declare(bound))
	}
	return all
}

// mostBranches returns how many branches of at least so many nodes a term may have.
func (x *expansion) mostBranches(nodes int) int {
	if x.limited {
		return api.MaxBranches
	}
	return mostNodes / nodes
}

// branches returns the branches of a closed term, or false if it or a part of it has too many.
func (x *expansion) branches(t api.Type) ([]*branch, bool) {
	bodies, ok := x.bodies(t, nil)
	return x.measureAll(bodies), ok
}

// bodies returns the bodies of the branches of t, or false if it or a part of it has too many.
func (x *expansion) bodies(t api.Type, around scope) ([]api.Type, bool) {
	switch t.Kind {
	case api.KindAny, api.KindNamed, api.KindVar:
		return []api.Type{around.inSymbols(t)}, true
	case api.KindTuple:
		return x.tupleBodies(t.Args, around)
	case api.KindUnion:
		return x.gather(members(t, nil), func(member api.Type) ([]api.Type, bool) { return x.bodies(member, around) })
	case api.KindExists:
		if len(t.Args) == 2 {
			return x.existsBodies(t.Args[0], t.Args[1], around)
		}
	}
	return nil, true
}

// members appends to l the members of a union, with those of unions in it one by one: the
// branches would be copied at each level of unions that are nested deep.
func members(t api.Type, l []api.Type) []api.Type {
	if t.Kind != api.KindUnion {
		return append(l, t)
	}
	for _, member := range t.Args {
		l = members(member, l)
	}
	return l
}

// gather joins what find returns for each of the terms, or returns false if that is too much.
func (x *expansion) gather(terms []api.Type, find func(api.Type) ([]api.Type, bool)) ([]api.Type, bool) {
	var all []api.Type
	for _, t := range terms {
		bodies, ok := find(t)
		if !ok || len(all)+len(bodies) > x.mostBranches(1) {
			return nil, false
		}
		all = append(all, bodies...)
	}
	return all, true
}

func (x *expansion) tupleBodies(elements []api.Type, around scope) ([]api.Type, bool) {
	var lists [][]api.Type
	for _, element := range elements {
		bodies, ok := x.bodies(element, around)
		if !ok {
			return nil, false
		}
		lists = append(lists, bodies)
	}
	chosen, ok := combinations(lists, x.mostBranches(1+len(lists)))
	var tuples []api.Type
	for _, args := range chosen {
		tuples = append(tuples, api.Type{Kind: api.KindTuple, Args: args})
	}
	return tuples, ok
}

func (x *expansion) existsBodies(bound, body api.Type, around scope) ([]api.Type, bool) {
	id := x.declare(bound)
	bodies, ok := x.bodies(body, append(around, id))
	if !ok {
		return nil, false
	}
	return x.bind(bodies, id)
}

// bind returns the bodies with branches of the bound in the place of a variable, except where
// it has an invariant occurrence.
func (x *expansion) bind(bodies []api.Type, id int) ([]api.Type, bool) {
	return x.gather(bodies, func(body api.Type) ([]api.Type, bool) { return x.bindOne(body, id) })
}

func (x *expansion) bindOne(body api.Type, id int) ([]api.Type, bool) {
	covariant, invariant := countVar(body, id)
	if covariant == 0 || invariant > 0 {
		return []api.Type{body}, true
	}
	choices, ok := x.choices(id)
	if !ok {
		return nil, false
	}
	chosen, ok := combinations(slices.Repeat([][]int{choices}, covariant), x.mostBranches(covariant))
	var bodies []api.Type
	for _, list := range chosen {
		bodies = append(bodies, relabel(body, func(_, index int) int {
			if index != id {
				return index
			}
			choice := list[0]
			list = list[1:]
			return choice
		}))
	}
	return bodies, ok
}

// countVar returns the numbers of covariant and of invariant occurrences of a variable.
func countVar(body api.Type, id int) (covariant, invariant int) {
	eachVar(body, func(index int, isCovariant bool) {
		switch {
		case index != id:
		case isCovariant:
			covariant++
		default:
			invariant++
		}
	})
	return covariant, invariant
}

// choices returns a symbol for each branch of the bound of a variable, or false if there are
// too many. A bound is expanded once at most, and only if it is needed.
func (x *expansion) choices(id int) ([]int, bool) {
	s := x.symbols[id]
	if !s.expanded {
		found, ok := x.branches(s.bound)
		for _, b := range found {
			s.choices = append(s.choices, x.add(symbol{chosen: b}))
		}
		s.tooMany = !ok
		s.expanded = true
	}
	return s.choices, !s.tooMany
}

// combinations returns the ways to choose one member of each list, where the choice from the
// last one varies fastest, or false if there are more than most.
func combinations[T any](lists [][]T, most int) ([][]T, bool) {
	if slices.ContainsFunc(lists, func(list []T) bool { return len(list) == 0 }) {
		return nil, true
	}
	count := 1
	for _, list := range lists {
		if count > most/len(list) {
			return nil, false
		}
		count *= len(list)
	}
	all := [][]T{nil}
	for _, list := range lists {
		all = extendAll(all, list)
	}
	return all, true
}

// extendAll extends each combination by each member of a list that is not empty. Only the last
// member is added without a copy, when the shorter combination has no other use.
func extendAll[T any](combinations [][]T, list []T) [][]T {
	last := len(list) - 1
	var longer [][]T
	for _, shorter := range combinations {
		for _, member := range list[:last] {
			longer = append(longer, append(slices.Clone(shorter), member))
		}
		longer = append(longer, append(shorter, list[last]))
	}
	return longer
}

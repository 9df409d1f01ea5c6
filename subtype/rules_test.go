package subtype_test

import (
	"fmt"
	"slices"
	"testing"

	"telpher/api"
	"telpher/hierarchy"
	"telpher/subtype"
	. "telpher/typetest"
)

// oddBranches returns branches that are not valid, and some that are.
func oddBranches() []api.Branch {
	l := []api.Branch{
		Branch(Variable(0)), Branch(Variable(0), Any()), Branch(Tuple(Variable(0)), Ints()), Branch(Tuple(Variable(-1), Variable(5)), Int()), Branch(Box(Variable(3)), Int(), Bool()),
		Branch(Int(), Repeat(9, Variable(0))...), Branch(Tuple(Variable(1), Variable(0), Box(Variable(1))), Variable(0), Node(9)), Branch(Tuple(Repeat(5, Variable(0))...), Exists(Ints(), Tuple(Variable(0), Variable(0)))),
		Branch(Tuple(Variable(0), Box(Variable(0))), Any()), Branch(Tuple(Tuple(Variable(0), Variable(1)), Box(Variable(0)), Vec(Tuple())), Ints(), Never()),
	}
	for _, x := range Malformed() {
		l = append(l, Branch(x), Branch(x, Ints(), Any()), Branch(Tuple(x, Variable(0), Box(Variable(0))), x), Branch(Tuple(Variable(0), Variable(1), Box(x), Vec(Variable(0)), Box(Variable(1))), Any(), x))
	}
	return l
}

// P0.1, rules 1, 2 and 5: all functions end with some result for all arguments, and change none of them.
func TestMalformedArguments(t *testing.T) {
	l, branches := Malformed(), oddBranches()
	before, beforeBranches := show(l), show(branches)
	zero := new(hierarchy.Hierarchy)
	for i, h := range []*hierarchy.Hierarchy{SampleHierarchy(), hierarchy.New(), zero, nil} {
		for _, x := range l {
			for _, y := range l {
				if subtype.Equivalent(h, x, y) != (subtype.IsSubtype(h, x, y) && subtype.IsSubtype(h, y, x)) {
					t.Errorf("Equivalent(%v, %v) is not IsSubtype in both directions", x, y)
				}
			}
			for _, b := range branches {
				subtype.BranchIsSubtype(h, b, x)
			}
		}
		for _, b := range branches {
			for _, p := range branches[i%2:] {
				if terms, ok := subtype.Match(h, b, p); !ok && terms != nil || ok && len(terms) != len(p.Bounds) {
					t.Errorf("Match(%v, %v) = %v, %v", b, p, terms, ok)
				}
			}
		}
	}
	if show(l) != before || show(branches) != beforeBranches {
		t.Error("an argument was changed")
	}
	expectSubtype(t, nil, Int(), Ints(), true)
	expectSubtype(t, zero, Box(Int()), AnyBox(), true)
	// A variable that a pattern does not let be assigned has no term.
	for _, p := range []api.Branch{Branch(Any(), Int()), Branch(Tuple(Variable(0)), Any()), Branch(Box(Variable(1)), Any()), Branch(Variable(0), Any())} {
		for _, b := range []api.Branch{Branch(Int()), Branch(Tuple(Int())), Branch(Box(Int()))} {
			if terms, ok := subtype.Match(SampleHierarchy(), b, p); ok || terms != nil {
				t.Errorf("Match(%v, %v) = %v, %v", b, p, terms, ok)
			}
		}
	}
}

// P0.1, rule 2: valid arguments, the hierarchy among them, are not changed either.
func TestArgumentsUnchanged(t *testing.T) {
	h := SampleHierarchy()
	g := NewGenerator(6)
	for range 300 {
		x, y := g.Pair()
		b := Branch(Tuple(Box(x), Variable(0), Vec(Variable(0))), y)
		before := show([]any{x, y, b})
		answers(h, []api.Type{x, y})
		subtype.Match(h, b, b)
		subtype.BranchIsSubtype(h, b, y)
		if show([]any{x, y, b}) != before {
			t.Fatalf("the arguments %v, %v and %v were changed", x, y, b)
		}
	}
	if !h.Equal(SampleHierarchy()) {
		t.Error("the hierarchy was changed")
	}
}

// P0.1, rule 2: the terms that Match returns share no memory with the arguments, the hierarchy, another result or one another.
func TestResultsShareNoMemory(t *testing.T) {
	h := SampleHierarchy()
	Declare(h, api.Decl{Name: "Named", Super: List(Exists(Ints(), Tuple(Variable(0), Box(Variable(0))))), Concrete: true})
	argument := Tuple(Ints(), Box(AnyBox()))
	open := Named("Map", Variable(0), argument)
	b := Branch(Tuple(Box(open), Vec(open), Box(argument), Vec(argument), Named("Named"), Named("Unit", Tuple(argument.Args[:0]...))), Ints())
	p := Branch(Tuple(Box(Variable(0)), Vec(Variable(1)), Box(Variable(2)), Vec(Variable(3)), List(Variable(4)), Named("Unit", Variable(5))), Repeat(6, Any())...)
	before := show([]any{b, p, h.Decls()})
	first, ok := subtype.Match(h, b, p)
	second, _ := subtype.Match(h, b, p)
	if !ok || len(first) != 6 {
		t.Fatalf("Match(%v, %v) = %v, %v", b, p, first, ok)
	}
	kept := show(second)
	for i := range first {
		others := show(first[i+1:])
		Scribble(first[i])
		if show(first[i+1:]) != others {
			t.Errorf("term %d shares memory with another one", i)
		}
	}
	Scribble(Tuple(first...))
	if show([]any{b, p, h.Decls()}) != before {
		t.Error("a result shares memory with an argument")
	}
	if third, _ := subtype.Match(h, b, p); show(second) != kept || show(third) != kept {
		t.Error("results share memory")
	}
}

// P0.1, rule 3: nil and empty slices are equal everywhere.
func TestNilAndEmpty(t *testing.T) {
	empty := []api.Type{}
	bare := api.Type{Kind: api.KindNamed, Name: "Int", Args: empty}
	x := Tuple(bare, api.Type{Args: empty}, Box(api.Type{Kind: api.KindTuple, Args: empty}), Box(bare))
	y := Tuple(Int(), Any(), Box(Tuple()), Box(Int()))
	expectEquivalent(t, x, y)
	expectEquivalent(t, Exists(Any(), Tuple(api.Type{Kind: api.KindVar, Args: empty}, Box(Variable(0)))), Exists(Any(), Tuple(Variable(0), Box(api.Type{Kind: api.KindVar, Args: empty}))))
	for _, bounds := range [][]api.Type{nil, empty} {
		terms, ok := subtype.Match(SampleHierarchy(), api.Branch{Bounds: bounds, Body: x}, api.Branch{Bounds: bounds, Body: y})
		if !ok || len(terms) > 0 {
			t.Errorf("Match with empty slices = %v, %v", terms, ok)
		}
	}
}

// P0.1, rules 1 and 9: terms may nest deep.
func TestDeepTerms(t *testing.T) {
	h := SampleHierarchy()
	l := DeepTerms()
	for i, x := range l {
		y := l[(i+3)%len(l)]
		expectSubtype(t, h, x, y, false)
		p := Branch(Tuple(Variable(0), y, Box(Variable(0))), x)
		subtype.Match(h, Branch(x, y), Branch(x, x))
		subtype.Match(h, Branch(Tuple(x, Box(Variable(0)), Box(y)), y), p)
		subtype.BranchIsSubtype(h, Branch(Tuple(x, Variable(0), Box(Variable(0))), y), Exists(Any(), Tuple(Tuple(Int()), Variable(0), Box(Variable(0)))))
	}
	if terms, ok := subtype.Match(h, Branch(l[0], Ints()), Branch(l[0], Any())); !ok || !slices.EqualFunc(terms, []api.Type{Variable(0)}, Same) {
		t.Errorf("Match of deep arguments = %s, %v", brief(terms), ok)
	}
	if terms, ok := subtype.Match(h, Branch(l[3], Ints()), Branch(l[3], Any())); !ok || !slices.EqualFunc(terms, []api.Type{Variable(0)}, Same) {
		t.Errorf("Match of deep bodies = %s, %v", brief(terms), ok)
	}
	if terms, ok := subtype.Match(h, Branch(l[1]), Branch(List(Variable(0)), Any())); !ok || !slices.EqualFunc(terms, l[1].Args, Same) {
		t.Errorf("Match with a deep argument = %s, %v", brief(terms), ok)
	}
	if !subtype.BranchIsSubtype(h, Branch(l[2], Ints()), Tuple(Tuple(Any()))) || subtype.BranchIsSubtype(h, Branch(l[2], Ints()), Tuple(Tuple(Tuple()))) {
		t.Error("BranchIsSubtype of a deep branch")
	}
}

// P0.1, rule 1: branches may be wide.
func TestWideBranches(t *testing.T) {
	const count = 20000
	h := SampleHierarchy()
	b, p := Branch(Tuple()), Branch(Tuple())
	for i := range count {
		b.Body.Args = append(b.Body.Args, Variable(i), Box(Variable(i)), Tuple(Variable(i), Vec(Variable(i))))
		p.Body.Args = append(p.Body.Args, Variable(i), Box(Variable(i)), Tuple(Any(), List(Variable(i))))
		b.Bounds = append(b.Bounds, Ints())
		p.Bounds = append(p.Bounds, Any())
	}
	if terms, ok := subtype.Match(h, b, p); !ok || len(terms) != count || !Same(terms[count-1], Variable(count-1)) {
		t.Errorf("Match of wide branches = %s, %v", brief(terms), ok)
	}
	p.Body.Args[0] = Box(Variable(0))
	if terms, ok := subtype.Match(h, b, p); ok || terms != nil {
		t.Errorf("Match of wide branches = %s, %v", brief(terms), ok)
	}
	for _, x := range []api.Type{Never(), Int(), Tuple(), Union(Tuple(Repeat(6, Any())...), Box(Any()))} {
		if subtype.BranchIsSubtype(h, b, x) {
			t.Errorf("a wide branch is a subtype of %v", x)
		}
	}
	if !subtype.BranchIsSubtype(h, b, Union(Int(), Any())) {
		t.Error("a wide branch is not a subtype of Any")
	}
}

// P0.1, rule 1, and P5.4: supertypes that grow threefold at each step end in no time, and count like others.
func TestGrowingSupertypes(t *testing.T) {
	h := hierarchy.New()
	thrice := func(t api.Type) api.Type { return Named("Triple", t, t, t) }
	Declare(h, api.Decl{Name: "Triple", Arity: 3}, api.Decl{Name: "Box", Arity: 1}, api.Decl{Name: "D0", Arity: 1})
	const steps = 50
	for i := range steps {
		Declare(h, api.Decl{Name: fmt.Sprintf("D%d", i+1), Arity: 1, Super: Named(fmt.Sprintf("D%d", i), thrice(Variable(0)))})
	}
	top := func(t api.Type) api.Type { return Named(fmt.Sprintf("D%d", steps), t) }
	bottom := func(t api.Type) api.Type { return Named("D0", t) }
	one := Exists(Any(), bottom(Variable(0)))
	two := Exists(Any(), Tuple(bottom(Variable(0)), bottom(Variable(0))))
	expectSubtype(t, h, top(Int()), one, true)
	expectSubtype(t, h, Exists(Any(), top(Variable(0))), one, true)
	expectSubtype(t, h, top(Int()), Exists(Exists(Any(), thrice(Variable(0))), bottom(Variable(0))), true)
	expectSubtype(t, h, top(Int()), Exists(AnyBox(), bottom(Variable(0))), false)
	expectSubtype(t, h, Exists(Any(), top(Variable(0))), Exists(thrice(Int()), bottom(Variable(0))), false)
	expectSubtype(t, h, Exists(Any(), Tuple(top(Variable(0)), top(Variable(0)))), two, true)
	expectSubtype(t, h, Tuple(top(Int()), top(Int())), two, true)
	expectSubtype(t, h, Tuple(top(Int()), top(Bool())), two, false)
	expectSubtype(t, h, Exists(Any(), Exists(Any(), Tuple(top(Variable(0)), top(Variable(1))))), two, false)
	expectSubtype(t, h, top(Int()), bottom(Int()), false)
	// The answer of Match would be far too large.
	if terms, ok := subtype.Match(h, Branch(top(Int())), Branch(bottom(Variable(0)), Any())); ok || terms != nil {
		t.Error("Match returns a term of 3 to the power of 50 nodes")
	}
	terms, ok := subtype.Match(h, Branch(Named("D8", Int())), Branch(bottom(Variable(0)), Any()))
	if !ok || len(terms) != 1 || !Same(terms[0], Nest(8, thrice, Int())) {
		t.Errorf("Match with a supertype eight steps up = %s, %v", brief(terms), ok)
	}
}

// P0.1, rule 1, and P5.4: bounds inside one another, with several covariant occurrences each, allow
// for more orders of splits than can be tried.
func TestNestedSplits(t *testing.T) {
	h := SampleHierarchy()
	nested := func(innermost api.Type) api.Type {
		return Nest(8, func(t api.Type) api.Type {
			return Exists(t, Tuple(Variable(0), Variable(0), Variable(0), Box(Variable(0))))
		}, innermost)
	}
	s := nested(Int())
	pattern := func(levels int, last api.Type) api.Type {
		return Nest(levels, func(t api.Type) api.Type { return Tuple(t, Any(), t, Any()) }, last)
	}
	expectSubtype(t, h, s, Never(), false)
	expectSubtype(t, h, s, Int(), false)
	expectSubtype(t, h, nested(Never()), Int(), true)
	expectSubtype(t, h, s, s, true)
	expectSubtype(t, h, s, Tuple(Any(), Any(), Any(), Box(Int())), false)
	expectSubtype(t, h, s, pattern(4, Tuple(Any(), Any(), Any(), Any())), true)
	expectSubtype(t, h, s, pattern(4, Int()), false)
	all := Nest(3, func(t api.Type) api.Type { return Tuple(t, t, t, Any()) }, Tuple(Any(), Any(), Any(), Any()))
	expectSubtype(t, h, s, all, true)
	all.Args[2].Args[2].Args[2].Args[3] = Box(Int())
	expectSubtype(t, h, s, all, false)
	expectSubtype(t, h, Tuple(s, Box(Int())), Exists(Any(), Tuple(Variable(0), Box(Variable(0)))), false)
	expectSubtype(t, h, Tuple(s, Box(pattern(3, Any()))), Exists(Any(), Tuple(Variable(0), Box(Variable(0)))), true)
	expectSubtype(t, h, Tuple(s, Box(pattern(3, Int()))), Exists(Any(), Tuple(Variable(0), Box(Variable(0)))), false)
}

// P0.1, rule 1: closed arguments inside one another are compared once, and not at each level in both directions again.
func TestNestedArguments(t *testing.T) {
	h := SampleHierarchy()
	x, y := Int(), Int()
	for range 3 {
		pair := Union(Bool(), Box(x))
		x = Tuple(pair, Union(Circle(), Box(x)), Ints(), Ints())
		y = Tuple(Union(Box(y), Bool()), Union(Box(y), Circle()), Ints(), Ints())
	}
	expectSubtype(t, h, Box(x), Box(y), true)
	expectSubtype(t, h, Box(x), Box(Tuple(y)), false)
	// An argument with far too many branches is an argument all the same.
	many := Union()
	for i := range 30 {
		many.Args = append(many.Args, Named(fmt.Sprintf("N%d", i)))
	}
	for count := range 7 {
		wide := Box(Tuple(Repeat(count, many)...))
		expectSubtype(t, h, wide, AnyBox(), true)
		expectSubtype(t, h, wide, Box(Tuple()), count == 0)
	}
}

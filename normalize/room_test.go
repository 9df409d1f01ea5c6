package normalize_test

import (
	"fmt"
	"testing"

	"telpher/api"
	"telpher/hierarchy"
	"telpher/normalize"
	. "telpher/typetest"
)

// with returns a hierarchy with an abstract type Six of six parameters, Holder of one, and more types.
func with(l ...api.Decl) *hierarchy.Hierarchy {
	h := hierarchy.New()
	Declare(h, api.Decl{Name: "Six", Arity: 6}, api.Decl{Name: "Holder", Arity: 1})
	Declare(h, l...)
	return h
}

func six(x api.Type) api.Type { return Named("Six", Repeat(6, x)...) }

func holder(x api.Type) api.Type { return Named("Holder", x) }

// P6.1, step 6: the normal form and the terms in it have at most 200 nodes and a depth of at most 12.
func TestRoomOfForm(t *testing.T) {
	h := with()
	expectNormal(t, h, sized(200))
	expectNormal(t, h, holder(sized(199)))
	expectError(t, h, sized(201), api.ErrTooLong)
	expectNormal(t, h, NestTuples(11, Int()))
	expectNormal(t, h, Nest(11, holder, Int()))
	expectError(t, h, Nest(12, holder, Int()), api.ErrTooLong)
}

// P6.1, step 6: the number of nodes of the body with the upper bound in place of the variable.
func TestNodesOfSubstitutedBody(t *testing.T) {
	h := with()
	of := func(nodes int, wraps int) api.Type {
		return Exists(sized(nodes), NestTuples(wraps, six(Variable(0))))
	}
	expectNormal(t, h, of(33, 1)) // 1 + 1 + 6 * 33
	expectError(t, h, of(33, 2), api.ErrTooLong)
	expectError(t, h, of(34, 0), api.ErrTooLong)
	expectError(t, h, Union(Int(), of(34, 0)), api.ErrTooLong)
	expectError(t, h, Tuple(of(34, 0)), api.ErrTooLong)
	expectNormal(t, h, holder(of(33, 1)))
	// Inside the argument, the form has no room; so neither has the whole, of which nothing remains.
	expectError(t, h, Tuple(Never(), holder(of(33, 2))), api.ErrTooLong)
	expectForm(t, h, Tuple(Never(), of(33, 2)), Never())
	expectForm(t, h, Union(Any(), of(33, 2)), Any())
	expectError(t, h, Union(Any(), holder(of(33, 2))), api.ErrTooLong)
	expectError(t, h, Exists(of(33, 2), Int()), api.ErrTooLong)
	expectForm(t, h, Exists(of(33, 1), Int()), Int())
	// Two variables, of which only the second substitution goes beyond the limit.
	two := func(more int) api.Type {
		return Exists(sized(16), Exists(sized(16), Tuple(six(Variable(1)), six(Variable(0)), sized(more))))
	}
	expectNormal(t, h, two(5)) // 1 + 97 + 97 + 5
	expectError(t, h, two(6), api.ErrTooLong)
	// The bound has a variable itself.
	nested := Exists(Exists(sized(34), holder(Variable(0))), holder(Variable(0)))
	expectNormal(t, h, nested)
	nested.Args[0].Args[1] = six(Variable(0))
	expectError(t, h, nested, api.ErrTooLong)
}

// P6.1, step 6: the number of nodes of declared supertypes, direct and indirect ones.
func TestNodesOfSupertypes(t *testing.T) {
	h := with(
		api.Decl{Name: "Grow", Arity: 1, Super: holder(six(Variable(0)))},
		api.Decl{Name: "GrowMore", Arity: 1, Super: holder(holder(six(Variable(0))))},
		api.Decl{Name: "Below", Arity: 1, Super: Named("Grow", Variable(0)), Concrete: true},
		api.Decl{Name: "BelowMore", Arity: 1, Super: Named("GrowMore", Variable(0)), Concrete: true},
		api.Decl{Name: "Fixed", Super: Named("Grow", sized(33))},
		api.Decl{Name: "FixedMore", Super: Named("Grow", sized(34)), Concrete: true},
		api.Decl{Name: "Shrink", Arity: 1, Super: holder(Any())},
	)
	for _, name := range []string{"Grow", "Below"} {
		expectNormal(t, h, Named(name, sized(33))) // 1 + 1 + 6 * 33
		expectError(t, h, Named(name, sized(34)), api.ErrTooLong)
	}
	for _, name := range []string{"GrowMore", "BelowMore"} {
		expectNormal(t, h, Named(name, sized(32)))
		expectError(t, h, Named(name, sized(33)), api.ErrTooLong)
	}
	expectNormal(t, h, Named("Fixed"))
	expectError(t, h, Named("FixedMore"), api.ErrTooLong)
	expectNormal(t, h, Named("Shrink", sized(199)))
	// Also of the terms in a normal form, and of those that a substitution makes.
	tooLarge := Named("Below", sized(34))
	for _, x := range []api.Type{Tuple(Int(), tooLarge), Union(Int(), tooLarge), holder(tooLarge), holder(Tuple(tooLarge)), Exists(tooLarge, holder(Variable(0))), Exists(sized(34), Named("Below", Variable(0))), Exists(sized(33), Named("BelowMore", Variable(0)))} {
		expectError(t, h, x, api.ErrTooLong)
	}
	expectNormal(t, h, Exists(sized(33), Named("Below", Variable(0))))
	expectNormal(t, h, Exists(sized(32), Named("BelowMore", Variable(0))))
	expectForm(t, h, Union(Any(), tooLarge), Any())
	expectForm(t, h, Tuple(Never(), tooLarge), Never())
	expectError(t, h, Tuple(Never(), holder(tooLarge)), api.ErrTooLong)
	expectError(t, h, Exists(tooLarge, Int()), api.ErrTooLong)
}

// P6.1, step 6: the depth of terms that are come to.
func TestDepth(t *testing.T) {
	h := with(
		api.Decl{Name: "Deep", Arity: 1, Super: holder(holder(Variable(0)))},
		api.Decl{Name: "Below", Arity: 1, Super: Named("Deep", Variable(0))},
		api.Decl{Name: "Flat", Arity: 1, Super: holder(Variable(0))},
	)
	levels := func(depth int) api.Type { return NestTuples(depth-1, Int()) }
	for _, name := range []string{"Deep", "Below"} {
		expectNormal(t, h, Named(name, levels(10)))
		expectError(t, h, Named(name, levels(11)), api.ErrTooLong)
		expectNormal(t, h, Exists(levels(10), Named(name, Variable(0))))
		expectError(t, h, Exists(levels(11), Named(name, Variable(0))), api.ErrTooLong)
	}
	expectNormal(t, h, Named("Flat", levels(11)))
	expectNormal(t, h, Exists(levels(11), holder(Variable(0))))
	expectNormal(t, h, Exists(levels(10), holder(holder(Variable(0)))))
	expectError(t, h, Exists(levels(11), holder(holder(Variable(0)))), api.ErrTooLong)
	expectError(t, h, Exists(levels(11), Tuple(holder(Variable(0)))), api.ErrTooLong)
	expectForm(t, h, Exists(levels(11), Tuple(Variable(0))), levels(12))
	expectError(t, h, Exists(levels(12), Int()), api.ErrTooLong)
	expectForm(t, h, Exists(levels(11), Int()), Int())
	expectError(t, h, Union(Int(), Tuple(holder(Named("Deep", levels(9))))), api.ErrTooLong)
	expectForm(t, h, Union(Int(), Tuple(Named("Deep", levels(9)))), Union(Int(), Tuple(Named("Deep", levels(9)))))
}

// chain returns a hierarchy with 50 types of one parameter, each of them below the next one, and
// with a type Drop of one parameter below the type Top.
func chain() *hierarchy.Hierarchy {
	h := hierarchy.New()
	for i := 49; i >= 0; i-- {
		d := api.Decl{Name: fmt.Sprintf("L%d", i), Arity: 1}
		if i < 49 {
			d.Super = link(i+1, Variable(0))
		}
		Declare(h, d)
	}
	Declare(h, api.Decl{Name: "Top"}, api.Decl{Name: "Drop", Arity: 1, Super: Named("Top")})
	return h
}

func link(i int, t api.Type) api.Type { return Named(fmt.Sprintf("L%d", i), t) }

// countTerms counts the different terms that are come to from t, itself included.
func countTerms(h *hierarchy.Hierarchy, t api.Type) int {
	found := map[string]bool{}
	visitTerms(h, t, found)
	return len(found)
}

func visitTerms(h *hierarchy.Hierarchy, t api.Type, found map[string]bool) {
	if text := fmt.Sprint(t); !found[text] {
		found[text] = true
		for _, next := range modelNext(h, t) {
			visitTerms(h, next, found)
		}
	}
}

// many returns a type that comes to 359 terms.
func many() api.Type {
	six := Tuple(link(0, Int()), link(0, Bool()), link(0, Tuple(Bool())), link(0, Never()), link(0, Named("Nil")), link(0, Named("String")))
	return Tuple(six, link(0, Tuple()))
}

// P6.1, step 6: at most 400 different terms are come to.
func TestNumberOfTerms(t *testing.T) {
	h := chain()
	for _, c := range []struct{ fits, not api.Type }{
		// A link i to a new type comes to 50 - i terms and to that type.
		{Tuple(many(), link(11, Tuple(Int()))), Tuple(many(), link(10, Tuple(Int())))},
		{Tuple(many(), link(11, Tuple(Int())), link(12, Tuple(Int())), many(), link(0, Int())), Tuple(many(), link(10, Tuple(Int())), Int())},
		{Tuple(many(), Tuple(), Int(), link(49, link(11, link(12, Int())))), Tuple(many(), Bool(), link(49, link(10, link(12, Int()))))},
		// With a substitution: the bound, the type itself, and the link with the bound.
		{Exists(Tuple(Int()), Tuple(many(), link(12, Variable(0)))), Exists(Tuple(Int()), Tuple(many(), link(11, Variable(0))))},
		{Exists(Tuple(many().Args[0], link(1, Tuple())), link(9, Variable(0))), Exists(Tuple(many().Args[0], link(1, Tuple())), link(8, Variable(0)))},
		// The arguments count also if the supertype has none.
		{Tuple(many(), Named("Drop", link(13, Tuple(Int())))), Tuple(many(), Named("Drop", link(12, Tuple(Int()))))},
	} {
		if fits, not := countTerms(h, c.fits), countTerms(h, c.not); fits > 400 || not <= 400 {
			t.Errorf("%s comes to %d terms, and %s to %d", Text(c.fits), fits, Text(c.not), not)
		}
		expectNormal(t, h, c.fits)
		expectError(t, h, c.not, api.ErrTooLong)
	}
	fits, not := Tuple(many(), link(11, Tuple(Int()))), Tuple(many(), link(10, Tuple(Int())))
	if countTerms(h, fits) != 400 || countTerms(h, not) != 401 {
		t.Fatalf("%d and %d terms", countTerms(h, fits), countTerms(h, not))
	}
	// The terms of a normal form inside count as well, but those of a branch that is removed do not.
	expectError(t, h, Tuple(fits), api.ErrTooLong)
	expectError(t, h, link(49, fits), api.ErrTooLong)
	expectForm(t, h, Tuple(Never(), link(0, fits)), Never())
	expectError(t, h, Tuple(Never(), link(0, not)), api.ErrTooLong)
	expectError(t, h, Tuple(Never(), link(0, Tuple(fits))), api.ErrTooLong)
	expectForm(t, h, Tuple(Never(), not), Never())
	expectForm(t, h, Union(not, Any()), Any())
	expectForm(t, h, Exists(fits, Int()), Int())
	expectError(t, h, Exists(not, Int()), api.ErrTooLong)
	if normalize.IsNormal(h, not) || !normalize.IsNormal(h, fits) {
		t.Error("IsNormal does not regard the number of terms")
	}
}

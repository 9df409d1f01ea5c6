package normalize_test

import (
	"fmt"
	"testing"

	"telpher/api"
	"telpher/hierarchy"
	"telpher/normalize"
	. "telpher/typetest"
)

// odd returns terms that are malformed, not normal, deep or wide.
func odd() []api.Type {
	l := append(Malformed(), DeepTerms()...)
	l = append(l, Union(l[:9]...), Tuple(l[3:8]...), Tuple(Repeat(1<<16, Tuple(Int()))...), Union(Repeat(1<<16, Int())...), Any(), Ints(), AnyBox(), Tuple(Int(), Ints()), Union(Int(), Bool()), bind(Ints(), Variable(0), Box(Variable(0))))
	return l
}

// answers calls all functions for all pairs of types.
func answers(h *hierarchy.Hierarchy, l []api.Type) []string {
	var all []string
	for i, x := range l {
		form, err := normalize.Normalize(h, x)
		component, ok := normalize.Component(h, x, i%3)
		other := l[(i+1)%len(l)]
		union, unionErr := normalize.Union(h, x, other)
		tuple, tupleErr := normalize.TupleOf(h, []api.Type{x, other})
		all = append(all, fmt.Sprint(normalize.IsNormal(h, x), form, err, component, ok, union, unionErr, tuple, tupleErr))
	}
	return all
}

// P0.1, rules 1, 2 and 5: all functions end with some result for all arguments, and change none of them.
func TestOddArguments(t *testing.T) {
	l := odd()
	sum := 0
	for _, x := range l {
		sum += count(x)
	}
	shallow := l[:len(Malformed())]
	before := show(shallow)
	zero := new(hierarchy.Hierarchy)
	for _, h := range []*hierarchy.Hierarchy{SampleHierarchy(), hierarchy.New(), zero, nil} {
		answers(h, l)
		for _, x := range l {
			if form, err := normalize.Normalize(h, x); err != api.OK && !Same(form, Any()) || err == api.OK && !normalize.IsNormal(h, form) {
				t.Errorf("Normalize(%s) = %s, error %d", Text(x), Text(form), err)
			}
			if form, ok := normalize.Component(h, x, 0); !ok && !Same(form, Any()) || ok && !normalize.IsNormal(h, form) {
				t.Errorf("Component(%s, 0) = %s, %v", Text(x), Text(form), ok)
			}
		}
	}
	for _, x := range l {
		sum -= count(x)
	}
	if show(shallow) != before || sum != 0 {
		t.Error("an argument was changed")
	}
	expectForm(t, nil, Union(Int(), Bool()), Ints())
	expectError(t, nil, Box(Int()), api.ErrUnknownName)
	expectError(t, zero, Int(), api.ErrUnknownName)
	expectForm(t, zero, Union(Any(), Tuple()), Any())
}

// count counts the nodes of a term.
func count(t api.Type) int {
	nodes := 1
	for _, arg := range t.Args {
		nodes += count(arg)
	}
	return nodes
}

// P0.1, rule 2: valid arguments, the hierarchy among them, are not changed either.
func TestArgumentsUnchanged(t *testing.T) {
	h := SampleHierarchy()
	g := NewGenerator(64)
	for range 500 {
		x, y := mixed(g), mixed(g)
		before := show([]any{x, y})
		answers(h, []api.Type{x, y})
		if show([]any{x, y}) != before {
			t.Fatalf("the arguments %v and %v were changed", x, y)
		}
	}
	// A list with room behind its end, and one in which branches would be removed.
	args := append(make([]api.Type, 0, 8), Shape(), Circle(), Square(), Circle())
	before := show(args[:8])
	normalize.TupleOf(h, args)
	normalize.Normalize(h, Union(args...))
	normalize.Union(h, Union(args...), Circle())
	if show(args[:8]) != before {
		t.Error("the memory of a list was changed")
	}
	if !h.Equal(SampleHierarchy()) {
		t.Error("the hierarchy was changed")
	}
}

// P0.1, rule 2: results share no memory with the arguments, the hierarchy, or another result, nor
// do parts of one result.
func TestResultsShareNoMemory(t *testing.T) {
	h := SampleHierarchy()
	Declare(h, api.Decl{Name: "Deep", Arity: 1, Super: Named("Map", Variable(0), Tuple(Box(Int()), Ints()))})
	argument := Tuple(Box(Int()), AnyBox())
	for _, x := range []api.Type{
		Int(), Box(argument), Tuple(Named("Deep", argument), Named("Deep", argument)), Union(Tuple(argument, argument), Tuple(Int(), argument)), bind(argument, Box(Variable(0)), Box(argument)), Union(Box(Int()), Box(Bool())), Tuple(Ints(), argument), Exists(argument, Tuple(Variable(0), Variable(0))),
	} {
		before := show([]any{x, h.Decls()})
		results := func() []api.Type {
			form, _ := normalize.Normalize(h, x)
			union, _ := normalize.Union(h, x, x)
			tuple, _ := normalize.TupleOf(h, []api.Type{x, x})
			component, _ := normalize.Component(h, x, 0)
			return []api.Type{form, union, tuple, component}
		}
		first, second := results(), results()
		kept := show(second)
		if ShareMemory(first...) {
			t.Errorf("parts of results for %s share memory", Text(x))
		}
		for _, result := range first {
			Scribble(result)
		}
		if show([]any{x, h.Decls()}) != before {
			t.Errorf("a result for %s shares memory with an argument", Text(x))
		}
		if show(second) != kept || show(results()) != kept {
			t.Errorf("results for %s share memory", Text(x))
		}
	}
}

// P0.1, rule 3: nil and empty slices are equal everywhere.
func TestNilAndEmpty(t *testing.T) {
	h := SampleHierarchy()
	empty := []api.Type{}
	bare := api.Type{Kind: api.KindNamed, Name: "Int", Args: empty}
	x := Tuple(bare, api.Type{Args: empty}, Box(api.Type{Kind: api.KindTuple, Args: empty}))
	if form, err := normalize.Normalize(h, x); err != api.OK || !Same(form, Tuple(Int(), Any(), Box(Tuple()))) || !normalize.IsNormal(h, x) {
		t.Errorf("Normalize of empty slices = %s, error %d", Text(form), err)
	}
	expectForm(t, h, Union(bare, Int()), Int())
	expectForm(t, h, Exists(Any(), Union(Box(api.Type{Kind: api.KindVar, Args: empty}), Box(Variable(0)))), AnyBox())
}

// P6.3 and P3.5: the results do not change when declarations are added to the hierarchy, but for
// types that were not known.
func TestDeclaredLater(t *testing.T) {
	h := SampleHierarchy()
	g := NewGenerator(65)
	l := []api.Type{Union(Circle(), Square()), Shape(), List(Int()), Union(Vec(Int()), List(Int())), AnyBox(), bind(Shape(), Variable(0), Box(Variable(0))), Tuple(Union(Circle(), Square(), Int()))}
	for range 200 {
		l = append(l, mixed(g))
	}
	before := answers(h, l)
	disc := Union(Shape(), Named("Disc"))
	expectError(t, h, disc, api.ErrUnknownName)
	for _, d := range LaterDecls() {
		Declare(h, d)
		for i, after := range answers(h, l) {
			if after != before[i] {
				t.Errorf("the declaration of %s changes a result for %s", d.Name, Text(l[i]))
			}
		}
	}
	expectForm(t, h, disc, Shape())
	expectForm(t, h, Union(Named("Deque", Int()), Vec(Int())), Vec(Int()))
	expectError(t, SampleHierarchy(), disc, api.ErrUnknownName)
}

// P0.1, rule 1: supertypes that grow threefold at each step end in no time.
func TestGrowingSupertypes(t *testing.T) {
	h := with()
	for i := range 50 {
		d := api.Decl{Name: fmt.Sprintf("D%d", i), Arity: 1}
		if i > 0 {
			x := Tuple(Variable(0), Variable(0), Variable(0)).Args
			d.Super = Named(fmt.Sprintf("D%d", i-1), Named("Six", append(x, x...)...))
		}
		Declare(h, d)
	}
	top := func(x api.Type) api.Type { return Named("D49", x) }
	expectError(t, h, top(Int()), api.ErrTooLong)
	expectError(t, h, Union(top(Int()), top(Bool())), api.ErrTooLong)
	expectError(t, h, Box(top(Int())), api.ErrUnknownName)
	expectForm(t, h, Union(top(Int()), Any()), Any())
	anyD0 := Exists(Any(), Named("D0", Variable(0)))
	expectForm(t, h, Union(top(Int()), anyD0, Exists(Any(), top(Variable(0))), Named("D1", Int())), anyD0)
	expectNormal(t, h, Named("D2", Int())) // 1 + 1 + 6 + 36 nodes at the top
	expectError(t, h, Named("D3", Int()), api.ErrTooLong)
}

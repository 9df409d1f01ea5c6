package typeterm_test

import (
	"math"
	"slices"
	"testing"

	"telpher/api"
	"telpher/typeterm"
	. "telpher/typetest"
)

// callAll calls every function with the terms.
func callAll(t, by api.Type, l []api.Type) {
	typeterm.Validate(t)
	typeterm.Size(t)
	typeterm.Depth(t)
	typeterm.FreeVars(t)
	typeterm.Names(t)
	typeterm.IsPlain(t)
	typeterm.Substitute(t, by)
	typeterm.Instantiate(t, l)
	typeterm.Compare(t, by)
	typeterm.Equal(by, t)
}

// P0.1, rules 1 and 2: no function panics or changes its arguments.
func TestArgumentsUnchanged(t *testing.T) {
	terms := append(oddTerms(), malformed()...)
	before := make([]string, len(terms))
	for i, x := range terms {
		before[i] = show(x)
	}
	by := bind(1, Named("Map", Variable(0), Variable(1), Variable(-1)))
	l := []api.Type{by, Tuple(Variable(1)), Node(-1, Variable(0))}
	byBefore, lBefore := show(by), show(Tuple(l...))
	for i, x := range terms {
		callAll(x, by, l)
		if show(x) != before[i] {
			t.Errorf("%s was changed to %v", before[i], x)
		}
	}
	if show(by) != byBefore || show(Tuple(l...)) != lBefore {
		t.Error("the terms put in were changed")
	}
}

// P0.1, rule 2: a result shares no memory with an argument or within itself.
func TestResultsShareNoMemory(t *testing.T) {
	shared := Tuple(Int(), Named("Box", Bool()))
	x := Tuple(Variable(0), Variable(0), shared, Exists(Any(), Tuple(Variable(1), Named("Box", Variable(2)))), shared)
	by := Named("Map", shared, Named("Box", Int()))
	beforeX, beforeBy := show(x), show(by)
	for _, got := range []api.Type{typeterm.Substitute(x, by), typeterm.Instantiate(x, []api.Type{by, by}), typeterm.Instantiate(x, nil)} {
		for i := range got.Args {
			others := slices.Delete(slices.Clone(got.Args), i, i+1)
			before := show(Tuple(others...))
			Scribble(got.Args[i])
			if show(Tuple(others...)) != before {
				t.Errorf("argument %d shares memory with another one", i)
			}
		}
		Scribble(got)
		if show(x) != beforeX || show(by) != beforeBy {
			t.Fatal("a result shares memory with an argument")
		}
	}
	first, second := typeterm.FreeVars(x), typeterm.FreeVars(x)
	first[0] = 77
	names := typeterm.Names(x)
	names[0] = "scribble"
	if second[0] != 0 || typeterm.FreeVars(x)[0] != 0 || typeterm.Names(x)[0] != "Bool" {
		t.Error("lists share memory")
	}
}

// P0.1, rule 2: a result takes nothing from the room behind an empty Args.
func TestEmptyArgsShareNoMemory(t *testing.T) {
	room := Repeat(4, Int())
	x := Tuple(room[:0]...)
	for _, got := range []api.Type{typeterm.Substitute(x, Any()), typeterm.Instantiate(Variable(0), []api.Type{x})} {
		_ = append(got.Args, Bool())
		if room[0].Name != "Int" {
			t.Error("the result has the memory behind its argument's Args")
		}
	}
}

// P0.1, rule 3: nil and empty Args are equal everywhere.
func TestNilAndEmpty(t *testing.T) {
	for kind := -1; kind <= api.KindExists+1; kind++ {
		a := api.Type{Kind: kind, Name: "A"}
		b := api.Type{Kind: kind, Name: "A", Args: []api.Type{}}
		if !typeterm.Equal(a, b) || !typeterm.Equal(Tuple(b), Tuple(a)) || typeterm.Compare(a, b) != 0 || typeterm.Compare(b, a) != 0 {
			t.Errorf("kind %d: nil and empty Args differ", kind)
		}
		a.Name, b.Name = "", ""
		if typeterm.Validate(a) != typeterm.Validate(b) || typeterm.IsPlain(a) != typeterm.IsPlain(b) || typeterm.Size(b) != 1 || typeterm.Depth(b) != 1 {
			t.Errorf("kind %d: nil and empty Args are treated differently", kind)
		}
	}
	for _, x := range []api.Type{{Args: []api.Type{}}, {Kind: api.KindNever, Args: []api.Type{}}, {Kind: api.KindVar, Args: []api.Type{}}, {Kind: api.KindNamed, Name: "A", Args: []api.Type{}}, {Kind: api.KindTuple, Args: []api.Type{}}} {
		expectValidate(t, x, api.OK)
	}
}

// P0.1, rules 1 and 9: terms nest as deep as they may.
func TestDeepTerms(t *testing.T) {
	const levels = 1<<16 - 2
	for _, x := range []api.Type{NestTuples(levels, Variable(0)), bind(levels, Variable(levels))} {
		callAll(x, x, nil)
		expectValidate(t, x, api.ErrTooLong)
		if typeterm.Depth(x) != levels+1 || !slices.Equal(typeterm.FreeVars(x), []int{0}) || typeterm.IsPlain(x) || !typeterm.Equal(x, x) {
			t.Error("a deep term is not measured right")
		}
		if got := typeterm.Substitute(x, Int()); len(typeterm.FreeVars(got)) != 0 || typeterm.Depth(got) != levels+1 {
			t.Error("Substitute in a deep term")
		}
	}
	boxes := Variable(0)
	for range levels {
		boxes = Named("Box", boxes)
	}
	if !typeterm.IsPlain(boxes) || !typeterm.IsPlain(typeterm.Substitute(boxes, Int())) || !slices.Equal(typeterm.Names(boxes), []string{"Box"}) {
		t.Error("a deep nominal type is not plain")
	}
}

// P0.1, rules 1 and 9: terms may be wide, with many variables and names.
func TestWideTerms(t *testing.T) {
	const width = 1 << 18
	var x api.Type
	for i := range width {
		x.Args = append(x.Args, Variable(width-i), Variable(math.MaxInt), Named(string([]byte{byte(i >> 16), byte(i >> 8), byte(i)})))
	}
	free, names := typeterm.FreeVars(x), typeterm.Names(x)
	if len(free) != width+1 || free[0] != 1 || free[width] != math.MaxInt || !slices.IsSorted(free) {
		t.Errorf("FreeVars of a wide term: %d", len(free))
	}
	if len(names) != width || names[0] != "\x00\x00\x00" || !slices.IsSorted(names) {
		t.Errorf("Names of a wide term: %d", len(names))
	}
	if typeterm.Size(x) != 3*width+1 || typeterm.Depth(x) != 2 {
		t.Error("a wide term is not measured right")
	}
}

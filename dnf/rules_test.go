package dnf_test

import (
	"math"
	"slices"
	"testing"

	"telpher/api"
	"telpher/dnf"
	. "telpher/typetest"
)

// callAll calls every function with a branch and a term, and returns the results with branches or terms.
func callAll(b api.Branch, x api.Type) [][]api.Branch {
	l, _ := dnf.Expand(x)
	dnf.ValidBranch(b)
	results := [][]api.Branch{l, dnf.ExpandPart(b, x), dnf.ExpandPart(b, b.Body), {Branch(dnf.BranchType(b)), Branch(dnf.UnionOf([]api.Branch{b, b}))}}
	count := len(dnf.CovariantVars(b))
	for _, k := range []int{math.MinInt, -1, 0, 1, count - 1, count, math.MaxInt} {
		l, ok := dnf.SplitAt(b, k)
		if !ok && l != nil {
			panic("branches together with false")
		}
		results = append(results, l)
	}
	return results
}

// P0.1, rules 1 and 2: no function panics or changes its arguments.
func TestArgumentsUnchanged(t *testing.T) {
	terms := slices.Concat(malformed(), open(), []api.Type{sixfold(3, ab()), boxes(3, ab()), Tuple(Variable(0), Box(Variable(0)))})
	branches := slices.Concat(oddBranches(), goodBranches())
	beforeTerms, beforeBranches := show(terms), show(branches)
	for _, b := range branches {
		for _, x := range terms {
			callAll(b, x)
		}
		before := show([]api.Branch{b, b})
		if dnf.UnionOf([]api.Branch{b, b}); show([]api.Branch{b, b}) != before {
			t.Errorf("UnionOf changes its branches")
		}
	}
	if show(terms) != beforeTerms || show(branches) != beforeBranches {
		t.Error("an argument was changed")
	}
}

// scribble overwrites all memory that branches refer to, also behind the ends of their slices.
func scribble(l []api.Branch) {
	for i, b := range l {
		for _, bound := range b.Bounds {
			Scribble(bound)
		}
		Scribble(b.Body)
		room := b.Bounds[:cap(b.Bounds)]
		for j := range room {
			room[j] = api.Type{Kind: 1001}
		}
		l[i] = Branch(api.Type{Kind: 1002})
	}
}

// P0.1, rule 2: a result shares no memory with an argument, another result or within itself.
func TestResultsShareNoMemory(t *testing.T) {
	bound := Exists(Tuple(ab()), Union(Box(Variable(0)), Tuple(Variable(0), Box(Variable(0)))))
	closed := Box(Exists(ab(), Tuple(Variable(0))))
	x := Tuple(Exists(bound, Tuple(Variable(0), Box(Variable(0)))), Union(closed, Exists(closed, Variable(0))), closed)
	b := Branch(Tuple(Variable(0), closed, Named("Map", Variable(0), closed)), bound)
	before := show(x) + show(b)
	first, second := callAll(b, x), callAll(b, x)
	kept := show(second)
	for _, l := range first {
		for i := range l {
			others := slices.Delete(slices.Clone(l), i, i+1)
			beforeOthers := show(others)
			scribble(l[i : i+1])
			if show(others) != beforeOthers {
				t.Errorf("branch %d shares memory with another one", i)
			}
		}
	}
	if show(x)+show(b) != before {
		t.Fatal("a result shares memory with an argument")
	}
	if show(second) != kept || show(callAll(b, x)) != kept {
		t.Error("results share memory")
	}
	scribbleInside(t, b, x)
}

// scribbleInside checks that the parts of one branch share no memory: a bound that is used
// twice, and a branch that is put in twice.
func scribbleInside(t *testing.T, b api.Branch, x api.Type) {
	pair := Exists(Exists(x, Box(Variable(0))), Tuple(Variable(0), Variable(0)))
	closed := Exists(Box(Box(ab())), Tuple(Variable(0), Variable(0)))
	for _, y := range []api.Type{pair, closed} {
		for _, got := range dnf.ExpandPart(b, y) {
			before := show(got.Bounds[min(1, len(got.Bounds)):]) + show(got.Body.Args[1])
			Scribble(got.Body.Args[0])
			if len(got.Bounds) > 0 {
				Scribble(got.Bounds[0])
			}
			if show(got.Bounds[min(1, len(got.Bounds)):])+show(got.Body.Args[1]) != before {
				t.Error("the parts of a branch share memory")
			}
		}
	}
}

// P0.1, rule 2: a result takes nothing from the room behind an empty slice.
func TestEmptySlicesShareNoMemory(t *testing.T) {
	room := Repeat(4, Int())
	x := Named("Unit", Tuple(room[:0]...))
	b := api.Branch{Bounds: room[:0], Body: x}
	l, _ := dnf.Expand(x)
	for _, got := range slices.Concat(l, dnf.ExpandPart(b, x), []api.Branch{Branch(dnf.BranchType(b))}) {
		_ = append(got.Bounds, Bool())
		_ = append(got.Body.Args[0].Args, Bool())
	}
	if room[0].Name != "Int" {
		t.Error("a result has the memory behind an argument")
	}
}

// P0.1, rule 3: nil and empty slices are equal everywhere.
func TestNilAndEmpty(t *testing.T) {
	empty := []api.Type{}
	x := api.Type{Kind: api.KindTuple, Args: []api.Type{{Args: empty}, {Kind: api.KindNamed, Name: "Int", Args: empty}, {Kind: api.KindTuple, Args: empty}}}
	want := Branch(Tuple(Any(), Int(), Tuple()))
	expectExpand(t, x, want)
	expectError(t, api.Type{Kind: api.KindNever, Args: empty}, api.OK)
	expectError(t, api.Type{Kind: api.KindUnion, Args: empty}, api.ErrInvalid)
	expectExpand(t, Exists(Any(), Tuple(api.Type{Kind: api.KindVar, Args: empty}, Box(api.Type{Kind: api.KindVar, Args: empty}))), Branch(Tuple(Variable(0), Box(Variable(0))), Any()))
	b := api.Branch{Bounds: empty, Body: x}
	if !dnf.ValidBranch(b) || !Same(dnf.BranchType(b), want.Body) || !sameBranches(dnf.ExpandPart(b, x), []api.Branch{want}) {
		t.Error("an empty slice is treated differently from nil")
	}
}

// P0.1, rules 1 and 9: bodies and parts nest as deep as they may.
func TestDeepTerms(t *testing.T) {
	const levels = 1<<16 - 3
	deep := NestTuples(levels, Box(Variable(0)))
	b := Branch(deep, ab())
	if l := dnf.ExpandPart(b, deep); !sameBranches(l, []api.Branch{b}) {
		t.Error("ExpandPart of a deep body")
	}
	if l, err := dnf.Expand(deep); l != nil || err != api.ErrInvalid || dnf.ValidBranch(b) || dnf.CovariantVars(b) != nil {
		t.Error("a deep term is accepted")
	}
	if x := dnf.BranchType(b); !Same(x, Exists(ab(), deep)) {
		t.Error("BranchType of a deep body")
	}
	if l, ok := dnf.SplitAt(Branch(NestTuples(levels, Variable(0)), ab()), 0); !ok || len(l) != 2 || !Same(l[1].Body, NestTuples(levels, Named("B"))) {
		t.Error("SplitAt in a deep body")
	}
	bound := Int()
	for range levels {
		bound = Exists(bound, Tuple(Variable(0)))
	}
	dnf.ExpandPart(Branch(Tuple(Variable(0)), bound), Variable(0))
	dnf.SplitAt(Branch(Tuple(Variable(0)), bound), 0)
	left, right := ab(), ab()
	for range levels {
		left, right = Union(left, Int()), Union(Int(), right)
	}
	for _, x := range []api.Type{left, right} {
		if l := dnf.ExpandPart(b, x); len(l) != levels+2 {
			t.Errorf("ExpandPart of deep unions: %d branches", len(l))
		}
	}
}

// P0.1, rule 1: arguments that are far from valid lead to some result, without a panic and in a short time.
func TestWideBranches(t *testing.T) {
	b := Branch(Tuple())
	for i := range 3000 {
		b.Body.Args = append(b.Body.Args, Box(Variable(i)), Variable(2999-i))
		b.Bounds = append(b.Bounds, ab())
	}
	if dnf.ValidBranch(b) || len(dnf.CovariantVars(b)) != 3000 {
		t.Error("a wide branch is valid")
	}
	if l, ok := dnf.SplitAt(b, 1234); !ok || len(l) != 2 || len(l[1].Bounds) != 3000 {
		t.Error("SplitAt of a wide branch")
	}
	if l := dnf.ExpandPart(b, b.Body); len(l) != 1 || len(l[0].Bounds) != 3000 {
		t.Error("ExpandPart of a wide branch")
	}
	for _, x := range []api.Type{Tuple(Repeat(100, ab())...), Tuple(Repeat(5, many(30))...), Tuple(Repeat(100, Variable(0))...), Tuple(Tuple(Repeat(60, ab())...), Exists(sixfold(100, ab()), Tuple(Variable(0)))), sixfold(1000, Int())} {
		dnf.ExpandPart(b, x)
		dnf.SplitAt(Branch(Tuple(Variable(0), Box(Variable(0))), x), 0)
		dnf.ValidBranch(Branch(x, x))
	}
}

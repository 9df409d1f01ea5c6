package dnf_test

import (
	"fmt"
	"math"
	"slices"
	"testing"

	"telpher/api"
	"telpher/dnf"
	. "telpher/typetest"
)

// P4.4: CovariantVars returns the variables at covariant occurrences, also repeatedly, from left to right.
func TestCovariantVars(t *testing.T) {
	for _, c := range []struct {
		b    api.Branch
		want []int
	}{
		{Branch(Any()), nil},
		{Branch(Box(Variable(0)), Any()), nil},
		{Branch(Tuple(Box(Variable(0)), Named("Map", Variable(1), Int())), Any(), Any()), nil},
		{Branch(Tuple(Variable(0), Box(Variable(0))), Any()), []int{0}},
		{Branch(Tuple(Box(Variable(0)), Box(Variable(1)), Variable(1), Tuple(Variable(0), Tuple(), Tuple(Variable(1)))), Any(), Int()), []int{1, 0, 1}},
		{Branch(Tuple(Variable(0), Variable(0), Variable(0), Box(Variable(0))), Any()), []int{0, 0, 0}},
		{Branch(Tuple(Variable(0), Box(Exists(Any(), Tuple(Variable(0)))), Box(Variable(0))), Any()), []int{0}},
	} {
		if got := dnf.CovariantVars(c.b); !slices.Equal(got, c.want) {
			t.Errorf("CovariantVars(%v) = %v; want %v", c.b, got, c.want)
		}
	}
}

func expectSplit(t *testing.T, b api.Branch, k int, want ...api.Branch) {
	t.Helper()
	l, ok := dnf.SplitAt(b, k)
	if !ok {
		t.Errorf("SplitAt(%v, %d) is false", b, k)
	}
	expectBranches(t, fmt.Sprintf("SplitAt(%s, %d)", brief(b), k), l, want)
}

// P4.4: SplitAt replaces one occurrence by each branch of the bound in order.
func TestSplitAt(t *testing.T) {
	b := Branch(Tuple(Variable(0), Box(Variable(0)), Tuple(Variable(0), Variable(1)), Box(Variable(1))), ab(), Int())
	expectSplit(t, b, 0,
		Branch(Tuple(Named("A"), Box(Variable(0)), Tuple(Variable(0), Variable(1)), Box(Variable(1))), ab(), Int()),
		Branch(Tuple(Named("B"), Box(Variable(0)), Tuple(Variable(0), Variable(1)), Box(Variable(1))), ab(), Int()))
	expectSplit(t, b, 1,
		Branch(Tuple(Variable(0), Box(Variable(0)), Tuple(Named("A"), Variable(1)), Box(Variable(1))), ab(), Int()),
		Branch(Tuple(Variable(0), Box(Variable(0)), Tuple(Named("B"), Variable(1)), Box(Variable(1))), ab(), Int()))
	expectSplit(t, b, 2, Branch(Tuple(Variable(0), Box(Variable(0)), Tuple(Variable(0), Int()), Box(Variable(1))), ab(), Int()))
	expectSplit(t, Branch(Tuple(Variable(0), Box(Variable(0))), Any()), 0, Branch(Tuple(Any(), Box(Variable(0))), Any()))
	expectSplit(t, Branch(Tuple(Variable(0), Box(Variable(0))), Never()), 0)
	expectSplit(t, Branch(Tuple(Variable(0), Box(Variable(0))), Tuple(ab(), Int())), 0,
		Branch(Tuple(Tuple(Named("A"), Int()), Box(Variable(0))), Tuple(ab(), Int())), Branch(Tuple(Tuple(Named("B"), Int()), Box(Variable(0))), Tuple(ab(), Int())))
}

// P4.4: SplitAt renumbers the variables, because the first occurrences may have changed.
func TestSplitAtRenumbers(t *testing.T) {
	b := Branch(Tuple(Variable(0), Box(Variable(1)), Box(Variable(0))), ab(), Int())
	expectSplit(t, b, 0,
		Branch(Tuple(Named("A"), Box(Variable(0)), Box(Variable(1))), Int(), ab()), Branch(Tuple(Named("B"), Box(Variable(0)), Box(Variable(1))), Int(), ab()))
	either := Exists(Bool(), Union(Tuple(Variable(0), Box(Variable(0))), Variable(0)))
	expectSplit(t, Branch(Tuple(Box(Variable(0)), Variable(1), Variable(1), Box(Variable(1))), Int(), either), 1,
		Branch(Tuple(Box(Variable(0)), Variable(1), Tuple(Variable(2), Box(Variable(2))), Box(Variable(1))), Int(), either, Bool()),
		Branch(Tuple(Box(Variable(0)), Variable(1), Bool(), Box(Variable(1))), Int(), either))
	expectSplit(t, Branch(Tuple(Variable(0), Box(Variable(0))), either), 0,
		Branch(Tuple(Tuple(Variable(0), Box(Variable(0))), Box(Variable(1))), Bool(), either), Branch(Tuple(Bool(), Box(Variable(0))), either))
}

// P4.4: SplitAt returns false for an index that is out of range.
func TestSplitAtRange(t *testing.T) {
	for _, b := range []api.Branch{Branch(Int()), Branch(Box(Variable(0)), ab()), Branch(Tuple(Variable(0), Box(Variable(0)), Variable(0)), ab())} {
		count := len(dnf.CovariantVars(b))
		for _, k := range []int{-1, count, count + 1, 7, math.MinInt, math.MaxInt} {
			if l, ok := dnf.SplitAt(b, k); ok || l != nil {
				t.Errorf("SplitAt(%v, %d) = %v, %v", b, k, l, ok)
			}
		}
	}
}

// P4.4: no limits apply to the branches that SplitAt returns, nor to their numbers of variables and occurrences.
func TestSplitAtWithoutLimits(t *testing.T) {
	wide := boxes(6, Any())
	b := Branch(Tuple(Variable(0), Box(Variable(0)), Variable(0), Variable(0), Tuple(Repeat(6, Variable(0))...)), wide)
	for k := range 9 {
		l, ok := dnf.SplitAt(b, k)
		if !ok || len(l) != 1 || len(l[0].Bounds) != 7 || len(dnf.CovariantVars(l[0])) != 8 {
			t.Fatalf("SplitAt(%v, %d) = %v, %v", b, k, l, ok)
		}
		again, ok := dnf.SplitAt(l[0], k/2)
		if !ok || len(again) != 1 || len(again[0].Bounds) != 13 {
			t.Errorf("SplitAt(%v, %d) = %v, %v", l[0], k/2, again, ok)
		}
	}
	large := sixfold(5, Int())
	l, ok := dnf.SplitAt(Branch(Tuple(Variable(0), Box(Variable(0)), Box(many(400))), large), 0)
	written, _ := dnf.Expand(large)
	if !ok || !sameBranches(l, []api.Branch{Branch(Tuple(written[0].Body, Box(Variable(0)), Box(many(400))), large)}) {
		t.Error("SplitAt puts in a large branch")
	}
	again, ok := dnf.SplitAt(Branch(Tuple(l[0].Body, Variable(0)), ab()), 0)
	if !ok || len(again) != 2 {
		t.Error("SplitAt of a large branch")
	}
}

func expectPart(t *testing.T, b api.Branch, part api.Type, want ...api.Branch) {
	t.Helper()
	expectBranches(t, fmt.Sprintf("ExpandPart(%s, %s)", brief(b), brief(part)), dnf.ExpandPart(b, part), want)
}

// P4.4: ExpandPart binds the variables that occur in the part.
func TestExpandPart(t *testing.T) {
	intBool := Union(Int(), Bool())
	b := Branch(Tuple(Variable(0), Box(Variable(1)), Tuple(Variable(1), Box(Variable(0)))), ab(), intBool)
	expectPart(t, b, b.Body, b)
	expectPart(t, b, Variable(0), plainBranches(Named("A"), Named("B"))...)
	expectPart(t, b, Variable(1), plainBranches(Int(), Bool())...)
	expectPart(t, b, Box(Variable(1)), Branch(Box(Variable(0)), intBool))
	expectPart(t, b, Tuple(Variable(1), Box(Variable(0))), Branch(Tuple(Int(), Box(Variable(0))), ab()), Branch(Tuple(Bool(), Box(Variable(0))), ab()))
	expectPart(t, b, Named("Map", Variable(1), Box(Variable(0))), Branch(Named("Map", Variable(0), Box(Variable(1))), intBool, ab()))
	// Variable 0 is outermost, so that its choice varies fastest.
	expectPart(t, b, Tuple(Variable(1), Variable(0)), plainBranches(
		Tuple(Int(), Named("A")), Tuple(Int(), Named("B")), Tuple(Bool(), Named("A")), Tuple(Bool(), Named("B")))...)
	expectPart(t, b, Tuple(Variable(0), Variable(1)), plainBranches(
		Tuple(Named("A"), Int()), Tuple(Named("B"), Int()), Tuple(Named("A"), Bool()), Tuple(Named("B"), Bool()))...)
	expectPart(t, Branch(Tuple(Variable(0), Box(Variable(0))), Never()), Variable(0))
	expectPart(t, Branch(Tuple(Variable(0), Box(Variable(0))), Never()), Int(), Branch(Int()))
	boxed := Exists(Int(), Box(Variable(0)))
	expectPart(t, Branch(Tuple(Variable(0), Box(Variable(0))), boxed), Tuple(Variable(0), Variable(0)), Branch(Tuple(Box(Variable(0)), Box(Variable(1))), Int(), Int()))
}

// P4.4: a closed part has its own variables only.
func TestExpandClosedPart(t *testing.T) {
	b := Branch(Tuple(Variable(0), Box(Variable(0))), ab())
	inner := Exists(Int(), Box(Variable(0)))
	for _, x := range []api.Type{Any(), Never(), ab(), inner, Box(inner), Tuple(inner, ab(), inner), Union(inner, Tuple(Never())), Exists(ab(), Tuple(Variable(0), Exists(Int(), Tuple(Variable(1), Box(Variable(0))))))} {
		want, _ := dnf.Expand(x)
		expectPart(t, b, x, want...)
		expectPart(t, api.Branch{}, x, want...)
	}
	expectPart(t, b, Named("Map", Variable(0), inner), Branch(Named("Map", Variable(0), inner), ab()))
}

// P4.4: no limits apply in ExpandPart.
func TestExpandPartWithoutLimits(t *testing.T) {
	b := Branch(Tuple(Variable(0), Box(Variable(0))), many(4))
	if l := dnf.ExpandPart(b, Tuple(Repeat(6, Variable(0))...)); len(l) != 4096 || !Same(l[6].Body, Tuple(Named("N0"), Named("N0"), Named("N0"), Named("N0"), Named("N1"), Named("N2"))) {
		t.Errorf("ExpandPart returns %d branches", len(l))
	}
	expectPart(t, b, many(33), plainBranches(many(33).Args...)...)
	expectPart(t, b, Exists(many(33), Box(Variable(0))), Branch(Box(Variable(0)), many(33)))
	expectPart(t, b, Tuple(Tuple(Repeat(6, many(32))...), Never()))
	if l := dnf.ExpandPart(b, Tuple(many(20), many(20), Variable(0))); len(l) != 1600 {
		t.Errorf("ExpandPart returns %d branches", len(l))
	}
	countless := Tuple(Repeat(5, many(32))...)
	expectPart(t, b, Exists(countless, Box(Variable(0))), Branch(Box(Variable(0)), countless))
	wide := boxes(6, Any())
	b = Branch(Tuple(Variable(0), Box(Variable(0))), wide)
	if l := dnf.ExpandPart(b, Tuple(Repeat(6, Variable(0))...)); len(l) != 1 || len(l[0].Bounds) != 36 {
		t.Errorf("ExpandPart = %v", l)
	}
	seven := Tuple(boxes(6, ab()), Variable(0))
	if l := dnf.ExpandPart(Branch(Box(Variable(0)), boxes(1, Any())), seven); len(l) != 1 || len(l[0].Bounds) != 7 {
		t.Errorf("ExpandPart = %v", l)
	}
	deep := NestTuples(60, Named("Map", Variable(0), many(300)))
	expectPart(t, b, deep, Branch(deep, wide))
}

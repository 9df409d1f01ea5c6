package dnf_test

import (
	"fmt"
	"math"
	"slices"
	"testing"

	"telpher/api"
	"telpher/dnf"
)

// P4.4: CovariantVars returns the variables at covariant occurrences, also repeatedly, from left to right.
func TestCovariantVars(t *testing.T) {
	for _, c := range []struct {
		b    api.Branch
		want []int
	}{
		{branch(anyType()), nil},
		{branch(box(variable(0)), anyType()), nil},
		{branch(tuple(box(variable(0)), named("Map", variable(1), intType())), anyType(), anyType()), nil},
		{branch(tuple(variable(0), box(variable(0))), anyType()), []int{0}},
		{branch(tuple(box(variable(0)), box(variable(1)), variable(1), tuple(variable(0), tuple(), tuple(variable(1)))), anyType(), intType()), []int{1, 0, 1}},
		{branch(tuple(variable(0), variable(0), variable(0), box(variable(0))), anyType()), []int{0, 0, 0}},
		{branch(tuple(variable(0), box(exists(anyType(), tuple(variable(0)))), box(variable(0))), anyType()), []int{0}},
	} {
		if got := dnf.CovariantVars(c.b); !slices.Equal(got, c.want) {
			t.Errorf("CovariantVars(%v) = %v; want %v", c.b, got, c.want)
		}
	}
}

func expectSplit(t *testing.T, b api.Branch, k int, want ...api.Branch) {
	t.Helper()
	l, ok := dnf.SplitAt(b, k)
	if !ok {
		t.Errorf("SplitAt(%v, %d) is false", b, k)
	}
	expectBranches(t, fmt.Sprintf("SplitAt(%s, %d)", brief(b), k), l, want)
}

// P4.4: SplitAt replaces one occurrence by each branch of the bound in order.
func TestSplitAt(t *testing.T) {
	b := branch(tuple(variable(0), box(variable(0)), tuple(variable(0), variable(1)), box(variable(1))), ab(), intType())
	expectSplit(t, b, 0,
		branch(tuple(named("A"), box(variable(0)), tuple(variable(0), variable(1)), box(variable(1))), ab(), intType()),
		branch(tuple(named("B"), box(variable(0)), tuple(variable(0), variable(1)), box(variable(1))), ab(), intType()))
	expectSplit(t, b, 1,
		branch(tuple(variable(0), box(variable(0)), tuple(named("A"), variable(1)), box(variable(1))), ab(), intType()),
		branch(tuple(variable(0), box(variable(0)), tuple(named("B"), variable(1)), box(variable(1))), ab(), intType()))
	expectSplit(t, b, 2, branch(tuple(variable(0), box(variable(0)), tuple(variable(0), intType()), box(variable(1))), ab(), intType()))
	expectSplit(t, branch(tuple(variable(0), box(variable(0))), anyType()), 0, branch(tuple(anyType(), box(variable(0))), anyType()))
	expectSplit(t, branch(tuple(variable(0), box(variable(0))), never()), 0)
	expectSplit(t, branch(tuple(variable(0), box(variable(0))), tuple(ab(), intType())), 0,
		branch(tuple(tuple(named("A"), intType()), box(variable(0))), tuple(ab(), intType())), branch(tuple(tuple(named("B"), intType()), box(variable(0))), tuple(ab(), intType())))
}

// P4.4: SplitAt renumbers the variables, because the first occurrences may have changed.
func TestSplitAtRenumbers(t *testing.T) {
	b := branch(tuple(variable(0), box(variable(1)), box(variable(0))), ab(), intType())
	expectSplit(t, b, 0,
		branch(tuple(named("A"), box(variable(0)), box(variable(1))), intType(), ab()), branch(tuple(named("B"), box(variable(0)), box(variable(1))), intType(), ab()))
	either := exists(boolType(), union(tuple(variable(0), box(variable(0))), variable(0)))
	expectSplit(t, branch(tuple(box(variable(0)), variable(1), variable(1), box(variable(1))), intType(), either), 1,
		branch(tuple(box(variable(0)), variable(1), tuple(variable(2), box(variable(2))), box(variable(1))), intType(), either, boolType()),
		branch(tuple(box(variable(0)), variable(1), boolType(), box(variable(1))), intType(), either))
	expectSplit(t, branch(tuple(variable(0), box(variable(0))), either), 0,
		branch(tuple(tuple(variable(0), box(variable(0))), box(variable(1))), boolType(), either), branch(tuple(boolType(), box(variable(0))), either))
}

// P4.4: SplitAt returns false for an index that is out of range.
func TestSplitAtRange(t *testing.T) {
	for _, b := range []api.Branch{branch(intType()), branch(box(variable(0)), ab()), branch(tuple(variable(0), box(variable(0)), variable(0)), ab())} {
		count := len(dnf.CovariantVars(b))
		for _, k := range []int{-1, count, count + 1, 7, math.MinInt, math.MaxInt} {
			if l, ok := dnf.SplitAt(b, k); ok || l != nil {
				t.Errorf("SplitAt(%v, %d) = %v, %v", b, k, l, ok)
			}
		}
	}
}

// P4.4: no limits apply to the branches that SplitAt returns, nor to their numbers of variables and occurrences.
func TestSplitAtWithoutLimits(t *testing.T) {
	wide := boxes(6, anyType())
	b := branch(tuple(variable(0), box(variable(0)), variable(0), variable(0), tuple(repeat(6, variable(0))...)), wide)
	for k := range 9 {
		l, ok := dnf.SplitAt(b, k)
		if !ok || len(l) != 1 || len(l[0].Bounds) != 7 || len(dnf.CovariantVars(l[0])) != 8 {
			t.Fatalf("SplitAt(%v, %d) = %v, %v", b, k, l, ok)
		}
		again, ok := dnf.SplitAt(l[0], k/2)
		if !ok || len(again) != 1 || len(again[0].Bounds) != 13 {
			t.Errorf("SplitAt(%v, %d) = %v, %v", l[0], k/2, again, ok)
		}
	}
	large := sixfold(5, intType())
	l, ok := dnf.SplitAt(branch(tuple(variable(0), box(variable(0)), box(many(400))), large), 0)
	written, _ := dnf.Expand(large)
	if !ok || !sameBranches(l, []api.Branch{branch(tuple(written[0].Body, box(variable(0)), box(many(400))), large)}) {
		t.Error("SplitAt puts in a large branch")
	}
	again, ok := dnf.SplitAt(branch(tuple(l[0].Body, variable(0)), ab()), 0)
	if !ok || len(again) != 2 {
		t.Error("SplitAt of a large branch")
	}
}

func expectPart(t *testing.T, b api.Branch, part api.Type, want ...api.Branch) {
	t.Helper()
	expectBranches(t, fmt.Sprintf("ExpandPart(%s, %s)", brief(b), brief(part)), dnf.ExpandPart(b, part), want)
}

// P4.4: ExpandPart binds the variables that occur in the part.
func TestExpandPart(t *testing.T) {
	intBool := union(intType(), boolType())
	b := branch(tuple(variable(0), box(variable(1)), tuple(variable(1), box(variable(0)))), ab(), intBool)
	expectPart(t, b, b.Body, b)
	expectPart(t, b, variable(0), plainBranches(named("A"), named("B"))...)
	expectPart(t, b, variable(1), plainBranches(intType(), boolType())...)
	expectPart(t, b, box(variable(1)), branch(box(variable(0)), intBool))
	expectPart(t, b, tuple(variable(1), box(variable(0))), branch(tuple(intType(), box(variable(0))), ab()), branch(tuple(boolType(), box(variable(0))), ab()))
	expectPart(t, b, named("Map", variable(1), box(variable(0))), branch(named("Map", variable(0), box(variable(1))), intBool, ab()))
	// Variable 0 is outermost, so that its choice varies fastest.
	expectPart(t, b, tuple(variable(1), variable(0)), plainBranches(
		tuple(intType(), named("A")), tuple(intType(), named("B")), tuple(boolType(), named("A")), tuple(boolType(), named("B")))...)
	expectPart(t, b, tuple(variable(0), variable(1)), plainBranches(
		tuple(named("A"), intType()), tuple(named("B"), intType()), tuple(named("A"), boolType()), tuple(named("B"), boolType()))...)
	expectPart(t, branch(tuple(variable(0), box(variable(0))), never()), variable(0))
	expectPart(t, branch(tuple(variable(0), box(variable(0))), never()), intType(), branch(intType()))
	boxed := exists(intType(), box(variable(0)))
	expectPart(t, branch(tuple(variable(0), box(variable(0))), boxed), tuple(variable(0), variable(0)), branch(tuple(box(variable(0)), box(variable(1))), intType(), intType()))
}

// P4.4: a closed part has its own variables only.
func TestExpandClosedPart(t *testing.T) {
	b := branch(tuple(variable(0), box(variable(0))), ab())
	inner := exists(intType(), box(variable(0)))
	for _, x := range []api.Type{anyType(), never(), ab(), inner, box(inner), tuple(inner, ab(), inner), union(inner, tuple(never())), exists(ab(), tuple(variable(0), exists(intType(), tuple(variable(1), box(variable(0))))))} {
		want, _ := dnf.Expand(x)
		expectPart(t, b, x, want...)
		expectPart(t, api.Branch{}, x, want...)
	}
	expectPart(t, b, named("Map", variable(0), inner), branch(named("Map", variable(0), inner), ab()))
}

// P4.4: no limits apply in ExpandPart.
func TestExpandPartWithoutLimits(t *testing.T) {
	b := branch(tuple(variable(0), box(variable(0))), many(4))
	if l := dnf.ExpandPart(b, tuple(repeat(6, variable(0))...)); len(l) != 4096 || !same(l[6].Body, tuple(named("N0"), named("N0"), named("N0"), named("N0"), named("N1"), named("N2"))) {
		t.Errorf("ExpandPart returns %d branches", len(l))
	}
	expectPart(t, b, many(33), plainBranches(many(33).Args...)...)
	expectPart(t, b, exists(many(33), box(variable(0))), branch(box(variable(0)), many(33)))
	expectPart(t, b, tuple(tuple(repeat(6, many(32))...), never()))
	if l := dnf.ExpandPart(b, tuple(many(20), many(20), variable(0))); len(l) != 1600 {
		t.Errorf("ExpandPart returns %d branches", len(l))
	}
	countless := tuple(repeat(5, many(32))...)
	expectPart(t, b, exists(countless, box(variable(0))), branch(box(variable(0)), countless))
	wide := boxes(6, anyType())
	b = branch(tuple(variable(0), box(variable(0))), wide)
	if l := dnf.ExpandPart(b, tuple(repeat(6, variable(0))...)); len(l) != 1 || len(l[0].Bounds) != 36 {
		t.Errorf("ExpandPart = %v", l)
	}
	seven := tuple(boxes(6, ab()), variable(0))
	if l := dnf.ExpandPart(branch(box(variable(0)), boxes(1, anyType())), seven); len(l) != 1 || len(l[0].Bounds) != 7 {
		t.Errorf("ExpandPart = %v", l)
	}
	deep := nest(60, named("Map", variable(0), many(300)))
	expectPart(t, b, deep, branch(deep, wide))
}

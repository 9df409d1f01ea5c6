package dnf_test

import (
	"testing"

	"telpher/api"
	. "telpher/typetest"
)

// P4.2: Any, Never, nominal types and unions.
func TestExpandSimple(t *testing.T) {
	expectExpand(t, Any(), Branch(Any()))
	expectExpand(t, Never())
	expectExpand(t, Int(), Branch(Int()))
	expectExpand(t, Named("Map", ab(), Any()), Branch(Named("Map", ab(), Any())))
	expectExpand(t, Box(Never()), Branch(Box(Never())))
	expectExpand(t, Union(Bool(), Int()), plainBranches(Bool(), Int())...)
	expectExpand(t, Union(Never(), Never()))
	expectExpand(t, Union(Tuple(Never()), Union(Never(), Tuple(Int(), Never()))))
	expectExpand(t, Union(Int(), Union(ab(), Never(), Any()), Int(), Named("B")), plainBranches(Int(), Named("A"), Named("B"), Any(), Int(), Named("B"))...)
}

// P4.2: the branches of a tuple are all combinations, the last element varying fastest.
func TestExpandTuples(t *testing.T) {
	expectExpand(t, Tuple(), Branch(Tuple()))
	expectExpand(t, Tuple(Tuple(), Tuple(Tuple())), Branch(Tuple(Tuple(), Tuple(Tuple()))))
	expectExpand(t, Tuple(Never()))
	expectExpand(t, Tuple(ab(), Tuple(ab(), Never())))
	expectExpand(t, Tuple(ab(), Any(), Union(Int(), Bool(), Tuple())), plainBranches(
		Tuple(Named("A"), Any(), Int()), Tuple(Named("A"), Any(), Bool()), Tuple(Named("A"), Any(), Tuple()),
		Tuple(Named("B"), Any(), Int()), Tuple(Named("B"), Any(), Bool()), Tuple(Named("B"), Any(), Tuple()))...)
	expectExpand(t, Tuple(Tuple(ab(), ab()), Union(Int(), Bool())), plainBranches(
		Tuple(Tuple(Named("A"), Named("A")), Int()), Tuple(Tuple(Named("A"), Named("A")), Bool()),
		Tuple(Tuple(Named("A"), Named("B")), Int()), Tuple(Tuple(Named("A"), Named("B")), Bool()),
		Tuple(Tuple(Named("B"), Named("A")), Int()), Tuple(Tuple(Named("B"), Named("A")), Bool()),
		Tuple(Tuple(Named("B"), Named("B")), Int()), Tuple(Tuple(Named("B"), Named("B")), Bool()))...)
}

// P4.2: a variable with an invariant occurrence is kept, with all its occurrences.
func TestExpandKeepsVariables(t *testing.T) {
	expectExpand(t, Exists(ab(), Box(Variable(0))), Branch(Box(Variable(0)), ab()))
	expectExpand(t, Exists(ab(), Tuple(Variable(0), Box(Variable(0)), Tuple(Variable(0)))), Branch(Tuple(Variable(0), Box(Variable(0)), Tuple(Variable(0))), ab()))
	expectExpand(t, Exists(Never(), Tuple(Variable(0), Box(Variable(0)))), Branch(Tuple(Variable(0), Box(Variable(0))), Never()))
	expectExpand(t, Exists(Int(), Named("Map", Box(Box(Variable(0))), Bool())), Branch(Named("Map", Box(Box(Variable(0))), Bool()), Int()))
	// An occurrence in a closed argument is not one of the variable.
	inner := Exists(Any(), Tuple(Variable(0), Box(Variable(0))))
	expectExpand(t, Exists(Int(), Tuple(Variable(0), Box(inner))), Branch(Tuple(Int(), Box(inner))))
	expectExpand(t, Exists(Int(), Named("Map", Variable(0), inner)), Branch(Named("Map", Variable(0), inner), Int()))
}

// P4.2: a variable without an invariant occurrence is dropped; at its covariant occurrences stand
// the branches of its bound, the choice for the last occurrence varying fastest.
func TestExpandDropsVariables(t *testing.T) {
	expectExpand(t, Exists(ab(), Int()), Branch(Int()))
	expectExpand(t, Exists(Never(), Tuple(Int(), Any())), Branch(Tuple(Int(), Any())))
	expectExpand(t, Exists(Never(), Tuple(Int(), Variable(0))))
	expectExpand(t, Exists(Tuple(Int(), Never()), Variable(0)))
	expectExpand(t, Exists(Any(), Variable(0)), Branch(Any()))
	expectExpand(t, Exists(ab(), Variable(0)), plainBranches(Named("A"), Named("B"))...)
	expectExpand(t, Exists(ab(), Exists(Union(Int(), Bool()), Variable(1))), plainBranches(Named("A"), Named("B"))...)
	expectExpand(t, Exists(Int(), Tuple(Variable(0), Variable(0))), Branch(Tuple(Int(), Int())))
	expectExpand(t, Exists(ab(), Tuple(Variable(0), Tuple(Variable(0)), Variable(0))), plainBranches(
		Tuple(Named("A"), Tuple(Named("A")), Named("A")), Tuple(Named("A"), Tuple(Named("A")), Named("B")),
		Tuple(Named("A"), Tuple(Named("B")), Named("A")), Tuple(Named("A"), Tuple(Named("B")), Named("B")),
		Tuple(Named("B"), Tuple(Named("A")), Named("A")), Tuple(Named("B"), Tuple(Named("A")), Named("B")),
		Tuple(Named("B"), Tuple(Named("B")), Named("A")), Tuple(Named("B"), Tuple(Named("B")), Named("B")))...)
	// The inner variable is replaced first, so that the outer one varies fastest.
	expectExpand(t, Exists(ab(), Exists(Union(Int(), Bool()), Tuple(Variable(0), Variable(1)))), plainBranches(
		Tuple(Int(), Named("A")), Tuple(Int(), Named("B")), Tuple(Bool(), Named("A")), Tuple(Bool(), Named("B")))...)
	// A bound that is a tuple, a union or an existential type itself.
	expectExpand(t, Exists(Tuple(ab(), Int()), Tuple(Variable(0))), plainBranches(Tuple(Tuple(Named("A"), Int())), Tuple(Tuple(Named("B"), Int())))...)
	expectExpand(t, Exists(Exists(ab(), Tuple(Variable(0), Int())), Tuple(Variable(0))), plainBranches(Tuple(Tuple(Named("A"), Int())), Tuple(Tuple(Named("B"), Int())))...)
}

// P4.2: whether a variable is kept is decided for each branch of the body.
func TestExpandBranchByBranch(t *testing.T) {
	expectExpand(t, Exists(ab(), Union(Tuple(Variable(0)), Box(Variable(0)), Int(), Variable(0))),
		Branch(Tuple(Named("A"))), Branch(Tuple(Named("B"))), Branch(Box(Variable(0)), ab()), Branch(Int()), Branch(Named("A")), Branch(Named("B")))
	expectExpand(t, Exists(Never(), Union(Variable(0), Tuple(Variable(0), Box(Variable(0))), Tuple(Variable(0)), Int())),
		Branch(Tuple(Variable(0), Box(Variable(0))), Never()), Branch(Int()))
	expectExpand(t, Exists(ab(), Tuple(Variable(0), Union(Int(), Box(Variable(0))))),
		Branch(Tuple(Named("A"), Int())), Branch(Tuple(Named("B"), Int())), Branch(Tuple(Variable(0), Box(Variable(0))), ab()))
	expectExpand(t, Exists(Never(), Exists(Union(Int(), Never()), Union(Tuple(Variable(0), Variable(1)), Variable(0)))), Branch(Int()))
}

// P4.1 and P4.2: variables are numbered by their first occurrences of both kinds, from left to right.
func TestExpandNumbers(t *testing.T) {
	expectExpand(t, Exists(Int(), Exists(Bool(), Tuple(Box(Variable(0)), Box(Variable(1))))), Branch(Tuple(Box(Variable(0)), Box(Variable(1))), Bool(), Int()))
	expectExpand(t, Exists(Int(), Exists(Bool(), Tuple(Box(Variable(1)), Box(Variable(0))))), Branch(Tuple(Box(Variable(0)), Box(Variable(1))), Int(), Bool()))
	expectExpand(t, Exists(Int(), Exists(Bool(), Tuple(Variable(0), Box(Variable(1)), Box(Variable(0))))), Branch(Tuple(Variable(0), Box(Variable(1)), Box(Variable(0))), Bool(), Int()))
	expectExpand(t, Exists(Int(), Exists(Bool(), Tuple(Named("Map", Bool(), Box(Variable(1))), Variable(0), Box(Variable(0))))), Branch(Tuple(Named("Map", Bool(), Box(Variable(0))), Variable(1), Box(Variable(1))), Int(), Bool()))
	// The numbers are those in the branch, not those in the term.
	expectExpand(t, Exists(Int(), Exists(Bool(), Union(Box(Variable(0)), Box(Variable(1)), Named("Map", Variable(1), Variable(0))))),
		Branch(Box(Variable(0)), Bool()), Branch(Box(Variable(0)), Int()), Branch(Named("Map", Variable(0), Variable(1)), Int(), Bool()))
	// Equal bounds do not make variables equal.
	expectExpand(t, Tuple(Exists(Int(), Box(Variable(0))), Exists(Int(), Box(Variable(0)))), Branch(Tuple(Box(Variable(0)), Box(Variable(1))), Int(), Int()))
}

// P4.2: the variables of different elements, and of branches that are put in, are kept distinct.
func TestExpandKeepsVariablesDistinct(t *testing.T) {
	boxed := Exists(Int(), Box(Variable(0)))
	expectExpand(t, Exists(boxed, Tuple(Variable(0), Variable(0))), Branch(Tuple(Box(Variable(0)), Box(Variable(1))), Int(), Int()))
	expectExpand(t, Exists(boxed, Tuple(Variable(0), Box(Variable(0)))), Branch(Tuple(Variable(0), Box(Variable(0))), boxed))
	expectExpand(t, Exists(ab(), Tuple(Exists(boxed, Variable(0)), Box(Variable(0)), Exists(boxed, Variable(0)))),
		Branch(Tuple(Box(Variable(0)), Box(Variable(1)), Box(Variable(2))), Int(), ab(), Int()))
	pair := Exists(boxed, Tuple(Variable(0), Variable(0)))
	expectExpand(t, Exists(pair, Tuple(Variable(0), Int(), Variable(0))),
		Branch(Tuple(Tuple(Box(Variable(0)), Box(Variable(1))), Int(), Tuple(Box(Variable(2)), Box(Variable(3)))), Int(), Int(), Int(), Int()))
	either := Exists(Bool(), Union(Tuple(Variable(0), Box(Variable(0))), Variable(0)))
	expectExpand(t, Exists(either, Tuple(Variable(0), Variable(0))),
		Branch(Tuple(Tuple(Variable(0), Box(Variable(0))), Tuple(Variable(1), Box(Variable(1)))), Bool(), Bool()),
		Branch(Tuple(Tuple(Variable(0), Box(Variable(0))), Bool()), Bool()),
		Branch(Tuple(Bool(), Tuple(Variable(0), Box(Variable(0)))), Bool()),
		Branch(Tuple(Bool(), Bool())))
}

// P4.2: ErrInvalid for terms that are malformed, too large or not closed, even beside a part without branches.
func TestExpandInvalid(t *testing.T) {
	for _, x := range malformed() {
		expectError(t, x, api.ErrInvalid)
	}
	for _, x := range open() {
		expectError(t, x, api.ErrInvalid)
	}
	expectError(t, Tuple(many(33), Variable(0)), api.ErrInvalid)
	expectError(t, many(200), api.ErrInvalid)
	expectError(t, many(199), api.ErrTooLong)
	expectError(t, NestTuples(12, Int()), api.ErrInvalid)
	expectExpand(t, NestTuples(11, Int()), Branch(NestTuples(11, Int())))
}

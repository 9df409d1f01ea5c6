package normalize_test

import (
	"fmt"
	"slices"
	"testing"

	"telpher/api"
	"telpher/dnf"
	"telpher/hierarchy"
	"telpher/normalize"
	"telpher/subtype"
	"telpher/typeterm"
	. "telpher/typetest"
)

// modelNormal follows the steps of P6.1 to the letter.
func modelNormal(h *hierarchy.Hierarchy, t api.Type) (api.Type, bool) {
	t, ok := modelInside(h, t)
	if !ok {
		return t, false
	}
	l, err := dnf.Expand(t)
	if err != api.OK || typeterm.Validate(dnf.UnionOf(l)) != api.OK {
		return t, false
	}
	removed := make([]bool, len(l))
	for i, b := range l {
		removed[i] = subtype.BranchIsSubtype(h, b, dnf.UnionOf(modelOthers(l, removed, i)))
	}
	var sorted []api.Branch
	for _, b := range modelOthers(l, removed, -1) {
		at := 0
		for at < len(sorted) && typeterm.Compare(dnf.BranchType(sorted[at]), dnf.BranchType(b)) < 0 {
			at++
		}
		sorted = slices.Insert(sorted, at, b)
	}
	normal := dnf.UnionOf(sorted)
	return normal, modelHasRoom(h, normal, map[string]bool{})
}

func modelOthers(l []api.Branch, removed []bool, but int) []api.Branch {
	var others []api.Branch
	for i, b := range l {
		if i != but && !removed[i] {
			others = append(others, b)
		}
	}
	return others
}

func modelInside(h *hierarchy.Hierarchy, t api.Type) (api.Type, bool) {
	t.Args = slices.Clone(t.Args)
	for i, arg := range t.Args {
		ok := true
		switch {
		case t.Kind == api.KindNamed && len(typeterm.FreeVars(arg)) == 0, t.Kind == api.KindExists && i == 0:
			t.Args[i], ok = modelNormal(h, arg)
		default:
			t.Args[i], ok = modelInside(h, arg)
		}
		if !ok {
			return t, false
		}
	}
	return t, true
}

// modelNext returns the terms that are come to from t in one step.
func modelNext(h *hierarchy.Hierarchy, t api.Type) []api.Type {
	next := slices.Clone(t.Args)
	if t.Kind == api.KindExists {
		next[1] = typeterm.Substitute(t.Args[1], t.Args[0])
	}
	if d, _ := h.Lookup(t.Name); t.Kind == api.KindNamed && d.Super.Kind == api.KindNamed {
		next = append(next, typeterm.Instantiate(d.Super, t.Args))
	}
	return next
}

func modelHasRoom(h *hierarchy.Hierarchy, t api.Type, found map[string]bool) bool {
	text := fmt.Sprint(t)
	if found[text] {
		return true
	}
	found[text] = true
	if typeterm.Size(t) > 200 || typeterm.Depth(t) > 12 || len(found) > 400 {
		return false
	}
	return !slices.ContainsFunc(modelNext(h, t), func(next api.Type) bool { return !modelHasRoom(h, next, found) })
}

// mixed returns a valid closed term that is seldom normal, of a valid size.
func mixed(g *Generator) api.Type {
	x, y := g.Pair()
	switch g.IntN(8) {
	case 0:
		x = Box(x)
	case 1:
		x = Union(y, x)
	case 2:
		x = Tuple(Box(Union(x, y)), g.Term(2, 0))
	case 3:
		x = Exists(x, Union(Named("Pair", Variable(0), y), Tuple(Variable(0), Box(Variable(0)))))
	case 4:
		return y
	case 5:
		x = Union(x, Box(y), y)
	}
	return x
}

// P6.1: Normalize agrees with the model on many types.
func TestAgreesWithModel(t *testing.T) {
	h := SampleHierarchy()
	g := NewGenerator(62)
	var same, changed, tooLong int
	for range 5000 {
		x := mixed(g)
		if typeterm.Validate(x) != api.OK {
			continue
		}
		want, ok := modelNormal(h, x)
		got, err := normalize.Normalize(h, x)
		switch {
		case !ok && err != api.ErrTooLong, ok && (err != api.OK || !Same(got, want)):
			t.Fatalf("Normalize(%v) = %s, error %d; want %s, %v", x, Text(got), err, Text(want), ok)
		case !ok:
			tooLong++
		case Same(got, x):
			same++
		default:
			changed++
		}
		if normalize.IsNormal(h, x) != (ok && Same(want, x)) {
			t.Fatalf("IsNormal(%v) is not %v", x, ok && Same(want, x))
		}
	}
	if min(same, changed, 10*tooLong) < 500 {
		t.Errorf("the types are too much alike: %d normal, %d others, %d without a normal form", same, changed, tooLong)
	}
}

// P6.3: Normalize is idempotent, its result is Equivalent to the type, and no branch of it is redundant.
func TestLaws(t *testing.T) {
	h := SampleHierarchy()
	g := NewGenerator(63)
	unions := 0
	for range 3000 {
		x := mixed(g)
		normal, err := normalize.Normalize(h, x)
		if err != api.OK {
			continue
		}
		if again, err := normalize.Normalize(h, normal); err != api.OK || !Same(again, normal) {
			t.Fatalf("the normal form of %v is %v, and of that %v, error %d", x, normal, again, err)
		}
		if inside, _ := modelInside(h, x); !subtype.Equivalent(h, inside, normal) {
			t.Fatalf("the normal form of %v is %v, which is not equivalent", x, normal)
		}
		l, _ := dnf.Expand(normal)
		for i, b := range l {
			if subtype.BranchIsSubtype(h, b, dnf.UnionOf(modelOthers(l, make([]bool, len(l)), i))) {
				t.Fatalf("branch %d of the normal form %v is redundant", i, normal)
			}
		}
		if len(l) > 1 {
			unions++
		}
	}
	if unions < 200 {
		t.Errorf("only %d unions", unions)
	}
}

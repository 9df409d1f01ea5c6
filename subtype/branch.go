package subtype

import (
	"slices"

	"telpher/api"
	"telpher/typeterm"
)

// A branch is a branch of a type, or the branch of a part of it with the numbers of the variables
// as they are there.
type branch struct {
	scope *term // a tuple of the upper bounds
	body  *term
	key   *term // equal for equal branches
}

func (b *branch) bounds() []*term { return b.scope.args }

// boundOf returns the upper bound of a variable. Only in a malformed branch there may be none.
func (b *branch) boundOf(t *term) (*term, bool) {
	if t.kind != api.KindVar || t.index < 0 || t.index >= len(b.bounds()) {
		return nil, false
	}
	return b.bounds()[t.index], true
}

func (b *branch) write() api.Branch {
	return api.Branch{Bounds: writeAll(b.bounds()), Body: b.body.write()}
}

func (s *solver) tuple(elements ...*term) *term { return s.node(api.KindTuple, "", 0, elements) }

func (s *solver) newBranch(scope, body *term) *branch {
	return &branch{scope, body, s.tuple(scope, body)}
}

func (s *solver) branch(b api.Branch) *branch {
	return s.newBranch(s.tuple(s.list(b.Bounds)...), s.term(b.Body))
}

// alone returns a part of b as the body of a branch without the other variables of b.
func (s *solver) alone(b *branch, part *term) api.Branch {
	vars := typeterm.FreeVars(part.write())
	var scope []*term
	for _, v := range vars {
		if v < len(b.bounds()) {
			scope = append(scope, b.bounds()[v])
		}
	}
	body := s.replace(part, func(index int) *term {
		number, _ := slices.BinarySearch(vars, index)
		return s.node(api.KindVar, "", number, nil)
	})
	return api.Branch{Bounds: writeAll(scope), Body: body.write()}
}

package dnf

import (
	"slices"

	"telpher/api"
	"telpher/typeterm"
)

// A branch is a branch of a closed term whose body has symbols as its variables. The numbers
// hold for the branch when it is written out; they stop growing above mostNodes.
type branch struct {
	body      api.Type
	variables int
	covariant int
	nodes     int
	badBound  bool // whether a bound exceeds the limits, if limits apply
}

func (b *branch) exceedsLimits() bool {
	return b.variables > api.MaxVars || b.covariant > api.MaxCovariant || b.badBound
}

// grow adds numbers to those of b.
func (b *branch) grow(variables, covariant, nodes int) {
	b.variables = min(b.variables+variables, mostNodes+1)
	b.covariant = min(b.covariant+covariant, mostNodes+1)
	b.nodes = min(b.nodes+nodes, mostNodes+1)
}

func (x *expansion) measureAll(bodies []api.Type) []*branch {
	var all []*branch
	for _, body := range bodies {
		all = append(all, x.measure(body))
	}
	return all
}

// measure returns the branch with a body in which all variables are bound.
func (x *expansion) measure(body api.Type) *branch {
	b := &branch{body: body}
	b.grow(0, 0, typeterm.Size(body))
	met := map[int]bool{}
	eachVar(body, func(id int, covariant bool) {
		s := x.symbols[id]
		if s.chosen != nil {
			b.grow(s.chosen.variables, s.chosen.covariant, s.chosen.nodes)
			b.badBound = b.badBound || s.chosen.badBound
			return
		}
		if covariant {
			b.grow(0, 1, 0)
		}
		if !met[id] {
			met[id] = true
			b.grow(1, 0, typeterm.Size(s.bound))
			b.badBound = b.badBound || x.limited && !x.boundFits(id)
		}
	})
	return b
}

// boundFits reports whether the bound of a variable may stand in a branch that Expand returns.
func (x *expansion) boundFits(id int) bool {
	choices, ok := x.choices(id)
	return ok && len(choices) <= api.MaxBound && !slices.ContainsFunc(choices, func(choice int) bool {
		return x.symbols[choice].chosen.exceedsLimits()
	})
}

// writeAll writes out branches, or returns false if they are beyond all that is promised.
func (x *expansion) writeAll(all []*branch) ([]api.Branch, bool) {
	nodes := 0
	for _, b := range all {
		nodes = min(nodes+b.nodes, mostNodes+1)
	}
	if nodes > mostNodes {
		return nil, false
	}
	var written []api.Branch
	for _, b := range all {
		var bounds []api.Type
		body := x.write(b, &bounds)
		written = append(written, api.Branch{Bounds: bounds, Body: body})
	}
	return written, true
}

// write returns the body of b with chosen branches in their places, and numbers the variables
// as it meets them. Each occurrence of a chosen branch gets variables of its own.
func (x *expansion) write(b *branch, bounds *[]api.Type) api.Type {
	numbers := map[int]int{}
	return replaceVars(b.body, func(id int, _ bool) api.Type {
		s := x.symbols[id]
		if s.chosen != nil {
			return x.write(s.chosen, bounds)
		}
		number, met := numbers[id]
		if !met {
			number = len(*bounds)
			numbers[id] = number
			*bounds = append(*bounds, copyTerm(s.bound))
		}
		return variable(number)
	})
}

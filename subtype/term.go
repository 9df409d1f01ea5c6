package subtype

import "telpher/api"

// mostNodes is the number of nodes that fit into 2^31 - 1 bytes, at 56 bytes a node.
// Nothing is promised for larger answers, so that they need not use up the memory.
const mostNodes = (1<<31 - 1) / 56

// A term is a type or a part of the body of a branch. A set of terms holds equal ones only
// once. So they can be compared as pointers, and a nominal type whose supertypes double in size
// at each step takes up little room.
type term struct {
	kind  int
	name  string
	index int
	args  []*term

	id        int
	free      int // the greatest free variable, or -1
	nodes     int // counted up to mostNodes + 1
	covariant int // the number of covariant occurrences, if this is a part of a body
}

func (t *term) isClosed() bool { return t.free < 0 }

type termKey struct {
	kind, index int
	name        string
	args        string // the ids of the arguments
}

type terms map[termKey]*term

// term returns the term that is equal to t.
func (l terms) term(t api.Type) *term { return l.node(t.Kind, t.Name, t.Index, l.list(t.Args)) }

func (l terms) list(types []api.Type) []*term {
	all := make([]*term, len(types))
	for i, t := range types {
		all[i] = l.term(t)
	}
	return all
}

// node returns the term with these fields. It keeps args.
func (l terms) node(kind int, name string, index int, args []*term) *term {
	key := termKey{kind, index, name, ids(args)}
	t, known := l[key]
	if !known {
		t = &term{kind: kind, name: name, index: index, args: args, id: len(l), free: greatestFree(kind, index, args), nodes: 1}
		for _, arg := range args {
			t.nodes = min(t.nodes+arg.nodes, mostNodes+1)
		}
		t.covariant = countCovariant(kind, args)
		l[key] = t
	}
	return t
}

func ids(args []*term) string {
	text := make([]byte, 0, 32)
	for _, arg := range args {
		text = append(text, byte(arg.id), byte(arg.id>>8), byte(arg.id>>16), byte(arg.id>>24))
	}
	return string(text)
}

func greatestFree(kind, index int, args []*term) int {
	free := -1
	if kind == api.KindVar {
		free = max(free, index)
	}
	for i, arg := range args {
		if kind == api.KindExists && i == 1 {
			free = max(free, arg.free-1)
		} else {
			free = max(free, arg.free)
		}
	}
	return free
}

func countCovariant(kind int, args []*term) int {
	count := 0
	switch kind {
	case api.KindVar:
		count = 1
	case api.KindTuple:
		for _, arg := range args {
			count += arg.covariant
		}
	}
	return count
}

// replace puts other terms in the place of the variables of a plain term.
func (l terms) replace(t *term, by func(index int) *term) *term {
	switch {
	case t.isClosed():
		return t
	case t.kind == api.KindVar:
		return by(t.index)
	}
	args := make([]*term, len(t.args))
	for i, arg := range t.args {
		args[i] = l.replace(arg, by)
	}
	return l.node(t.kind, t.name, t.index, args)
}

// write returns a term in memory of its own.
func (t *term) write() api.Type {
	return api.Type{Kind: t.kind, Name: t.name, Index: t.index, Args: writeAll(t.args)}
}

func writeAll(l []*term) []api.Type {
	if len(l) == 0 {
		return nil
	}
	types := make([]api.Type, len(l))
	for i, t := range l {
		types[i] = t.write()
	}
	return types
}

func canBeWritten(l []*term) bool {
	nodes := 0
	for _, t := range l {
		nodes = min(nodes+t.nodes, mostNodes+1)
	}
	return nodes <= mostNodes
}

// pairwise reports whether two lists are of one length and holds is true of each pair, from left to right.
func pairwise(xs, ys []*term, holds func(x, y *term) bool) bool {
	if len(xs) != len(ys) {
		return false
	}
	for i, x := range xs {
		if !holds(x, ys[i]) {
			return false
		}
	}
	return true
}

// all reports whether holds is true of all members of a list.
func all[T any](list []T, holds func(T) bool) bool {
	for _, member := range list {
		if !holds(member) {
			return false
		}
	}
	return true
}

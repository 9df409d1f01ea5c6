// Package typetest makes, compares and writes type terms in the tests of all layers. The program does not use it.
package typetest

import (
	"slices"

	"telpher/api"
)

// Named returns a nominal type.
func Named(name string, args ...api.Type) api.Type {
	return api.Type{Kind: api.KindNamed, Name: name, Args: args}
}

// Node returns a node of any kind, which may be malformed.
func Node(kind int, args ...api.Type) api.Type { return api.Type{Kind: kind, Args: args} }

// Tuple returns a tuple type.
func Tuple(args ...api.Type) api.Type { return Node(api.KindTuple, args...) }

// Union returns a union type, which is malformed with less than two members.
func Union(args ...api.Type) api.Type { return Node(api.KindUnion, args...) }

// Exists returns an existential type.
func Exists(bound, body api.Type) api.Type { return Node(api.KindExists, bound, body) }

// Variable returns the variable with an index.
func Variable(index int) api.Type { return api.Type{Kind: api.KindVar, Index: index} }

// Any returns the type of all values.
func Any() api.Type { return api.Type{} }

// Never returns the type of no value.
func Never() api.Type { return Node(api.KindNever) }

// Int returns the built-in type Int.
func Int() api.Type { return Named("Int") }

// Bool returns the built-in type Bool.
func Bool() api.Type { return Named("Bool") }

// Box returns a nominal type with one argument.
func Box(t api.Type) api.Type { return Named("Box", t) }

// Repeat returns so many copies of t.
func Repeat(count int, t api.Type) []api.Type { return slices.Repeat([]api.Type{t}, count) }

// Nest wraps t so many times.
func Nest(levels int, wrap func(api.Type) api.Type, t api.Type) api.Type {
	for range levels {
		t = wrap(t)
	}
	return t
}

// NestTuples puts t into so many tuples, one in another.
func NestTuples(levels int, t api.Type) api.Type {
	return Nest(levels, func(t api.Type) api.Type { return Tuple(t) }, t)
}

// Branch returns a branch with the upper bounds of its variables.
func Branch(body api.Type, bounds ...api.Type) api.Branch {
	return api.Branch{Bounds: bounds, Body: body}
}

// Same compares terms in all fields. It does not rely on package typeterm.
func Same(a, b api.Type) bool {
	return a.Kind == b.Kind && a.Name == b.Name && a.Index == b.Index && slices.EqualFunc(a.Args, b.Args, Same)
}

// Scribble overwrites all nodes in the memory that t refers to, also behind the ends of its slices.
func Scribble(t api.Type) {
	for _, arg := range t.Args {
		Scribble(arg)
	}
	room := t.Args[:cap(t.Args)]
	for i := range room {
		room[i] = api.Type{Kind: 1000, Name: "scribble"}
	}
}

// ShareMemory reports whether two slices in these terms begin in the same place.
func ShareMemory(l ...api.Type) bool { return shareWith(map[*api.Type]bool{}, l) }

func shareWith(known map[*api.Type]bool, l []api.Type) bool {
	for _, t := range l {
		if len(t.Args) > 0 {
			if known[&t.Args[0]] || shareWith(known, t.Args) {
				return true
			}
			known[&t.Args[0]] = true
		}
	}
	return false
}

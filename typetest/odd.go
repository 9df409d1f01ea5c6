package typetest

import (
	"math"

	"telpher/api"
)

// Malformed returns terms that are not valid or not closed.
func Malformed() []api.Type {
	return []api.Type{
		Node(-1), Node(7), Node(9, Int()), {Name: "Int"}, {Index: 1}, Node(api.KindAny, Int()), Node(api.KindNever, Int()), Never(), Ints(),
		{Kind: api.KindNamed}, {Kind: api.KindNamed, Name: "Int", Index: 1}, Named("1"), Named("Any"), Named("Box"), Named("Vec", Int(), Int()), Named("Shape", Int()),
		Box(Union(Variable(0), Int())), Box(Tuple(Variable(0))), Exists(Any(), Box(Tuple(Variable(0)))), Exists(Any(), Box(Exists(Any(), Variable(1)))), Box(Node(12, Variable(0))),
		Named("Box", Repeat(7, Int())...), Tuple(Repeat(7, Int())...), {Kind: api.KindTuple, Name: "Int"}, Tuple(Never()), Tuple(Union(Variable(0), Int()), Exists(Variable(0), Variable(1))),
		Node(api.KindUnion), Union(Int()), Node(api.KindExists), Node(api.KindExists, Int()), Node(api.KindExists, Any(), Any(), Any()),
		Exists(Variable(0), Int()), Exists(Any(), Exists(Variable(0), Int())), Exists(Any(), Node(8)), Exists(Node(8), Any()), Exists(Variable(3), Tuple(Variable(0), Box(Variable(0)))),
		Variable(-1), Variable(math.MinInt), Variable(math.MaxInt), Box(Variable(-1)), Box(Variable(math.MaxInt)), Tuple(Variable(-1), Box(Variable(2))), Variable(0), Variable(1), Box(Variable(0)), Vec(Variable(1)),
		{Kind: api.KindVar, Name: "Int"}, Node(api.KindVar, Int(), Variable(0)), Tuple(Variable(0), Box(Variable(0))), Tuple(Variable(1), Box(Variable(0)), Variable(0)), Named("Unknown", Variable(0)),
	}
}

// DeepTerms returns terms of which each nests its parts as deep as they may.
func DeepTerms() []api.Type {
	const levels = 1<<16 - 8
	inTuple := func(t api.Type) api.Type { return Tuple(t) }
	return []api.Type{
		Nest(levels, Box, Variable(0)), Nest(levels, Vec, Int()), Nest(levels, inTuple, Variable(0)), Nest(levels, inTuple, Box(Variable(0))),
		Nest(levels, func(t api.Type) api.Type { return Exists(t, Tuple(Variable(0))) }, Int()), Nest(levels, func(t api.Type) api.Type { return Exists(Ints(), t) }, Box(Variable(0))),
		Nest(levels, func(t api.Type) api.Type { return Union(t, Int()) }, Bool()), Nest(levels, func(t api.Type) api.Type { return Union(Int(), t) }, Bool()),
	}
}

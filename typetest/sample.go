package typetest

import (
	"strconv"

	"telpher/api"
	"telpher/hierarchy"
)

// Circle returns a type of the sample hierarchy.
func Circle() api.Type { return Named("Circle") }

// Square returns a type of the sample hierarchy.
func Square() api.Type { return Named("Square") }

// Shape returns a type of the sample hierarchy.
func Shape() api.Type { return Named("Shape") }

// Vec returns a type of the sample hierarchy.
func Vec(t api.Type) api.Type { return Named("Vec", t) }

// List returns a type of the sample hierarchy.
func List(t api.Type) api.Type { return Named("List", t) }

// Ints returns a normal type with the two branches Bool and Int.
func Ints() api.Type { return Union(Bool(), Int()) }

// AnyBox returns the type of all boxes.
func AnyBox() api.Type { return Exists(Any(), Box(Variable(0))) }

// SampleDecls returns abstract types Shape, List[T] below Coll[Box[T]] below Any, and Map[K, V],
// and concrete types Circle, Square, Box[T], Vec[T] below List[T], Ring[T] below Vec[Box[T]],
// Pair[K, V] below Map[K, Box[V]], Swap[K, V] below Pair[V, K], and Text below List[Int].
func SampleDecls() []api.Decl {
	return []api.Decl{
		{Name: "Shape"},
		{Name: "Circle", Super: Shape(), Concrete: true},
		{Name: "Square", Super: Shape(), Concrete: true},
		{Name: "Box", Arity: 1, Concrete: true},
		{Name: "Coll", Arity: 1},
		{Name: "List", Arity: 1, Super: Named("Coll", Box(Variable(0)))},
		{Name: "Vec", Arity: 1, Super: List(Variable(0))},
		{Name: "Ring", Arity: 1, Super: Vec(Box(Variable(0))), Concrete: true},
		{Name: "Map", Arity: 2},
		{Name: "Pair", Arity: 2, Super: Named("Map", Variable(0), Box(Variable(1)))},
		{Name: "Swap", Arity: 2, Super: Named("Pair", Variable(1), Variable(0)), Concrete: true},
		{Name: "Text", Super: List(Int()), Concrete: true},
	}
}

// LaterDecls returns declarations that may be added to the sample hierarchy.
func LaterDecls() []api.Decl {
	return []api.Decl{
		{Name: "Triangle", Super: Shape(), Concrete: true},
		{Name: "Round", Super: Shape()},
		{Name: "Disc", Super: Named("Round"), Concrete: true},
		{Name: "Deque", Arity: 1, Super: Vec(Variable(0)), Concrete: true},
		{Name: "Words", Super: List(Named("String")), Concrete: true},
		{Name: "Cage", Arity: 2, Super: Named("Coll", Box(Named("Map", Variable(1), Variable(0))))},
	}
}

// Declare adds declarations that are known to be valid.
func Declare(h *hierarchy.Hierarchy, l ...api.Decl) {
	for _, d := range l {
		if err := h.Declare(d); err != api.OK {
			panic("Declare of " + d.Name + ": error " + strconv.Itoa(int(err)))
		}
	}
}

// SampleHierarchy returns a hierarchy with SampleDecls.
func SampleHierarchy() *hierarchy.Hierarchy {
	h := hierarchy.New()
	Declare(h, SampleDecls()...)
	return h
}

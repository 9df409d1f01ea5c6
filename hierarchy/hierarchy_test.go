package hierarchy_test

import (
	"slices"
	"strconv"
	"testing"

	"telpher/api"
	"telpher/hierarchy"
	. "telpher/typetest"
)

// P3.3: declarations are listed in the order in which they were added.
func TestDecls(t *testing.T) {
	h := hierarchy.New()
	want := h.Decls()
	for _, name := range []string{"b", "A", "a", "Z9", "Z10"} {
		d := concrete(name, 1, Any(), field("x", Variable(0)))
		declare(t, h, d, d)
		want = append(want, d)
		if !slices.EqualFunc(h.Decls(), want, sameDecl) {
			t.Errorf("Decls = %v; want %v", h.Decls(), want)
		}
	}
}

// P3.4: the text of a declaration and of all it refers to.
func TestFingerprint(t *testing.T) {
	h := sample(t)
	declare(t, h,
		abstract("Ten", 0, Named("Seq", Tuple(Tuple(), Tuple(Never(), Any()), Union(Int(), Exists(Named("Seq", Named("Row")), Exists(Any(), Named("Map", Variable(0), Variable(1)))))))),
		concrete("all", 6, Named("Map", Variable(5), Named("Box", Variable(0))), field("z", Named("all", Variable(0), Variable(1), Variable(2), Variable(3), Variable(4), Variable(5))), field("a", Variable(3)), field("Any", Any())),
		concrete("Far", 0, Any(), field("x", Tuple(Exists(Named("Unit"), Variable(0))))))
	const (
		box     = "Box 1 Any concrete value:$0\n"
		integer = "Int 0 Any concrete\n"
		seq     = "Seq 1 Any\n"
		list    = "List 1 (Seq $0)\n"
		table   = "Map 2 Any\n"
		row     = "Row 0 (List Int) concrete\n"
	)
	for name, want := range map[string]string{
		"Int": integer, "Nil": "Nil 0 Any concrete\n", "Seq": seq, "List": list + seq, "Map": table, "Box": box, "Unit": "Unit 0 Any concrete\n",
		"Row":  integer + list + row + seq,
		"Vec":  box + integer + list + seq + "Vec 1 (List (Box $0)) concrete head:$0 len:Int\n",
		"Pair": box + integer + table + "Nil 0 Any concrete\nPair 2 (Map $1 (Box $0)) concrete key:(Box $1) value:$0 next:(union Nil (Pair Int Any))\n",
		"Grid": box + "Grid 3 (Map (List $2) (exists Any (Box $0)))\n" + list + table + seq,
		"Ten":  integer + list + table + row + seq + "Ten 0 (Seq (tuple (tuple) (tuple Never Any) (union Int (exists (Seq Row) (exists Any (Map $0 $1))))))\n",
		"all":  box + table + "all 6 (Map $5 (Box $0)) concrete z:(all $0 $1 $2 $3 $4 $5) a:$3 Any:Any\n",
		"Far":  "Far 0 Any concrete x:(tuple (exists Unit $0))\nUnit 0 Any concrete\n",
		"":     "", "Any": "", "Never": "", "Nothing": "", "int": "", "value": "", "tuple": "",
	} {
		for range 3 {
			if got := h.Fingerprint(name); got != want {
				t.Errorf("Fingerprint(%q) = %q; want %q", name, got, want)
			}
		}
	}
}

// P3.4: a fingerprint follows a long chain, and only downwards to what the declaration refers to.
func TestFingerprintOfChain(t *testing.T) {
	h, o := hierarchy.New(), hierarchy.New()
	declare(t, h, doubling(50)...)
	declare(t, o, doubling(20)...)
	want := "D0 1 Root\nD1 1 (D0 (Twin $0 $0))\nD10 1 (D9 (Twin $0 $0))\n"
	for i := 2; i < 10; i++ {
		want += "D" + strconv.Itoa(i) + " 1 (D" + strconv.Itoa(i-1) + " (Twin $0 $0))\n"
	}
	want += "Root 0 Any\nTwin 2 Any\n"
	if h.Fingerprint("D10") != want || o.Fingerprint("D10") != want {
		t.Errorf("Fingerprint(D10) = %q; want %q", h.Fingerprint("D10"), want)
	}
}

// P3.4: Clone is equal, and independent in both directions.
func TestClone(t *testing.T) {
	for _, h := range []*hierarchy.Hierarchy{hierarchy.New(), sample(t)} {
		o := h.Clone()
		before := h.Decls()
		if !h.Equal(o) || !o.Equal(h) || !slices.EqualFunc(o.Decls(), before, sameDecl) {
			t.Fatalf("the clone has %v", o.Decls())
		}
		declare(t, o, abstract("New", 0, Any()))
		if h.Equal(o) || o.Equal(h) || h.Knows(Named("New")) || !o.Knows(Named("New")) || !slices.EqualFunc(h.Decls(), before, sameDecl) {
			t.Error("the clone is not independent")
		}
		declare(t, h, abstract("New", 1, Any()))
		if o.Knows(Named("New", Int())) || !o.Knows(Named("New")) || h.Equal(o) {
			t.Error("the clone depends on the original")
		}
		if o.Declare(abstract("New", 1, Any())) != api.ErrDuplicate || o.Declare(abstract("New", 0, Any())) != api.OK {
			t.Error("the clone has not its own declarations")
		}
	}
}

// P3.4: Equal compares all fields of all declarations, and their order.
func TestEqual(t *testing.T) {
	base := concrete("A", 1, Named("Seq", Variable(0)), field("x", Variable(0)), field("y", Int()))
	others := []api.Decl{
		concrete("B", 1, Named("Seq", Variable(0)), base.Fields...), concrete("A", 2, Named("Seq", Variable(0)), base.Fields...), concrete("A", 1, Named("Seq", Int()), base.Fields...), concrete("A", 1, Named("List", Variable(0)), base.Fields...), concrete("A", 1, Any(), base.Fields...),
		abstract("A", 1, Named("Seq", Variable(0))), concrete("A", 1, Named("Seq", Variable(0))), concrete("A", 1, Named("Seq", Variable(0)), base.Fields[0]),
		concrete("A", 1, Named("Seq", Variable(0)), field("x", Variable(0)), field("z", Int())), concrete("A", 1, Named("Seq", Variable(0)), field("x", Variable(0)), field("y", Bool())), concrete("A", 1, Named("Seq", Variable(0)), base.Fields[1], base.Fields[0]),
	}
	h := sample(t)
	declare(t, h, base)
	for _, d := range others {
		o := sample(t)
		if h.Equal(o) || o.Equal(h) {
			t.Error("a hierarchy equals one with fewer declarations")
		}
		declare(t, o, d)
		if h.Equal(o) || o.Equal(h) {
			t.Errorf("a hierarchy with %v equals one with %v", base, d)
		}
	}
	o := sample(t)
	declare(t, o, base)
	if !h.Equal(o) || !o.Equal(h) || !h.Equal(h) {
		t.Error("equal hierarchies differ")
	}
	declare(t, h, abstract("P", 0, Any()), abstract("Q", 0, Any()))
	declare(t, o, abstract("Q", 0, Any()), abstract("P", 0, Any()))
	if h.Equal(o) {
		t.Error("Equal ignores the order")
	}
	if h.Equal(nil) || h.Equal(&hierarchy.Hierarchy{}) || hierarchy.New().Equal(&hierarchy.Hierarchy{}) {
		t.Error("a hierarchy equals none")
	}
}

// P0.1, rule 3: nil and empty slices are equal.
func TestNilAndEmpty(t *testing.T) {
	empty := []api.Type{}
	withEmpty := api.Decl{Name: "A", Super: api.Type{Args: empty}, Concrete: true, Fields: []api.Field{}}
	withNil := concrete("A", 0, Any())
	f := field("x", api.Type{Kind: api.KindNamed, Name: "Int", Args: empty})
	for _, pair := range [][2]api.Decl{{withEmpty, withNil}, {withNil, withEmpty}, {concrete("A", 0, Any(), f), concrete("A", 0, Any(), field("x", Int()))}, {{Name: "A", Fields: []api.Field{}}, {Name: "A"}}} {
		h, o := hierarchy.New(), hierarchy.New()
		declare(t, h, pair[0], pair[1])
		declare(t, o, pair[1], pair[0])
		if !h.Equal(o) || !o.Equal(h) || !h.Equal(h.Clone()) || h.Fingerprint("A") != o.Fingerprint("A") {
			t.Errorf("%#v and %#v differ", pair[0], pair[1])
		}
	}
	h := hierarchy.New()
	integer := api.Type{Kind: api.KindNamed, Name: "Int", Args: empty}
	if fields, ok := h.Fields(integer); !ok || len(fields) != 0 || !h.Knows(integer) || h.Declare(api.Decl{Name: "Int", Concrete: true, Fields: []api.Field{}, Super: api.Type{Args: empty}}) != api.OK {
		t.Error("empty Args are not those of Int")
	}
	expectSupertype(t, h, integer, "Int", Int())
}

// P0.1, rule 2: no function changes its arguments.
func TestArgumentsUnchanged(t *testing.T) {
	h := sample(t)
	for i, x := range append(malformed(), Named("Vec", Named("Box", Variable(0))), Named("Pair", Int(), Tuple(Bool()))) {
		d := concrete("A"+strconv.Itoa(i), 1, x, field("x", x), field("y", Named("Box", x)))
		before, declBefore := show(x), show(d)
		h.Declare(d)
		h.Knows(x)
		h.Supertype(x, "Seq")
		h.Fields(x)
		h.Field(x, "head")
		if show(x) != before || show(d) != declBefore {
			t.Errorf("%s was changed to %v", declBefore, d)
		}
	}
}

// P0.1, rule 2: the hierarchy keeps no memory of a declaration that it is given.
func TestDeclareSharesNoMemory(t *testing.T) {
	h, want := hierarchy.New(), sample(t)
	for _, d := range sampleDecls() {
		room := slices.Grow(slices.Clone(d.Fields), 3)
		d.Fields = room
		declare(t, h, d)
		scribble(d)
	}
	if !h.Equal(want) {
		t.Error("the hierarchy shares memory with a declaration")
	}
}

// P0.1, rule 2: what a caller does with a result changes neither the hierarchy nor its clones nor another result.
func TestResultsShareNoMemory(t *testing.T) {
	h, want := sample(t), sample(t)
	o := h.Clone()
	for _, of := range []*hierarchy.Hierarchy{h, o, h} {
		first, second := of.Decls(), of.Decls()
		for i, d := range first {
			scribble(d)
			found, _ := of.Lookup(second[i].Name)
			scribble(found)
			first[i] = api.Decl{}
		}
		if !slices.EqualFunc(second, want.Decls(), sameDecl) || !h.Equal(want) || !o.Equal(want) {
			t.Fatal("declarations share memory")
		}
	}
	shared := Tuple(Bool(), Int())
	x := Named("Pair", shared, shared)
	before := show(x)
	for range 2 {
		fields, _ := h.Fields(x)
		again, _ := h.Fields(x)
		_, one, _ := h.Field(x, "key")
		super, _ := h.Supertype(x, "Map")
		itself, _ := h.Supertype(x, "Pair")
		Scribble(one)
		Scribble(super)
		Scribble(itself)
		scribbleFields(fields)
		if len(again) != 3 || !Same(again[0].Type, Named("Box", shared)) || !Same(again[1].Type, shared) || show(x) != before || !h.Equal(want) {
			t.Fatal("a result shares memory")
		}
	}
	expectNoSharingWithin(t, h, x)
}

// expectNoSharingWithin expects that the occurrences of one argument in a result have memory of their own.
func expectNoSharingWithin(t *testing.T, h *hierarchy.Hierarchy, x api.Type) {
	t.Helper()
	declare(t, h, abstract("Same", 2, Named("Map", Variable(0), Variable(0))), concrete("Both", 2, Any(), field("a", Variable(0)), field("b", Variable(0))))
	super, _ := h.Supertype(Named("Same", x, x), "Map")
	Scribble(super.Args[0])
	fields, _ := h.Fields(Named("Both", x, x))
	Scribble(fields[0].Type)
	if !Same(super.Args[1], x) || !Same(fields[1].Type, x) {
		t.Error("the parts of a result share memory")
	}
}

package hierarchy

import (
	"maps"
	"slices"
	"strconv"
	"strings"

	"telpher/api"
	"telpher/typeterm"
)

// Fingerprint returns a text that identifies a declaration and all declarations it refers to.
func (h *Hierarchy) Fingerprint(name string) string {
	reached := map[string]bool{}
	h.reach(name, reached)
	var text strings.Builder
	for _, part := range slices.Sorted(maps.Keys(reached)) {
		writeDecl(&text, h.decls[part])
	}
	return text.String()
}

// reach adds the declared name and all names that its declaration leads to.
func (h *Hierarchy) reach(name string, reached map[string]bool) {
	d, ok := h.decls[name]
	if !ok || reached[name] {
		return
	}
	reached[name] = true
	h.reachNames(d.Super, reached)
	for _, f := range d.Fields {
		h.reachNames(f.Type, reached)
	}
}

func (h *Hierarchy) reachNames(t api.Type, reached map[string]bool) {
	for _, name := range typeterm.Names(t) {
		h.reach(name, reached)
	}
}

func writeDecl(text *strings.Builder, d api.Decl) {
	text.WriteString(d.Name + " " + strconv.Itoa(d.Arity) + " ")
	writeTerm(text, d.Super)
	if d.Concrete {
		text.WriteString(" concrete")
	}
	for _, f := range d.Fields {
		text.WriteString(" " + f.Name + ":")
		writeTerm(text, f.Type)
	}
	text.WriteString("\n")
}

// writeTerm writes a valid term.
func writeTerm(text *strings.Builder, t api.Type) {
	head := headText(t)
	if len(t.Args) == 0 && t.Kind != api.KindTuple {
		text.WriteString(head)
		return
	}
	text.WriteString("(" + head)
	for _, arg := range t.Args {
		text.WriteString(" ")
		writeTerm(text, arg)
	}
	text.WriteString(")")
}

// headText returns the text of a node without its arguments.
func headText(t api.Type) string {
	switch t.Kind {
	case api.KindNever:
		return "Never"
	case api.KindNamed:
		return t.Name
	case api.KindTuple:
		return "tuple"
	case api.KindUnion:
		return "union"
	case api.KindVar:
		return "$" + strconv.Itoa(t.Index)
	case api.KindExists:
		return "exists"
	}
	return "Any"
}

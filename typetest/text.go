package typetest

import (
	"strconv"
	"strings"

	"telpher/api"
)

// Text writes a type for the messages of tests, or the beginning of a long one.
func Text(t api.Type) string {
	var b strings.Builder
	write(&b, t)
	if text := b.String(); len(text) > 300 {
		return text[:300] + "…"
	}
	return b.String()
}

func write(b *strings.Builder, t api.Type) {
	b.WriteString(kindText(t))
	if len(t.Args) == 0 || b.Len() > 300 {
		return
	}
	for i, arg := range t.Args {
		b.WriteString(separator(i))
		write(b, arg)
	}
	b.WriteString("]")
}

func separator(i int) string {
	if i == 0 {
		return "["
	}
	return ", "
}

func kindText(t api.Type) string {
	switch t.Kind {
	case api.KindAny:
		return "Any"
	case api.KindNever:
		return "Never"
	case api.KindNamed:
		return t.Name
	case api.KindTuple:
		return "tuple"
	case api.KindUnion:
		return "union"
	case api.KindVar:
		return "$" + strconv.Itoa(t.Index)
	case api.KindExists:
		return "exists"
	}
	return "kind " + strconv.Itoa(t.Kind)
}

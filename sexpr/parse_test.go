package sexpr_test

import (
	"strings"
	"testing"

	"telpher/api"
	"telpher/sexpr"
)

const wordBytes = "abcdefghijklmnopqrstuvwxyzABCDEFGHIJKLMNOPQRSTUVWXYZ0123456789_-"

// The chapter's examples.
func TestExamples(t *testing.T) {
	expectNodes(t, `(add x "a b") ; sum`, list(0, word("add", 1), word("x", 5), quoted("a b", 7)))
	expectFault(t, ")", api.ErrInvalid, 0)
	expectFault(t, "(a", api.ErrInvalid, 2)
}

// P1.1: which bytes form words, separate, or are invalid outside of strings and comments.
func TestEveryByteBetweenWords(t *testing.T) {
	for c := range 256 {
		b := string([]byte{byte(c)})
		src := "a" + b + "b"
		switch {
		case strings.Contains(wordBytes, b):
			expectNodes(t, src, word(src, 0))
			expectNodes(t, b, word(b, 0))
		case c == ' ' || c == '\n':
			expectNodes(t, src, word("a", 0), word("b", 2))
			expectNodes(t, b)
		case c == ';':
			expectNodes(t, src, word("a", 0))
			expectNodes(t, b)
		case c == '(' || c == '"':
			expectFault(t, src, api.ErrInvalid, 3)
			expectFault(t, b, api.ErrInvalid, 1)
		default:
			expectFault(t, src, api.ErrInvalid, 1)
			expectFault(t, b, api.ErrInvalid, 0)
		}
	}
}

// P1.1: which bytes a quoted string may contain, as they are or after a backslash.
func TestEveryByteInStrings(t *testing.T) {
	for c := range 256 {
		b := string([]byte{byte(c)})
		switch plain := "\"x" + b + "y\""; {
		case c == '"':
			expectFault(t, plain, api.ErrInvalid, 5) // the last quote opens another string
		case c == '\\' || c < 32 || c > 126:
			expectFault(t, plain, api.ErrInvalid, 2)
		default:
			expectNodes(t, plain, quoted("x"+b+"y", 0))
		}
		escaped := "\"x\\" + b + "y\""
		if c == '"' || c == '\\' {
			expectNodes(t, escaped, quoted("x"+b+"y", 0))
		} else {
			expectFault(t, escaped, api.ErrInvalid, 2)
		}
	}
}

// P1.1: a comment contains any bytes and ends before the line feed.
func TestComments(t *testing.T) {
	for c := range 256 {
		b := string([]byte{byte(c)})
		if c == '\n' {
			expectNodes(t, ";x"+b+"y", word("y", 3))
		} else {
			expectNodes(t, ";x"+b+"y")
			expectNodes(t, ";x"+b+"y\nz", word("z", 5))
		}
	}
	expectNodes(t, "a;(\n;\"\n\n ;;\nb;", word("a", 0), word("b", 12))
	expectNodes(t, "(a;)\n)", list(0, word("a", 1)))
	expectNodes(t, "\";\"", quoted(";", 0))
	expectFault(t, "(;)", api.ErrInvalid, 3)
	expectFault(t, ";\r\n\r", api.ErrInvalid, 3)
}

// P1.1: elements need no separator if they can be told apart, and may have any number of them.
func TestSeparators(t *testing.T) {
	expectNodes(t, "")
	expectNodes(t, " \n\n  ")
	expectNodes(t, `a"b"c`, word("a", 0), quoted("b", 1), word("c", 4))
	expectNodes(t, `"a""b"`, quoted("a", 0), quoted("b", 3))
	expectNodes(t, `a(b)c`, word("a", 0), list(1, word("b", 2)), word("c", 4))
	expectNodes(t, `()("")-1`, list(0), list(2, quoted("", 3)), word("-1", 6))
	expectNodes(t, "  ( \n a   b\n) ", list(2, word("a", 6), word("b", 10)))
	expectNodes(t, "()", list(0))
	expectNodes(t, "( \n;)\n )", list(0))
}

// P1.1: the limits of words and strings are exact, and a string's counts the bytes of its value.
func TestLengthLimits(t *testing.T) {
	longest := strings.Repeat("w", api.MaxWord)
	expectNodes(t, " "+longest+"\n"+longest, word(longest, 1), word(longest, 2+api.MaxWord))
	expectFault(t, " "+longest+"w ", api.ErrTooLong, 1)
	expectFault(t, strings.Repeat("-", 3*api.MaxWord), api.ErrTooLong, 0)

	value := strings.Repeat(" ", api.MaxString)
	expectNodes(t, "\""+value+"\"", quoted(value, 0))
	expectFault(t, "(\""+value+"x\")", api.ErrTooLong, 1)
	expectNodes(t, "\""+strings.Repeat(`\\`, api.MaxString)+"\"", quoted(strings.Repeat(`\`, api.MaxString), 0))
	expectFault(t, "\""+strings.Repeat(`\"`, api.MaxString+1)+"\"", api.ErrTooLong, 0)
}

// P1.2: the order of the nodes, their texts, children and offsets.
func TestNodes(t *testing.T) {
	expectNodes(t, "\n(f (g \"\\\"q\\\\\" 1_x)\n;c\n () -)z",
		list(1, word("f", 2), list(4, word("g", 5), quoted(`"q\`, 7), word("1_x", 15)), list(24), word("-", 27)), word("z", 29))
	expectNodes(t, "(((a) b) c)", list(0, list(1, list(2, word("a", 3)), word("b", 6)), word("c", 9)))
}

// P1.2: each fault on its own.
func TestFaults(t *testing.T) {
	for _, c := range []struct {
		src    string
		kind   api.Errno
		offset int
	}{
		{"a + b", api.ErrInvalid, 2},
		{"a\tb", api.ErrInvalid, 1},
		{"a\xc3\xa9", api.ErrInvalid, 1},
		{"\\", api.ErrInvalid, 0},
		{"\"a\nb\"", api.ErrInvalid, 2},
		{"\"a\\nb\"", api.ErrInvalid, 2},
		{"\"a\\", api.ErrInvalid, 2},
		{"\"", api.ErrInvalid, 1},
		{"\"a", api.ErrInvalid, 2},
		{"\"a\\\"", api.ErrInvalid, 4},
		{"(a (b)", api.ErrInvalid, 6},
		{"( ;x\n ", api.ErrInvalid, 6},
		{"(\"a)", api.ErrInvalid, 4},
		{"a)", api.ErrInvalid, 1},
		{"(a))", api.ErrInvalid, 3},
		{"()\n)", api.ErrInvalid, 3},
	} {
		expectFault(t, c.src, c.kind, c.offset)
	}
}

// P1.2: lists nest at most MaxNest deep.
func TestNestLimit(t *testing.T) {
	open, shut := strings.Repeat("(", api.MaxNest), strings.Repeat(")", api.MaxNest)
	nodes, fault := sexpr.Parse(open + shut + open + "a b" + shut)
	if fault != (api.Fault{}) || len(nodes) != 2 || sexpr.Depth(nodes) != api.MaxNest || sexpr.Count(nodes) != 2*api.MaxNest+2 {
		t.Errorf("lists nested MaxNest deep: %v, depth %d, count %d", fault, sexpr.Depth(nodes), sexpr.Count(nodes))
	}
	expectFault(t, open+"("+shut+")", api.ErrTooDeep, api.MaxNest)
	expectFault(t, open+"a () "+shut, api.ErrTooDeep, api.MaxNest+2)
	expectFault(t, open+"(", api.ErrTooDeep, api.MaxNest)
	expectFault(t, open, api.ErrInvalid, api.MaxNest)
}

// P1.2: a text of more than MaxText bytes is too long, whatever it contains.
func TestTextLimit(t *testing.T) {
	expectNodes(t, strings.Repeat(" ", api.MaxText))
	expectNodes(t, strings.Repeat("\n", api.MaxText-1)+"a", word("a", api.MaxText-1))
	expectFault(t, strings.Repeat(" ", api.MaxText+1), api.ErrTooLong, 0)
	expectFault(t, ")"+strings.Repeat(" ", api.MaxText), api.ErrTooLong, 0)
	expectFault(t, ")"+strings.Repeat(" ", api.MaxText-1), api.ErrInvalid, 0)
	expectFault(t, strings.Repeat(" ", api.MaxText-1)+")", api.ErrInvalid, api.MaxText-1)
}

// P1.2: of several faults, the leftmost one is returned.
func TestFirstFault(t *testing.T) {
	longWord := strings.Repeat("w", api.MaxWord+1)
	longText := strings.Repeat("s", api.MaxString+1)
	deep := strings.Repeat("(", api.MaxNest+1)
	for _, c := range []struct {
		src    string
		kind   api.Errno
		offset int
	}{
		{")" + longWord, api.ErrInvalid, 0},
		{longWord + ")", api.ErrTooLong, 0},
		{"(" + longWord, api.ErrTooLong, 1},
		{"a+" + longWord, api.ErrInvalid, 1},
		{longWord + "+", api.ErrTooLong, 0},
		{longWord + deep, api.ErrTooLong, 0},
		{deep + longWord, api.ErrTooDeep, api.MaxNest},
		{deep + "+", api.ErrTooDeep, api.MaxNest},
		{"+" + deep, api.ErrInvalid, 0},
		{"\"" + longText + "\" +", api.ErrTooLong, 0},
		{"\"" + longText + "\" \"\n", api.ErrTooLong, 0},
		{"+\"" + longText + "\"", api.ErrInvalid, 0},
		// Within one string, invalid bytes and a missing end take precedence over its length.
		{"\"" + longText, api.ErrInvalid, api.MaxString + 2},
		{"\"" + longText + "\t\"", api.ErrInvalid, api.MaxString + 2},
		{"\"" + longText + "\\x\"", api.ErrInvalid, api.MaxString + 2},
		{"\"" + longText + "\\", api.ErrInvalid, api.MaxString + 2},
	} {
		expectFault(t, c.src, c.kind, c.offset)
	}
}

// P1.2 and P0.1: Parse accepts or refuses every short text. What it accepts can be formatted and read again; a fault is the first one, so the text before it is well formed but for missing ends, and the text after its byte makes no difference.
func TestEveryShortText(t *testing.T) {
	var check func(src string, room int)
	check = func(src string, room int) {
		nodes, fault := sexpr.Parse(src)
		switch {
		case fault == (api.Fault{}):
			checkRoundTrip(t, nodes)
		case len(nodes) != 0 || fault.Kind != api.ErrInvalid || fault.Offset < 0 || fault.Offset > len(src):
			t.Fatalf("Parse(%q) = %v, %v", src, nodes, fault)
		case fault.Offset < len(src):
			if _, before := sexpr.Parse(src[:fault.Offset]); before != (api.Fault{}) && before != fault {
				t.Fatalf("Parse(%q) is %v, but %v comes first", src, fault, before)
			}
			if _, upTo := sexpr.Parse(src[:fault.Offset+1]); upTo != fault {
				t.Fatalf("Parse(%q) is %v, but without the text after the fault %v", src, fault, upTo)
			}
		}
		if room > 0 {
			for _, c := range "a(\")\\; \n+" {
				check(src+string(c), room-1)
			}
		}
	}
	check("", 5)
}

// P0.1, rule 2: results share no memory with each other, and a call keeps nothing of another one.
func TestResultsAreIndependent(t *testing.T) {
	const src = "(a (b) \"c\") (d)"
	first, _ := sexpr.Parse(src)
	second, _ := sexpr.Parse(src)
	first[0].Children[1].Children[0].Text = "changed"
	first[0].Children = append(first[0].Children[:1], word("other", 0), word("more", 0))
	first[1] = sexpr.Node{}
	want := []sexpr.Node{list(0, word("a", 1), list(3, word("b", 4)), quoted("c", 7)), list(12, word("d", 13))}
	if !same(second, want) {
		t.Errorf("a result changed with another one: %v", second)
	}
	expectNodes(t, src, want...)

	siblings, _ := sexpr.Parse("((a b c) (d e f))")
	l := siblings[0].Children
	l[0].Children = append(l[0].Children, word("x", 0))
	if !same(l[1].Children, []sexpr.Node{word("d", 10), word("e", 12), word("f", 14)}) {
		t.Errorf("a list changed with its sibling: %v", l[1])
	}
}

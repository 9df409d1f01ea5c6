package sexpr

import (
	"strings"

	"telpher/api"
)

// Parse returns the nodes in s.
func Parse(s string) (nodes []Node, fault api.Fault) {
	if len(s) > api.MaxText {
		return nil, api.Fault{Kind: api.ErrTooLong}
	}
	defer func() {
		if r := recover(); r != nil {
			nodes, fault = nil, faultOf(r)
		}
	}()
	p := parser{text: s}
	return p.elements(0), api.Fault{}
}

// faultOf returns the fault that a recovered panic reports. The parser panics with faults only, but a panic of any other kind must not look like success.
func faultOf(recovered any) api.Fault {
	if fault, ok := recovered.(api.Fault); ok {
		return fault
	}
	return api.Fault{Kind: api.ErrInvalid}
}

// fail reports malformed input; Parse recovers the fault.
func fail(kind api.Errno, offset int) {
	panic(api.Fault{Kind: kind, Offset: offset})
}

// parser reads a source text from left to right and fails at the first fault.
type parser struct {
	text string
	pos  int
}

// elements reads nodes up to the end of the text or, if lists are open, up to the parenthesis that closes the innermost one.
func (p *parser) elements(open int) []Node {
	var nodes []Node
	for {
		p.skipSeparators()
		if p.atEnd() {
			if open > 0 {
				fail(api.ErrInvalid, p.pos)
			}
			return nodes
		}
		switch c := p.text[p.pos]; {
		case isWordByte(c):
			nodes = append(nodes, p.word())
		case c == '"':
			nodes = append(nodes, p.quoted())
		case c == '(':
			nodes = append(nodes, p.list(open+1))
		case c == ')' && open > 0:
			return nodes
		default:
			fail(api.ErrInvalid, p.pos)
		}
	}
}

func (p *parser) atEnd() bool { return p.pos == len(p.text) }

// skipSeparators skips spaces, line feeds and comments.
func (p *parser) skipSeparators() {
	inComment := false
	for ; !p.atEnd(); p.pos++ {
		switch c := p.text[p.pos]; {
		case c == '\n':
			inComment = false
		case inComment, c == ' ':
		case c == ';':
			inComment = true
		default:
			return
		}
	}
}

func (p *parser) word() Node {
	start := p.pos
	for !p.atEnd() && isWordByte(p.text[p.pos]) {
		p.pos++
	}
	if p.pos-start > api.MaxWord {
		fail(api.ErrTooLong, start)
	}
	// The copy keeps a node from holding on to the whole source text.
	return Node{Kind: NodeWord, Text: strings.Clone(p.text[start:p.pos]), Offset: start}
}

// quoted reads a quoted string. Its length is checked only after its end, because invalid bytes take precedence.
func (p *parser) quoted() Node {
	start := p.pos
	var value strings.Builder
	p.pos++
	for !p.atEnd() && p.text[p.pos] != '"' {
		value.WriteByte(p.stringByte())
	}
	if p.atEnd() {
		fail(api.ErrInvalid, p.pos)
	}
	p.pos++
	if value.Len() > api.MaxString {
		fail(api.ErrTooLong, start)
	}
	return Node{Kind: NodeString, Text: value.String(), Offset: start}
}

// stringByte reads one byte of the value of a quoted string, with the backslash before it if there is one.
func (p *parser) stringByte() byte {
	start := p.pos
	if p.text[p.pos] == '\\' {
		p.pos++
		if p.atEnd() || !mustEscape(p.text[p.pos]) {
			fail(api.ErrInvalid, start)
		}
	}
	c := p.text[p.pos]
	if !isStringByte(c) {
		fail(api.ErrInvalid, start)
	}
	p.pos++
	return c
}

// list reads a list that is the innermost of so many open ones.
func (p *parser) list(open int) Node {
	start := p.pos
	if open > api.MaxNest {
		fail(api.ErrTooDeep, start)
	}
	p.pos++
	children := p.elements(open)
	p.pos++ // elements has stopped at the closing parenthesis
	return Node{Kind: NodeList, Children: children, Offset: start}
}

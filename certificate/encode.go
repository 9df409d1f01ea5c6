package certificate

import (
	"math"

	"telpher/api"
	"telpher/typeterm"
)

// Encode returns the binary encoding of c.
func Encode(c api.Certificate) ([]byte, api.Errno) {
	switch {
	case spend(c, api.MaxCertificate, api.MaxCertDepth) < 0:
		return nil, api.ErrTooLong
	case !canEncode(c):
		return nil, api.ErrInvalid
	}
	return appendNode(nil, c), api.OK
}

// spend returns what c leaves of a number of nodes, or -1 if it has more nodes, or more levels than
// it may. It stops as soon as that is known, because c may be far beyond the limits.
func spend(c api.Certificate, nodes, levels int) int {
	if nodes == 0 || levels == 0 {
		return -1
	}
	left := nodes - 1
	for i := 0; i < len(c.Parts) && left >= 0; i++ {
		left = spend(c.Parts[i], left, levels-1)
	}
	return left
}

// canEncode reports whether all numbers and terms in c, which is within the limits, are valid.
func canEncode(c api.Certificate) bool {
	return isNumber(c.Branch) && isNumber(c.Split) && all(c.Assigned, isValid) && all(c.Parts, canEncode)
}

func isNumber(n int) bool { return 0 <= n && n <= math.MaxInt32 }

func isValid(t api.Type) bool { return typeterm.Validate(t) == api.OK }

func appendNode(b []byte, c api.Certificate) []byte {
	b = appendNumber(b, c.Branch)
	b = appendNumber(b, c.Split)
	b = appendList(b, c.Assigned, appendTerm)
	return appendList(b, c.Parts, appendNode)
}

func appendBranch(b []byte, branch api.Branch) []byte {
	return appendTerm(appendList(b, branch.Bounds, appendTerm), branch.Body)
}

func appendTerm(b []byte, t api.Type) []byte {
	b = appendNumber(b, t.Kind)
	b = appendNumber(b, len(t.Name))
	b = append(b, t.Name...)
	b = appendNumber(b, t.Index)
	return appendList(b, t.Args, appendTerm)
}

func appendList[T any](b []byte, l []T, add func([]byte, T) []byte) []byte {
	b = appendNumber(b, len(l))
	for _, member := range l {
		b = add(b, member)
	}
	return b
}

// appendNumber appends an unsigned LEB128 integer of minimal length.
func appendNumber(b []byte, number int) []byte {
	rest := uint64(number)
	for rest >= 0x80 {
		b = append(b, byte(rest)|0x80)
		rest >>= 7
	}
	return append(b, byte(rest))
}

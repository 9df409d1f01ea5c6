package certificate

import (
	"math"

	"telpher/api"
)

// Decode returns the certificate that b encodes.
func Decode(b []byte) (api.Certificate, api.Errno) {
	d := decoder{rest: b}
	c := d.node(1)
	if len(d.rest) > 0 {
		d.fail(api.ErrInvalid)
	}
	if d.err != api.OK {
		return api.Certificate{}, d.err
	}
	return c, api.OK
}

// A decoder reads an encoding from left to right. After an error, what it returns means nothing.
type decoder struct {
	rest  []byte // what has not been read
	nodes int    // how many nodes of the certificate have been begun
	err   api.Errno
}

// fail notes an error, unless there was one before.
func (d *decoder) fail(err api.Errno) {
	if d.err == api.OK {
		d.err = err
	}
}

// take reads so many bytes, or returns nil if there are not so many.
func (d *decoder) take(count int) []byte {
	if count > len(d.rest) {
		d.fail(api.ErrTruncated)
		return nil
	}
	taken := d.rest[:count]
	d.rest = d.rest[count:]
	return taken
}

// number reads an unsigned LEB128 integer of at most five bytes.
func (d *decoder) number() int {
	n := 0
	for i := range 5 {
		next := d.take(1)
		if next == nil {
			return 0
		}
		n |= int(next[0]&0x7f) << (7 * i)
		if next[0] < 0x80 {
			if i > 0 && next[0] == 0 || n > math.MaxInt32 {
				d.fail(api.ErrInvalid)
			}
			return n
		}
	}
	d.fail(api.ErrInvalid)
	return 0
}

func (d *decoder) node(depth int) api.Certificate {
	d.nodes++
	if d.nodes > api.MaxCertificate || depth > api.MaxCertDepth {
		d.fail(api.ErrTooLong)
		return api.Certificate{}
	}
	var c api.Certificate
	c.Branch = d.number()
	c.Split = d.number()
	c.Assigned = readAll(d, d.number(), d.validTerm)
	c.Parts = readAll(d, d.number(), func() api.Certificate { return d.node(depth + 1) })
	return c
}

// readAll reads so many members of a list, as long as there is no error. It sets no memory aside
// for them, because nothing says that there are as many as they are said to be.
func readAll[T any](d *decoder, count int, read func() T) []T {
	var l []T
	for i := 0; i < count && d.err == api.OK; i++ {
		l = append(l, read())
	}
	return l
}

// validTerm reads a term, which may be too large or too deep and has to be read to its end all the
// same. So it makes sure of its size before it reads it again.
func (d *decoder) validTerm() api.Type {
	start := d.rest
	nodes := d.skipTerm()
	if nodes > api.MaxNodes {
		d.fail(api.ErrInvalid)
	}
	if d.err != api.OK {
		return api.Type{}
	}
	d.rest = start
	t := d.term()
	if !isValid(t) {
		d.fail(api.ErrInvalid)
	}
	return t
}

// skipTerm returns the number of nodes of a term that it does not keep.
func (d *decoder) skipTerm() int {
	nodes := 0
	for open := 1; open > 0 && d.err == api.OK; open-- {
		_, _, _, args := d.head()
		open += args
		nodes++
	}
	return nodes
}

func (d *decoder) term() api.Type {
	kind, name, index, args := d.head()
	return api.Type{Kind: kind, Name: string(name), Index: index, Args: readAll(d, args, d.term)}
}

// head reads a node of a term up to its arguments, of which it returns the number.
func (d *decoder) head() (kind int, name []byte, index, args int) {
	kind = d.number()
	name = d.take(d.number())
	index = d.number()
	args = d.number()
	return kind, name, index, args
}

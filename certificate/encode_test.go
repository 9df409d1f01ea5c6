package certificate_test

import (
	"bytes"
	"math"
	"strings"
	"testing"

	"telpher/api"
	"telpher/certificate"
	. "telpher/typetest"
)

// expectEncoding checks that Encode and Decode lead from one to the other.
func expectEncoding(t *testing.T, c api.Certificate, want string) {
	t.Helper()
	b, err := certificate.Encode(c)
	if err != api.OK || string(b) != want {
		t.Errorf("Encode(%s) = %q, error %d; want %q", brief(c), b, err, want)
	}
	back, err := certificate.Decode([]byte(want))
	if err != api.OK || !sameCertificate(back, c) {
		t.Errorf("Decode(%q) = %s, error %d; want %s", want, brief(back), err, brief(c))
	}
}

// P7.3: the encodings of nodes, terms and numbers.
func TestEncoding(t *testing.T) {
	expectEncoding(t, node(), "\x00\x00\x00\x00")
	expectEncoding(t, node(direct(1)), "\x00\x00\x00\x01\x01\x00\x00\x00")
	expectEncoding(t, split(2, direct(3), node()), "\x00\x02\x00\x02\x03\x00\x00\x00\x00\x00\x00\x00")
	expectEncoding(t, assign(1, Any()), "\x01\x00\x01\x00\x00\x00\x00\x00")
	expectEncoding(t, assign(1, Named("Map", Variable(0), Never())), "\x01\x00\x01\x02\x03Map\x00\x02\x05\x00\x00\x00\x01\x00\x00\x00\x00")
	expectEncoding(t, assign(1, AnyBox(), self(1)), "\x01\x00\x01\x06\x00\x00\x02\x00\x00\x00\x00\x02\x03Box\x00\x01\x05\x00\x00\x00\x01\x00\x00\x00\x01\x01\x00\x00\x00")
	expectEncoding(t, api.Certificate{Assigned: []api.Type{Tuple(), Int()}}, "\x00\x00\x02\x03\x00\x00\x00\x02\x03Int\x00\x00\x00")
	for number, want := range map[int]string{0: "\x00", 1: "\x01", 127: "\x7f", 128: "\x80\x01", 255: "\xff\x01", 256: "\x80\x02", 16383: "\xff\x7f", 16384: "\x80\x80\x01", 1 << 21: "\x80\x80\x80\x01", 1<<28 - 1: "\xff\xff\xff\x7f", 1 << 28: "\x80\x80\x80\x80\x01", math.MaxInt32: "\xff\xff\xff\xff\x07"} {
		expectEncoding(t, api.Certificate{Branch: number}, want+"\x00\x00\x00")
		expectEncoding(t, api.Certificate{Split: number}, "\x00"+want+"\x00\x00")
	}
	expectEncoding(t, assign(0, Variable(200)), "\x00\x00\x01\x05\x00\xc8\x01\x00\x00")
	expectEncoding(t, api.Certificate{Assigned: Repeat(130, Any())}, "\x00\x00\x82\x01"+strings.Repeat("\x00", 4*130)+"\x00")
	expectEncoding(t, toAny(130), "\x00\x00\x00\x82\x01"+strings.Repeat("\x01\x00\x00\x00", 130))
}

// nested returns certificates inside one another, with so many levels.
func nested(levels int) api.Certificate {
	c := node()
	for range levels - 1 {
		c = node(c)
	}
	return c
}

// flat returns a certificate with so many nodes.
func flat(nodes int) api.Certificate {
	return api.Certificate{Parts: make([]api.Certificate, nodes-1)}
}

// P7.3: certificates that exactly keep the limits, and certificates that do not.
func TestLimits(t *testing.T) {
	for _, c := range []api.Certificate{
		nested(api.MaxCertDepth), flat(api.MaxCertificate), node(flat(api.MaxCertificate-2), node()), node(node(), flat(api.MaxCertificate-2)), node(nested(api.MaxCertDepth-1), nested(api.MaxCertDepth-1)), node(nested(api.MaxCertDepth-1), flat(api.MaxCertificate-api.MaxCertDepth)),
		direct(math.MaxInt32), split(math.MaxInt32), {Branch: math.MaxInt32, Split: math.MaxInt32}, assign(0, Variable(api.MaxNodes)), assign(0, Tuple(Repeat(6, Int())...)), assign(0, Union(Repeat(api.MaxNodes-1, Int())...)), assign(0, NestTuples(api.MaxTypeDepth-1, Int())),
	} {
		b, err := certificate.Encode(c)
		if err != api.OK {
			t.Errorf("Encode(%s): error %d", brief(c), err)
		}
		if back, err := certificate.Decode(b); err != api.OK || !sameCertificate(back, c) {
			t.Errorf("Decode of %s = %s, error %d", brief(c), brief(back), err)
		}
	}
	for _, c := range []api.Certificate{
		nested(api.MaxCertDepth + 1), flat(api.MaxCertificate + 1), node(flat(api.MaxCertificate-1), node()), node(node(), flat(api.MaxCertificate-1)), node(node(), nested(api.MaxCertDepth)), node(nested(api.MaxCertDepth), node()), nested(1000), node(nested(api.MaxCertDepth-1), flat(api.MaxCertificate-api.MaxCertDepth+1)),
	} {
		expectEncodeError(t, c, api.ErrTooLong)
	}
	expectEncodeError(t, direct(1<<31), api.ErrInvalid)
	expectEncodeError(t, split(1<<31), api.ErrInvalid)
	expectEncodeError(t, assign(0, Variable(api.MaxNodes+1)), api.ErrInvalid)
	expectEncodeError(t, assign(0, Union(Repeat(api.MaxNodes, Int())...)), api.ErrInvalid)
	expectEncodeError(t, assign(0, NestTuples(api.MaxTypeDepth, Int())), api.ErrInvalid)
}

func expectEncodeError(t *testing.T, c api.Certificate, want api.Errno) {
	t.Helper()
	if b, err := certificate.Encode(c); err != want || b != nil {
		t.Errorf("Encode(%s) = %d bytes, error %d; want error %d", brief(c), len(b), err, want)
	}
}

// P7.3: each error of Encode, wherever its cause stands, and their order.
func TestEncodeErrors(t *testing.T) {
	invalid := []api.Certificate{direct(-1), split(-1), direct(1 << 31), split(1 << 31), direct(math.MaxInt), split(math.MinInt)}
	for _, x := range append(Malformed(), DeepTerms()...) {
		if want := encodable(x); !want {
			invalid = append(invalid, assign(1, x))
		} else if _, err := certificate.Encode(assign(1, x)); err != api.OK {
			t.Errorf("Encode with %s: error %d", Text(x), err)
		}
	}
	if len(invalid) < 40 {
		t.Errorf("only %d certificates", len(invalid))
	}
	for _, c := range invalid {
		expectEncodeError(t, c, api.ErrInvalid)
		expectEncodeError(t, node(node(), c), api.ErrInvalid)
		expectEncodeError(t, node(split(1, c, node()), node()), api.ErrInvalid)
		expectEncodeError(t, api.Certificate{Assigned: append([]api.Type{Int()}, c.Assigned...), Branch: c.Branch, Split: c.Split}, api.ErrInvalid)
		// A limit that is exceeded comes first, also behind what is invalid.
		c.Parts = []api.Certificate{nested(api.MaxCertDepth)}
		expectEncodeError(t, c, api.ErrTooLong)
		c.Parts = flat(api.MaxCertificate + 1).Parts
		expectEncodeError(t, c, api.ErrTooLong)
		c.Parts = flat(api.MaxCertificate).Parts
		expectEncodeError(t, c, api.ErrInvalid)
	}
}

// encodable reports whether an assigned term may be encoded, for the terms of this test.
func encodable(x api.Type) bool {
	for _, valid := range []api.Type{Never(), Ints(), Variable(0), Variable(1), Box(Variable(0)), Vec(Variable(1)), Named("Box"), Named("Vec", Int(), Int()), Named("Shape", Int()), Tuple(Never()), Tuple(Variable(0), Box(Variable(0))), Tuple(Variable(1), Box(Variable(0)), Variable(0)), Named("Unknown", Variable(0))} {
		if Same(x, valid) {
			return true
		}
	}
	return false
}

// encodings returns encodings of certificates of all kinds.
func encodings(t *testing.T) [][]byte {
	h := SampleHierarchy()
	l := []api.Certificate{node(), direct(300), split(math.MaxInt32), nested(5), assign(1<<20, Variable(199), assign(2, AnyBox())), {Assigned: []api.Type{Any(), Never(), Int(), Tuple(Int(), Any()), Ints()}}}
	for _, pair := range changing(t) {
		c, _ := certificate.Prove(h, pair[0], pair[1])
		l = append(l, c)
	}
	var all [][]byte
	for _, c := range l {
		b, err := certificate.Encode(c)
		if err != api.OK {
			t.Errorf("Encode(%s): error %d", brief(c), err)
		}
		all = append(all, b)
	}
	return all
}

// P7.3: Decode of every encoding cut at every length, and with bytes after the end.
func TestCutEncodings(t *testing.T) {
	for _, b := range encodings(t) {
		for n := range b {
			expectDecodeError(t, string(b[:n]), api.ErrTruncated)
		}
		for _, more := range []string{"\x00", "\x01", "\x80", "\xff\xff\xff\xff\xff", string(b)} {
			expectDecodeError(t, string(b)+more, api.ErrInvalid)
		}
		c, err := certificate.Decode(b)
		again, _ := certificate.Encode(c)
		if err != api.OK || !bytes.Equal(again, b) {
			t.Errorf("Encode(Decode(%q)) = %q, error %d", b, again, err)
		}
	}
}

func expectDecodeError(t *testing.T, b string, want api.Errno) {
	t.Helper()
	if c, err := certificate.Decode([]byte(b)); err != want || !sameCertificate(c, api.Certificate{}) {
		t.Errorf("Decode(%.60q) = %s, error %d; want error %d", b, brief(c), err, want)
	}
}

// P7.3: numbers that are not minimal, too great, too long or incomplete, wherever a number stands.
func TestDecodeNumbers(t *testing.T) {
	for number, want := range map[string]api.Errno{
		"": api.ErrTruncated, "\x80": api.ErrTruncated, "\xff\xff": api.ErrTruncated, "\x80\x80\x80": api.ErrTruncated, "\xff\xff\xff\xff": api.ErrTruncated, "\x80\x80\x80\x80": api.ErrTruncated,
		"\x80\x00": api.ErrInvalid, "\x81\x00": api.ErrInvalid, "\xff\x80\x00": api.ErrInvalid, "\x80\x80\x80\x00": api.ErrInvalid, "\xff\xff\xff\xff\x00": api.ErrInvalid,
		"\x80\x80\x80\x80\x08": api.ErrInvalid, "\xff\xff\xff\xff\x08": api.ErrInvalid, "\xff\xff\xff\xff\x0f": api.ErrInvalid, "\xff\xff\xff\xff\x7f": api.ErrInvalid,
		"\x80\x80\x80\x80\x80": api.ErrInvalid, "\xff\xff\xff\xff\xff": api.ErrInvalid, "\x80\x80\x80\x80\x80\x00": api.ErrInvalid, "\x80\x80\x80\x80\x80\x80\x80\x80\x80\x80\x01": api.ErrInvalid,
	} {
		for _, before := range []string{"", "\x00", "\x00\x00", "\x00\x00\x00", "\x00\x00\x00\x01", "\x00\x00\x01", "\x00\x00\x01\x02", "\x00\x00\x01\x02\x03Int", "\x00\x00\x01\x02\x03Int\x00", "\x00\x00\x01\x09\x00", "\x00\x00\x01\x03\x00\x00\x01"} {
			expectDecodeError(t, before+number, want)
		}
	}
}

// P7.3: a term that is not valid is reported when the whole term is complete, and before what follows.
func TestDecodeInvalidTerms(t *testing.T) {
	const leaf = "\x00\x00\x00\x00"
	inTuple := func(levels int) string { return strings.Repeat("\x03\x00\x00\x01", levels) + leaf }
	for _, term := range []string{
		"\x09\x00\x00\x00", "\x07\x00\x00\x00", "\xff\xff\xff\xff\x07\x00\x00\x00", "\x00\x01A\x00\x00", "\x00\x00\x01\x00", "\x00\x00\x00\x01" + leaf, "\x02\x00\x00\x00", "\x02\x03Any\x00\x00", "\x02\x031st\x00\x00", "\x02\x01A\x01\x00",
		"\x02\x01\xff\x00\x00", "\x02\x19" + strings.Repeat("A", 25) + "\x00\x00", "\x02\x80\x80\x01" + strings.Repeat("A", 1<<14) + "\x00\x00", "\x02\x01A\x00\x07" + strings.Repeat(leaf, 7), "\x02\x01A\x00\x01\x03\x00\x00\x01\x05\x00\x00\x00", "\x03\x00\x00\x07" + strings.Repeat(leaf, 7), "\x04\x00\x00\x00", "\x04\x00\x00\x01" + leaf,
		"\x05\x00\xc9\x01\x00", "\x05\x00\xff\xff\xff\xff\x07\x00", "\x05\x00\x00\x01" + leaf, "\x06\x00\x00\x00", "\x06\x00\x00\x01" + leaf, "\x06\x00\x00\x02\x05\x00\x00\x00" + leaf, "\x06\x00\x00\x03" + strings.Repeat(leaf, 3),
		inTuple(12), inTuple(199), inTuple(200), inTuple(1 << 16), "\x04\x00\x00\xc8\x01" + strings.Repeat(leaf, 200), "\x04\x00\x00\x80\x80\x04" + strings.Repeat(leaf, 1<<16),
	} {
		before := "\x00\x00\x01"
		for _, after := range []string{"", "\x00", "\x80\x00", "\xff\xff\xff\xff\xff", "\x01"} {
			expectDecodeError(t, before+term+after, api.ErrInvalid)
		}
		for n := 0; n < len(term); n += 1 + n/100 {
			expectDecodeError(t, before+term[:n], api.ErrTruncated)
		}
		expectDecodeError(t, "\x00\x00\x02"+term, api.ErrInvalid)
		expectDecodeError(t, "\x00\x00\x02"+leaf+term, api.ErrInvalid)
		expectDecodeError(t, "\x00\x00\x00\x01\x00\x00\x01"+term, api.ErrInvalid)
	}
	valid := "\x00\x00\x02" + inTuple(11) + "\x04\x00\x00\xc7\x01" + strings.Repeat(leaf, 199) + "\x00"
	if c, err := certificate.Decode([]byte(valid)); err != api.OK || len(c.Assigned) != 2 {
		t.Errorf("Decode of two valid terms: error %d", err)
	}
	expectDecodeError(t, "\x00\x00\x01"+inTuple(1<<22), api.ErrInvalid)
	// An error in a number of the term comes before the term itself.
	expectDecodeError(t, "\x00\x00\x01\x09\x00\x00\x02"+leaf, api.ErrTruncated)
	expectDecodeError(t, "\x00\x00\x01\x09\x05abcd", api.ErrTruncated)
	expectDecodeError(t, "\x00\x00\x01\x09\xff\xff\xff\xff\x07abcd", api.ErrTruncated)
	expectDecodeError(t, "\x00\x00\x01\x09\x00\x00\xff\xff\xff\xff\x07"+leaf, api.ErrTruncated)
}

// P7.3: ErrTooLong at the start of a node that exceeds a limit, even where the bytes end.
func TestDecodeTooLong(t *testing.T) {
	const bare = "\x00\x00\x00\x00"
	deep := strings.Repeat("\x00\x00\x00\x01", api.MaxCertDepth)
	many := "\x00\x00\x00\xff\xff\x03" + strings.Repeat(bare, api.MaxCertificate-1)
	for _, whole := range []string{deep, many} {
		expectDecodeError(t, whole, api.ErrTooLong)
		for _, after := range []string{"\x00", bare, "\x80", "\xff\xff\xff\xff\xff", "\x00\x00\x01\x09\x00\x00\x00"} {
			expectDecodeError(t, whole+after, api.ErrTooLong)
		}
		expectDecodeError(t, whole[:len(whole)-1], api.ErrTruncated)
		expectDecodeError(t, whole[:len(whole)-4], api.ErrTruncated)
		// What is wrong before that node comes first.
		expectDecodeError(t, whole[:len(whole)-2]+"\x80\x00\x01", api.ErrInvalid)
		expectDecodeError(t, whole[:len(whole)-2]+"\x01\x09\x00\x00\x00\x01", api.ErrInvalid)
		expectDecodeError(t, "\x80\x00"+whole[1:], api.ErrInvalid)
	}
	// Parts side by side are not deeper than one another.
	last := deep[:len(deep)-1]
	if _, err := certificate.Decode([]byte(last + "\x00")); err != api.OK {
		t.Errorf("Decode at the greatest depth: error %d", err)
	}
	siblings := deep[:len(deep)-5] + "\x02" + bare + bare
	if c, err := certificate.Decode([]byte(siblings)); err != api.OK || certificate.Size(c) != api.MaxCertDepth+1 {
		t.Errorf("Decode of siblings at the greatest depth: error %d", err)
	}
	expectDecodeError(t, siblings[:len(siblings)-1]+"\x01", api.ErrTooLong)
	exact := "\x00\x00\x00\x9f\x9c\x01" + strings.Repeat(bare, api.MaxCertificate-1)
	if c, err := certificate.Decode([]byte(exact)); err != api.OK || certificate.Size(c) != api.MaxCertificate {
		t.Errorf("Decode of the greatest number of nodes: error %d", err)
	}
	expectDecodeError(t, exact+"\x00", api.ErrInvalid)
}

// P7.3: changed encodings lead to an error or are those of another certificate; and the first
// error from left to right does not depend on what comes after it.
func TestChangedEncodings(t *testing.T) {
	g := NewGenerator(71)
	var decoded, failed int
	for _, original := range encodings(t) {
		for range 300 {
			b := bytes.Clone(original)
			for range 1 + g.IntN(3) {
				b[g.IntN(len(b))] = byte(Pick(g, 0, 1, 2, 3, 5, 0x7f, 0x80, 0xff, g.IntN(256)))
			}
			if c, err := certificate.Decode(b); err == api.OK {
				decoded++
				if again, err := certificate.Encode(c); err != api.OK || !bytes.Equal(again, b) {
					t.Fatalf("Decode accepts %q, but Encode returns %q, error %d", b, again, err)
				}
			}
			known := api.ErrTruncated
			for n := range len(b) + 1 {
				c, err := certificate.Decode(b[:n])
				switch {
				case known != api.ErrTruncated && err != known:
					t.Fatalf("Decode(%q): error %d, but %d for a shorter part", b[:n], err, known)
				case err == api.OK:
					known = api.ErrInvalid
				case err != api.ErrTruncated:
					known = err
					failed++
				}
				if err != api.OK && !sameCertificate(c, api.Certificate{}) {
					t.Fatalf("Decode(%q) = %s, error %d", b[:n], brief(c), err)
				}
			}
		}
	}
	if min(decoded, failed) < 300 {
		t.Errorf("%d certificates, %d errors", decoded, failed)
	}
}

package certificate

import (
	"telpher/api"
	"telpher/dnf"
	"telpher/hierarchy"
	"telpher/subtype"
	"telpher/typeterm"
)

// Nothing is promised for larger certificates, so that they need not use up the memory.
const (
	mostBytes = 1<<31 - 1
	nodeBytes = 64 // of a node of a certificate
	termBytes = 56 // of a node of a term
)

// A proof is a certificate whose parts may be the same where they are equal.
type proof struct {
	branch, split int
	assigned      []*api.Type
	parts         []*proof
	bytes         int // of the certificate
}

// A prover makes the proofs of goals that hold, each of which becomes a part of the certificate.
type prover struct {
	*ledger
	decided map[*goal]bool
	proofs  map[*goal]*proof
	room    int // how many more bytes the certificate may have, if each proof is in it once
}

func newProver(h *hierarchy.Hierarchy) *prover {
	return &prover{newLedger(h), map[*goal]bool{}, map[*goal]*proof{}, mostBytes}
}

// holds decides a goal without a proof of it, which may be large and of no use.
func (p *prover) holds(g *goal) bool {
	answer, known := p.decided[g]
	if !known {
		answer = all(g.claims, p.isTrue)
		p.decided[g] = answer
	}
	return answer
}

func (p *prover) isTrue(c *claim) bool { return subtype.BranchIsSubtype(p.h, c.b, c.above.t) }

// prove returns the proof of a goal that holds. Like proveClaim, it returns nil if the certificate
// becomes too large, or if there is none, which is so only for types that are not normal.
func (p *prover) prove(g *goal) *proof {
	if p.proofs[g] == nil {
		p.proofs[g] = finish(p, proof{}, g.claims, p.proveClaim)
	}
	return p.proofs[g]
}

func (p *prover) proveClaim(c *claim) *proof {
	for i := range c.above.branches {
		if m := c.comparison(i); m.ok && all(m.goals, p.holds) {
			return finish(p, proof{branch: i + 1, assigned: m.assigned}, m.goals, p.prove)
		}
	}
	for k := range dnf.CovariantVars(c.b) {
		if parts, ok := c.split(k); ok && all(parts, p.isTrue) {
			return finish(p, proof{split: k + 1}, parts, p.proveClaim)
		}
	}
	return nil
}

// finish completes a proof with the proofs of its parts.
func finish[T any](p *prover, made proof, parts []T, prove func(T) *proof) *proof {
	made.bytes = nodeBytes
	for _, t := range made.assigned {
		made.bytes += termBytes * typeterm.Size(*t)
	}
	p.room -= made.bytes
	for _, part := range parts {
		if p.room < 0 {
			return nil
		}
		done := prove(part)
		if done == nil || made.bytes+done.bytes > mostBytes {
			return nil
		}
		made.parts = append(made.parts, done)
		made.bytes += done.bytes
	}
	return &made
}

// write returns the certificate, each part of it in memory of its own.
func (p *proof) write() api.Certificate {
	c := api.Certificate{Branch: p.branch, Split: p.split}
	for _, t := range p.assigned {
		c.Assigned = append(c.Assigned, typeterm.Instantiate(*t, nil))
	}
	for _, part := range p.parts {
		c.Parts = append(c.Parts, part.write())
	}
	return c
}

/- Terms, fields and declarations in memory. No condition. -/
import Derived.Test.YtpdigaankmgagaaRin
import Derived.Test.YtpdigaankmgagaaTm
import Derived.Test.YtpdigaankmgagaaTva
set_option linter.unusedVariables false
set_option linter.unusedSimpArgs false
namespace Go.Proofs.Ytpdigaankmgagaa.Sx
structure De where
  name : List UInt8
  arity : Int
  super : Tm
  conc : Bool
  fields : List (List UInt8 × Tm)
end Go.Proofs.Ytpdigaankmgagaa.Sx
namespace Go.Proofs.Ytpdigaankmgagaa
open Go.RowKit Sx

/-- v is the term x -/
def TmV (w : World) (v : Value) (x : Tm) : Prop := ∃ A c, v = .agg #[.int .i64 x.k, .string ⟨x.t.toArray⟩, .int .i64 x.o, .slice A x.kids.len c] ∧ KT w x.kids A c
/-- v is a slice of terms -/
def SlV (w : World) (v : Value) (f : Fo) : Prop := ∃ A c, v = .slice A f.len c ∧ KT w f A c
def FieldV (w : World) (v : Value) (n : List UInt8) (x : Tm) : Prop := ∃ A c, v = .agg #[.string ⟨n.toArray⟩, .int .i64 x.k, .string ⟨x.t.toArray⟩, .int .i64 x.o, .slice A x.kids.len c] ∧ KT w x.kids A c
/-- five cells of a field -/
def FieldC (w : World) (g off : Nat) (n : List UInt8) (x : Tm) : Prop :=
  ∃ A c, w.cell? ⟨g, off, none⟩ = some (.string ⟨n.toArray⟩) ∧ w.cell? ⟨g, off + 1, none⟩ = some (.int .i64 x.k) ∧ w.cell? ⟨g, off + 2, none⟩ = some (.string ⟨x.t.toArray⟩) ∧ w.cell? ⟨g, off + 3, none⟩ = some (.int .i64 x.o) ∧ w.cell? ⟨g, off + 4, none⟩ = some (.slice A x.kids.len c) ∧ KT w x.kids A c
/-- a slice of fields -/
def FldsV (w : World) (A : Option Addr) (c : Nat) (fs : List (List UInt8 × Tm)) : Prop :=
  fs.length ≤ c ∧ (0 < fs.length → ∃ g off : Nat, A = some ⟨g, off, none⟩ ∧ g < w.heap.size ∧ ∀ j n x, fs[j]? = some (n, x) → FieldC w g (off + j * 5) n x)
def DeclV (w : World) (v : Value) (d : De) : Prop :=
  ∃ A c A' c', v = .agg #[.string ⟨d.name.toArray⟩, .int .i64 d.arity, .int .i64 d.super.k, .string ⟨d.super.t.toArray⟩, .int .i64 d.super.o, .slice A d.super.kids.len c, .bool d.conc, .slice A' d.fields.length c'] ∧ KT w d.super.kids A c ∧ FldsV w A' c' d.fields
/-- eight cells of a declaration -/
def DeclC (w : World) (g off : Nat) (d : De) : Prop :=
  ∃ A c A' c', w.cell? ⟨g, off, none⟩ = some (.string ⟨d.name.toArray⟩) ∧ w.cell? ⟨g, off + 1, none⟩ = some (.int .i64 d.arity) ∧
    w.cell? ⟨g, off + 2, none⟩ = some (.int .i64 d.super.k) ∧ w.cell? ⟨g, off + 3, none⟩ = some (.string ⟨d.super.t.toArray⟩) ∧ w.cell? ⟨g, off + 4, none⟩ = some (.int .i64 d.super.o) ∧ w.cell? ⟨g, off + 5, none⟩ = some (.slice A d.super.kids.len c) ∧ KT w d.super.kids A c ∧
    w.cell? ⟨g, off + 6, none⟩ = some (.bool d.conc) ∧ w.cell? ⟨g, off + 7, none⟩ = some (.slice A' d.fields.length c') ∧ FldsV w A' c' d.fields
def DclsV (w : World) (A : Option Addr) (c : Nat) (ds : List De) : Prop :=
  ds.length ≤ c ∧ (0 < ds.length → ∃ g off : Nat, A = some ⟨g, off, none⟩ ∧ g < w.heap.size ∧ ∀ j d, ds[j]? = some d → DeclC w g (off + j * 8) d)

section
variable {w w' : World} (hb : BH w w')
include hb
theorem TmV.bh {v : Value} {x : Tm} (h : TmV w v x) : TmV w' v x := by
  obtain ⟨A, c, e, hk⟩ := h
  exact ⟨A, c, e, hk.below hb⟩
theorem SlV.bh {v : Value} {f : Fo} (h : SlV w v f) : SlV w' v f := by
  obtain ⟨A, c, e, hk⟩ := h
  exact ⟨A, c, e, hk.below hb⟩
theorem FieldV.bh {v : Value} {n : List UInt8} {x : Tm} (h : FieldV w v n x) : FieldV w' v n x := by
  obtain ⟨A, c, e, hk⟩ := h
  exact ⟨A, c, e, hk.below hb⟩
theorem FieldC.bh {g off : Nat} {n : List UInt8} {x : Tm} (h : FieldC w g off n x) : FieldC w' g off n x := by
  obtain ⟨A, c, h1, h2, h3, h4, h5, hk⟩ := h
  exact ⟨A, c, BH.cell hb h1, BH.cell hb h2, BH.cell hb h3, BH.cell hb h4, BH.cell hb h5, hk.below hb⟩
theorem FldsV.bh {A : Option Addr} {c : Nat} {fs : List (List UInt8 × Tm)} (h : FldsV w A c fs) : FldsV w' A c fs :=
  ⟨h.1, fun hn => by
    obtain ⟨g, off, e, hg, hc⟩ := h.2 hn
    exact ⟨g, off, e, Nat.lt_of_lt_of_le hg (Below.size hb), fun j n x hj => FieldC.bh hb (hc j n x hj)⟩⟩
theorem DeclV.bh {v : Value} {d : De} (h : DeclV w v d) : DeclV w' v d := by
  obtain ⟨A, c, A', c', e, hu, hf⟩ := h
  exact ⟨A, c, A', c', e, hu.below hb, FldsV.bh hb hf⟩
theorem DeclC.bh {g off : Nat} {d : De} (h : DeclC w g off d) : DeclC w' g off d := by
  obtain ⟨A, c, A', c', h1, h2, h3, h4, h5, h6, hk, h7, h8, hf⟩ := h
  exact ⟨A, c, A', c', BH.cell hb h1, BH.cell hb h2, BH.cell hb h3, BH.cell hb h4, BH.cell hb h5, BH.cell hb h6, hk.below hb, BH.cell hb h7, BH.cell hb h8, FldsV.bh hb hf⟩
theorem DclsV.bh {A : Option Addr} {c : Nat} {ds : List De} (h : DclsV w A c ds) : DclsV w' A c ds :=
  ⟨h.1, fun hn => by
    obtain ⟨g, off, e, hg, hc⟩ := h.2 hn
    exact ⟨g, off, e, Nat.lt_of_lt_of_le hg (Below.size hb), fun j d hj => DeclC.bh hb (hc j d hj)⟩⟩
end
end Go.Proofs.Ytpdigaankmgagaa

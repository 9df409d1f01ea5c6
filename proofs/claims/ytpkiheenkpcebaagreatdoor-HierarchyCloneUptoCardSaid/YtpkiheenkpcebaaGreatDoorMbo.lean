/- telmake.Extra: what it reads and keeps; Next and arg in such a world. No condition. -/
import Derived.Test.YtpkiheenkpcebaaGreatDoorMbg
import Derived.Test.YtpkiheenkpcebaaGreatDoorMbm
import Derived.Test.YtpkiheenkpcebaaGreatDoorMbn
set_option linter.unusedVariables false
set_option linter.unusedSimpArgs false
namespace Go.Proofs.YtpkiheenkpcebaaGreatDoor
open Go.RowKit Sx

theorem gen_all' (E : EG) : ∀ M, CA E M ∧ CNm E M ∧ CT E M := by
  intro M
  induction M with
  | zero => exact ⟨fun k d V w _ h => absurd h (Nat.not_lt_zero _), fun k d V w _ h => absurd h (Nat.not_lt_zero _), fun k d V w _ h => absurd h (Nat.not_lt_zero _)⟩
  | succ M ih =>
    have h1 := named_step E M ih.1
    exact ⟨arg_step E M h1 ih.2.2, h1, term_step E M h1 ih.2.2⟩

/-- the stream's block and integers, the two tables of names -/
structure XG where
  b : Nat
  a : Option Addr
  len : Nat
  cap : Nat
  zs : List Int
  W : List (List UInt8)
  g : Nat
  o : Nat
  c : Nat
  XW : List (List UInt8)
  xg : Nat
  xo : Nat
  xc : Nat
def XG.E (X : XG) (gd cd : Nat) (ds : List De) : EG := ⟨X.b, X.a, X.len, X.cap, X.zs, X.W, X.g, X.o, X.c, gd, 0, ds.length, cd, ds.map fun d => (d.name, d.arity.toNat)⟩
structure XB (w0 : World) (X : XG) : Prop where
  leaf : TL.TabW w0 1 4 X.W X.g X.o X.c
  ext : TL.TabW w0 0 4 X.XW X.xg X.xo X.xc
  sW : ∀ s ∈ X.W, s.length ≤ 1000
  sX : ∀ s ∈ X.XW, s.length ≤ 1000
  hb : w0.heap.size ≤ X.b
  ints : Ints w0 X.a X.len X.zs
/-- short names, no more than three parameters -/
def avX (d : De) : Prop := 0 ≤ d.arity ∧ d.arity ≤ 3 ∧ d.name.length ≤ 1000
/-- between two rounds: w0 the world at the law's start, w1 at Extra's -/
structure XR (w0 w1 w : World) (X : XG) (k : Nat) (v1 v : Value) (ds : List De) (xs : List Value) : Prop where
  bw : Below w0.heap.size w0 w
  st : Strm w X.b X.a X.len X.cap X.zs k
  own : w.ownsRow w0.heap.size 37 8 v ds.length xs
  row : DX w (fun x => x ≠ X.b ∧ v.ownBlock ≠ some x) ds xs
  nb : v.ownBlock ≠ some X.b
  kh : KH X.b X.b v1 v w1 w
theorem KH.gb {b : Nat} {v : Value} {w w' : World} (h : w.grownBy w' (some b)) : KH b b v v w w' :=
  ⟨h.os, h.tape, h.output, h.size, fun x hx hp _ _ => h.block x hx (by simp; exact hp), .inl rfl⟩

section
variable {w0 w1 w w' : World} {X : XG} {k k' : Nat} {v1 v : Value} {ds : List De} {xs : List Value}
theorem XR.gb (B : XB w0 X) (h : XR w0 w1 w X k v1 v ds xs) (hg : w.grownBy w' (some X.b)) (hs : Strm w' X.b X.a X.len X.cap X.zs k') : XR w0 w1 w' X k' v1 v ds xs := by
  refine ⟨below_gb_of h.bw hg B.hb, hs, h.own.kept hg ?_, DX.keep hg.size (fun x hx hl => ⟨hg.block x hl (by simp; exact hx.1), hx⟩) _ _ h.row, h.nb, h.kh.trans (KH.gb hg)⟩
  cases hv : v.ownBlock with
  | none => exact .inl rfl
  | some x => exact .inr (by rw [← hv]; exact h.nb)
theorem XR.bh (B : XB w0 X) (h : XR w0 w1 w X k v1 v ds xs) (hb : BH w w') : XR w0 w1 w' X k v1 v ds xs := h.gb B (gb_below hb _) (h.st.keep hb)
theorem XR.drew (B : XB w0 X) (h : XR w0 w1 w X k v1 v ds xs) : XR w0 w1 w.drew X k v1 v ds xs := h.bh B (below_drew w)
theorem XR.leaf (B : XB w0 X) (h : XR w0 w1 w X k v1 v ds xs) : Tab w X.b 1 4 X.W X.g X.o X.c := B.leaf.tab h.bw B.hb
theorem XR.ext (B : XB w0 X) (h : XR w0 w1 w X k v1 v ds xs) : Tab w X.b 0 4 X.XW X.xg X.xo X.xc := B.ext.tab h.bw B.hb
theorem XR.shape (h : XR w0 w1 w X k v1 v ds xs) (hp : 0 < ds.length) : ∃ gd cd, v = .slice (some ⟨gd, 0, none⟩) ds.length cd ∧ w0.heap.size ≤ gd ∧ gd < w.heap.size := by
  rcases h.own.2 with ⟨_, h2⟩ | ⟨g, cap, cur, rfl, h2, h3, _⟩
  · omega
  · exact ⟨g, cap, rfl, h2, heap_lt h3⟩
theorem XR.dcs {A : Option Addr} {c : Nat} (h : XR w0 w1 w X k v1 (.slice A ds.length c) ds xs) : DcS w (fun x => x < w.heap.size) ds A c := (DcS.own2 rfl h.own h.row).v
theorem XR.gen {gd cd : Nat} (B : XB w0 X) (h : XR w0 w1 w X k v1 (.slice (some ⟨gd, 0, none⟩) ds.length cd) ds xs) (hl : ds.length ≤ 1000) (hds : ∀ d ∈ ds, avX d) (hlt : gd < w.heap.size) : GenD w (X.E gd cd ds) k := by
  refine ⟨h.st, h.leaf B, ⟨fun e => h.nb (by show some gd = some X.b; exact congrArg some e), hlt, by simp [XG.E], hl, ?_⟩, B.sW⟩
  intro j n ar hj
  have hj' : (ds.map fun d => (d.name, d.arity.toNat))[j]? = some (n, ar) := hj
  rw [List.getElem?_map, Option.map_eq_some_iff] at hj'
  obtain ⟨d, hd, he⟩ := hj'
  obtain ⟨rfl, rfl⟩ := Prod.mk.inj he
  obtain ⟨g, off, A1, c1, F1, x1, e, _, _, p0, p1, p2, p3, p4, p5, p6, p7, _, _⟩ := h.dcs.at hd
  cases e
  obtain ⟨o1, o2, o3⟩ := hds d (List.mem_of_getElem? hd)
  exact ⟨⟨d.super.k, d.super.t, d.super.o, A1, d.super.kids.len, c1, d.conc, F1, d.fields.length, x1, p0, by rw [Int.toNat_of_nonneg o1]; exact p1, p2, p3, p4, p5, p6, p7⟩, by omega, o3⟩

theorem XR.next (B : XB w0 X) (h : XR w0 w1 w X k v1 v ds xs) (m : Int) (hm : 0 < m) (hm2 : m ≤ 65536) :
    Calls Tryz.prog 61 #[.pointer (some ⟨X.b, 0, none⟩), .int .i64 m] w fun e w' => ∃ (r k' : Nat), e = .returned (.int .i64 (r : Int)) ∧ (r : Int) < m ∧ XR w0 w1 w' X k' v1 v ds xs ∧ w.grownBy w' (some X.b) ∧ w'.heap.size = w.heap.size ∧ k ≤ k' := by
  refine (next_det X.b X.a X.len X.cap X.zs k m w h.st hm hm2).mono ?_
  rintro e w' ⟨he, hs, hg, hz⟩
  obtain ⟨hr0, hr1⟩ := nxt_bounds X.len X.zs k m hm
  refine ⟨(nxt X.len X.zs k m).toNat, nk X.len k, by rw [he]; congr 2; omega, by omega, h.gb B hg hs, hg, hz, ?_⟩
  unfold nk
  split <;> omega

/-- a term as arg makes it -/
def okX (L : Nat) (V : Int) (x : Tm) : Prop := fsize x.kids ≤ 4 * L + 3 ∧ lenG (.one x.k x.t x.kids x.o) ∧ closed1 x.k x.o x.kids V = true
def nPart : List UInt8 := [112, 97, 114, 116]
/-- a declaration as Extra makes it -/
def okE (XW : List (List UInt8)) (L : Nat) (d : De) : Prop := d.name ∈ XW ∧ 0 ≤ d.arity ∧ d.arity ≤ 2 ∧ okX L d.arity d.super ∧ d.fields.length ≤ 1 ∧ ∀ f ∈ d.fields, f.1 = nPart ∧ okX L d.arity f.2
theorem okX.okT {L : Nat} {V V' : Int} {x : Tm} (h : okX L V x) (hL : L ≤ 67108864) (hV : V ≤ V') : OkT V' x :=
  ⟨by have := h.1; omega, h.2.1.1.1, lenG_lenT _ h.2.1.2.1, closed1_mono hV h.2.2⟩
theorem okE.okD {XW : List (List UInt8)} {L : Nat} {V : Int} {d : De} (h : okE XW L d) (hX : ∀ s ∈ XW, s.length ≤ 1000) (hL : L ≤ 67108864) (hV : 2 ≤ V) : OkD V d := by
  obtain ⟨h1, h2, h3, h4, h5, h6⟩ := h
  refine ⟨by have := hX _ h1; omega, h4.okT hL (by omega), by omega, fun f hf => ?_⟩
  obtain ⟨e, h7⟩ := h6 f hf
  exact ⟨by rw [e]; decide, h7.okT hL (by omega)⟩
theorem okE.av {XW : List (List UInt8)} {L : Nat} {d : De} (h : okE XW L d) (hX : ∀ s ∈ XW, s.length ≤ 1000) : avX d := ⟨h.2.1, by have := h.2.2.1; omega, hX _ h.1⟩

theorem XR.arg {gd cd : Nat} (B : XB w0 X) (h : XR w0 w1 w X k v1 (.slice (some ⟨gd, 0, none⟩) ds.length cd) ds xs) (hl : ds.length ≤ 1000) (hds : ∀ d ∈ ds, avX d) (hlt : gd < w.heap.size) (V : Int) (hV0 : 0 ≤ V) (hV1 : V ≤ 1000) :
    Calls Tryz.prog 62 #[.pointer (some ⟨X.b, 0, none⟩), .slice (some ⟨gd, 0, none⟩) ds.length cd, .int .i64 1, .int .i64 V] w fun e w' => ∃ (k' : Nat) (q o : Int) (t : List UInt8) (kids : Fo) (A : Option Addr) (c : Nat), e = .returned (.agg #[.int .i64 q, .string ⟨t.toArray⟩, .int .i64 o, .slice A kids.len c]) ∧
      KS w' (fun x => w.heap.size ≤ x) kids A c ∧ okX X.len V ⟨q, t, kids, o⟩ ∧ fsize kids ≤ 4 * (k' - k) ∧ k ≤ k' ∧ k' ≤ X.len ∧ XR w0 w1 w' X k' v1 (.slice (some ⟨gd, 0, none⟩) ds.length cd) ds xs ∧ w.grownBy w' (some X.b) := by
  have hG := h.gen B hl hds hlt
  refine ((gen_all' (X.E gd cd ds) (X.len - k + 1)).1 k 1 V w hG (by show X.len - k < _; omega) hV0 (by omega) (by omega) (by decide) (by decide)).mono ?_
  rintro e w' ⟨k', q, o, t, kids, A, c, ys, rfl, hc, hr, hk, hkk, hf, hlg, hcl, hG', hgb⟩
  have hk' : k' ≤ X.len := hG'.st.2.2.2.1
  exact ⟨k', q, o, t, kids, A, c, rfl, ⟨hc, ys, hr, hk⟩, ⟨by show fsize kids ≤ _; omega, hlg, hcl⟩, hf, hkk, hk', h.gb B hgb hG'.st, hgb⟩
end
end Go.Proofs.YtpkiheenkpcebaaGreatDoor

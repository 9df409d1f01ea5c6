/- What Substitute and Instantiate make of a term; typeterm.withArgs and copyTerm. No condition but bounded sizes. -/
import Derived.Test.YtpkiheenkpcebaaGreatDoorMaf
import Derived.Test.YtpkiheenkpcebaaGreatDoorMac
import Derived.Test.YtpkiheenkpcebaaGreatDoorMaj
import Derived.Deep.CutBlock
import Derived.Deep.RegionLaw
import Derived.Deep.DeepCutAuto
import Derived.Deep.RegionHeld3
set_option linter.unusedVariables false
set_option linter.unusedSimpArgs false
namespace Go.Proofs.YtpkiheenkpcebaaGreatDoor.Sx

/-- the terms that R makes of the terms of a list, the first of number i -/
def mapK (R : Nat → Int → List UInt8 → Fo → Int → Tm) : Nat → Fo → Fo
  | _, .nil => .nil
  | i, .cons k t kids o r => .cons (R i k t kids o).k (R i k t kids o).t (R i k t kids o).kids (R i k t kids o).o (mapK R (i + 1) r)
theorem mapK_len (R : Nat → Int → List UInt8 → Fo → Int → Tm) (f : Fo) : ∀ i, (mapK R i f).len = f.len := by
  induction f with
  | nil => intro i; rfl
  | cons k t kids o r _ ih => intro i; simp only [mapK, Fo.len, ih]
theorem mapK_id (f : Fo) : ∀ i, mapK (fun _ k t kids o => ⟨k, t, kids, o⟩) i f = f := by
  induction f with
  | nil => intro i; rfl
  | cons k t kids o r _ ih => intro i; simp only [mapK, ih]

section
variable (G : Int → Option Tm) (sh : Int → Int)
/-- the terms r (from argument i on, of a node of kind pk, within b bodies), G x or x moved by sh in the place of the free variable x -/
def repL : Int → Nat → Int → Fo → Fo
  | _, _, _, .nil => .nil
  | pk, i, b, .cons k t kids o r =>
    match (if freeB k o (aroundB pk i b) = true then G (o - aroundB pk i b) else none) with
    | some x => .cons x.k x.t x.kids x.o (repL pk (i + 1) b r)
    | none => .cons k t (repL k 0 (aroundB pk i b) kids) (if freeB k o (aroundB pk i b) = true then sh o else o) (repL pk (i + 1) b r)
def rep1 (k : Int) (t : List UInt8) (o : Int) (kids : Fo) (b : Int) : Tm :=
  match (if freeB k o b = true then G (o - b) else none) with
  | some x => x
  | none => ⟨k, t, repL G sh k 0 b kids, if freeB k o b = true then sh o else o⟩
theorem repL_map (f : Fo) : ∀ pk i b, repL G sh pk i b f = mapK (fun i k t kids o => rep1 G sh k t o kids (aroundB pk i b)) i f := by
  induction f with
  | nil => intros; rfl
  | cons k t kids o r _ ih =>
    intro pk i b
    rw [repL, mapK, ← ih pk (i + 1) b]
    simp only [rep1]
    split <;> rfl
theorem repL_len (f : Fo) (pk : Int) (i : Nat) (b : Int) : (repL G sh pk i b f).len = f.len := by rw [repL_map, mapK_len]
variable {G sh}
theorem rep1_some {k o b : Int} {t : List UInt8} {kids : Fo} {x : Tm} (h : freeB k o b = true) (hG : G (o - b) = some x) : rep1 G sh k t o kids b = x := by
  simp [rep1, h, hG]
theorem rep1_none {k o b : Int} {t : List UInt8} {kids : Fo} (h : freeB k o b = true) (hG : G (o - b) = none) : rep1 G sh k t o kids b = ⟨k, t, repL G sh k 0 b kids, sh o⟩ := by
  simp [rep1, h, hG]
theorem rep1_bound {k o b : Int} {t : List UInt8} {kids : Fo} (h : freeB k o b = false) : rep1 G sh k t o kids b = ⟨k, t, repL G sh k 0 b kids, o⟩ := by
  simp [rep1, h]
theorem repL_size (M : Nat) (hM : ∀ n x, G n = some x → fsize x.kids ≤ M) (f : Fo) : ∀ pk i b, fsize (repL G sh pk i b f) ≤ fsize f * (M + 1) := by
  induction f with
  | nil => intros; simp [repL, fsize]
  | cons k t kids o r ih1 ih2 =>
    intro pk i b
    have h2 := ih2 pk (i + 1) b
    have h1 := ih1 k 0 (aroundB pk i b)
    have e : fsize (.cons k t kids o r) * (M + 1) = fsize kids * (M + 1) + (M + 1) + fsize r * (M + 1) := by
      simp only [fsize]
      rw [Nat.add_mul, Nat.add_mul, Nat.one_mul]
      omega
    rw [e, repL]
    split
    · rename_i x hx
      have : fsize x.kids ≤ M := by
        split at hx
        · exact hM _ x hx
        · cases hx
      simp only [fsize]
      omega
    · simp only [fsize]
      omega
theorem rep1_size (M : Nat) (hM : ∀ n x, G n = some x → fsize x.kids ≤ M) (k : Int) (t : List UInt8) (o : Int) (kids : Fo) (b : Int) : fsize (rep1 G sh k t o kids b).kids ≤ M + fsize kids * (M + 1) := by
  have h1 := repL_size (sh := sh) M hM kids k 0 b
  rw [rep1]
  split
  · rename_i x hx
    have : fsize x.kids ≤ M := by
      split at hx
      · exact hM _ x hx
      · cases hx
    omega
  · show fsize (repL G sh k 0 b kids) ≤ _
    omega
end

/-- all lists of arguments are short -/
def wid1 : Fo → Prop
  | .nil => True
  | .cons _ _ kids _ r => (kids.len ≤ 1099511627776 ∧ wid1 kids) ∧ wid1 r
def wid (f : Fo) : Prop := f.len ≤ 1099511627776 ∧ wid1 f
theorem wid1_of_size (f : Fo) : fsize f ≤ 1099511627776 → wid1 f := by
  induction f with
  | nil => intro _; trivial
  | cons k t kids o r ih1 ih2 =>
    intro h
    simp only [fsize] at h
    have hl := len_le_fsize kids
    exact ⟨⟨by omega, ih1 (by omega)⟩, ih2 (by omega)⟩
theorem wid_of_size {f : Fo} (h : fsize f ≤ 1099511627776) : wid f := ⟨by have := len_le_fsize f; omega, wid1_of_size f h⟩
theorem wid_suf {f : Fo} {i : Nat} {k o : Int} {t : List UInt8} {kids r : Fo} (h : wid f) (hs : Suf i (.cons k t kids o r) f) : wid kids := by
  obtain ⟨pre, rfl, rfl⟩ := hs
  replace h := h.2
  induction pre with
  | nil => exact h.1
  | cons k' t' kids' o' r' _ ih => exact ih h.2
section
variable {G : Int → Option Tm} {sh : Int → Int}
theorem repL_wid1 (hG : ∀ n x, G n = some x → wid x.kids) (f : Fo) : ∀ pk i b, wid1 f → wid1 (repL G sh pk i b f) := by
  induction f with
  | nil => intros; trivial
  | cons k t kids o r ih1 ih2 =>
    intro pk i b h
    rw [repL]
    split
    · rename_i x hx
      refine ⟨?_, ih2 _ _ _ h.2⟩
      split at hx
      · exact hG _ x hx
      · cases hx
    · exact ⟨⟨by rw [repL_len]; exact h.1.1, ih1 _ _ _ h.1.2⟩, ih2 _ _ _ h.2⟩
theorem rep1_wid (hG : ∀ n x, G n = some x → wid x.kids) (k : Int) (t : List UInt8) (o : Int) (kids : Fo) (b : Int) (h : wid kids) : wid (rep1 G sh k t o kids b).kids := by
  rw [rep1]
  split
  · rename_i x hx
    split at hx
    · exact hG _ x hx
    · cases hx
  · exact ⟨by show (repL G sh k 0 b kids).len ≤ _; rw [repL_len]; exact h.1, repL_wid1 hG _ _ _ _ h.2⟩
end

/-- a variable of a closed term that is free within b of b + V bodies -/
theorem free_in {k o b V : Int} {kids : Fo} (h : closed1 k o kids (b + V) = true) (hf : freeB k o b = true) : k = 5 ∧ b ≤ o ∧ o < b + V := by
  simp only [freeB, Bool.and_eq_true, decide_eq_true_eq] at hf
  obtain ⟨rfl, hb⟩ := hf
  refine ⟨rfl, hb, ?_⟩
  simp only [closed1, freeB, Bool.and_eq_true, Bool.not_eq_true', decide_true, Bool.true_and, decide_eq_false_iff_not] at h
  omega
theorem around_add (k : Int) (i : Nat) (b V : Int) : aroundB k i (b + V) = aroundB k i b + V := by unfold aroundB; split <;> omega
theorem closed_kids {k o b : Int} {kids : Fo} (h : closed1 k o kids b = true) : closedL k 0 b kids = true := by
  simp only [closed1, Bool.and_eq_true] at h
  exact h.2
theorem closedL_suf {pk : Int} {b : Int} {f : Fo} {i : Nat} {k o : Int} {t : List UInt8} {kids r : Fo} (h : closedL pk 0 b f = true) (hs : ∃ pre : Fo, f = pre.app (.cons k t kids o r) ∧ pre.len = i) : closed1 k o kids (aroundB pk i b) = true := by
  obtain ⟨pre, rfl, rfl⟩ := hs
  have key : ∀ (pre : Fo) (j : Nat), closedL pk j b (pre.app (.cons k t kids o r)) = true → closed1 k o kids (aroundB pk (j + pre.len) b) = true := by
    intro pre
    induction pre with
    | nil =>
      intro j h
      rw [Fo.app, closedL_cons, Bool.and_eq_true] at h
      simpa [Fo.len] using h.1
    | cons k' t' kids' o' r' _ ih =>
      intro j h
      rw [Fo.app, closedL_cons, Bool.and_eq_true] at h
      have := ih (j + 1) h.2
      rw [show j + (Fo.cons k' t' kids' o' r').len = j + 1 + r'.len by simp only [Fo.len]; omega]
      exact this
  simpa using key pre 0 h
end Go.Proofs.YtpkiheenkpcebaaGreatDoor.Sx
namespace Go.Proofs.YtpkiheenkpcebaaGreatDoor
open Go.RowKit Sx

/-- what answers the term x, in blocks of S or made by the call -/
def SbP (w : World) (S : Nat → Prop) (x : Tm) (e : Ending) (w' : World) : Prop :=
  ∃ A c, e = .returned (.agg #[.int .i64 x.k, .string ⟨x.t.toArray⟩, .int .i64 x.o, .slice A x.kids.len c]) ∧ KS w' (fun y => S y ∨ w.heap.size ≤ y) x.kids A c ∧ BH w w'
theorem SbP.box {w wr : World} {S : Nat → Prop} {x : Tm} {A : Option Addr} {c N : Nat} (hS : ∀ y, S y → y < w.heap.size) (hN : w.heap.size ≤ N) (hb : BH w wr) (hk : KS wr (fun y => (S y ∨ w.heap.size ≤ y) ∧ y ≠ N) x.kids A c) :
    SbP w S x (.returned (.agg #[.int .i64 x.k, .string ⟨x.t.toArray⟩, .int .i64 x.o, .slice A x.kids.len c])) ((((wr.setCell ⟨N, 0, none⟩ (.int .i64 x.k)).setCell ⟨N, 1, none⟩ (.string ⟨x.t.toArray⟩)).setCell ⟨N, 2, none⟩ (.int .i64 x.o)).setCell ⟨N, 3, none⟩ (.slice A x.kids.len c)) :=
  ⟨A, c, rfl, hk.keep (by simp [size_set]) (fun y hy hl => ⟨s4_far hy.2 _ _ _ _, hy.1⟩), below_gb_of (BH.refl w) (s4_gb (gb_below hb (some N)) (by omega) _ _ _ _) (by omega)⟩
theorem SbP.trans {w w1 w' : World} {S : Nat → Prop} {x : Tm} {e : Ending} (h : SbP w1 S x e w') (hb : BH w w1) : SbP w S x e w' := by
  obtain ⟨A, c, h1, h2, h3⟩ := h
  have hs := Below.size hb
  exact ⟨A, c, h1, h2.keep (Nat.le_refl _) (fun y hy _ => ⟨rfl, hy.elim Or.inl fun h => Or.inr (by omega)⟩), BH.trans hb h3⟩

set_option maxHeartbeats 8000000 in
set_option maxRecDepth 100000 in
theorem withArgs_copy (R : Nat → Int → List UInt8 → Fo → Int → Tm) (S : Nat → Prop) (k o : Int) (t : List UInt8) (kids : Fo) (A : Option Addr) (c : Nat) (w : World) (hS : ∀ x, S x → x < w.heap.size) (hN : kids.len ≤ 1099511627776) (hK : KT w kids A c)
    (hC : ∀ (i : Nat) (k1 o1 : Int) (t1 : List UInt8) (kids1 r1 : Fo) (A1 : Option Addr) (c1 : Nat) (X : World), Suf i (.cons k1 t1 kids1 o1 r1) kids → BH w X → KT X kids1 A1 c1 →
      Calls Tryz.prog 158 #[.int .i64 (i : Int), .agg #[.int .i64 k1, .string ⟨t1.toArray⟩, .int .i64 o1, .slice A1 kids1.len c1]] X (SbP X S (R i k1 t1 kids1 o1))) :
    Calls Tryz.prog 125 #[.agg #[.int .i64 k, .string ⟨t.toArray⟩, .int .i64 o, .slice A kids.len c], .func (.func 158) #[] #[]] w (SbP w S ⟨k, t, mapK R 0 kids, o⟩) := by
  have HC := Lib.hid hC
  have HS := Lib.hid hS
  have HK := Lib.hid hK
  obtain ⟨i0, hi, hz0, hz1, hz2⟩ := info_parts infoTg
  obtain ⟨L, hLe⟩ : ∃ L, kids.len = L := ⟨_, rfl⟩
  rw [hLe] at hN ⊢
  have HLe := Lib.hid hLe
  clear hC hS hK hLe
  go_enter Tryz.func125, Tryz.ntmps125
  go_wp2_with (fail)
  have e1 := heap_alloc_new w (.cells #[.int .i64 k, .string ⟨t.toArray⟩, .int .i64 o, .slice none 0 0] 34)
  have f1 := bh_alloc (BH.refl w) (.cells #[.int .i64 k, .string ⟨t.toArray⟩, .int .i64 o, .slice none 0 0] 34)
  generalize hV1 : w.alloc (.cells #[.int .i64 k, .string ⟨t.toArray⟩, .int .i64 o, .slice none 0 0] 34) = V1 at *
  have z1 : V1.heap.size = w.heap.size + 1 := by rw [← hV1]; simp
  have N3 := heap_alloc_new V1 (.cells #[.int .i64 0, .string ⟨#[]⟩, .int .i64 0, .slice none 0 0] 34)
  have M3 := (Below.heap_alloc V1 (.cells #[.int .i64 0, .string ⟨#[]⟩, .int .i64 0, .slice none 0 0] 34) w.heap.size (by omega)).trans e1
  have f3 := bh_alloc f1 (.cells #[.int .i64 0, .string ⟨#[]⟩, .int .i64 0, .slice none 0 0] 34)
  generalize hV2 : V1.alloc (.cells #[.int .i64 0, .string ⟨#[]⟩, .int .i64 0, .slice none 0 0] 34) = w3 at *
  have z3 : w3.heap.size = w.heap.size + 2 := by rw [← hV2]; simp [z1]
  rw [z1] at N3
  have HM := Lib.hid M3
  have HN := Lib.hid N3
  have HB := Lib.hid (show BH w w3 from f3)
  have HZ := Lib.hid z3
  clear e1 f1 hV1 z1 hV2 M3 N3 f3 z3 V1
  go_loopw [6, 7, 13] (fun _ _ iv wr => ∃ (i : Nat) (r : Fo) (v : Value) (acc : Fo) (xs : List Value), iv = .int .i64 (i : Int) ∧ Suf i r kids ∧ RQ w w3 wr S w.heap.size k o t v acc xs ∧ acc.len = i ∧ Hid (acc.app (mapK R i r) = mapK R 0 kids)) (fun _ _ iv _ => L - (match iv with | .int _ n => n.toNat | _ => 0))
  case atStart =>
    exact ⟨0, kids, _, .nil, [], rfl, Suf.zero _, ⟨HS.out, HB.out, HM.out, fun x _ _ _ => rfl, World.ownsRow_nil _ _ _ _, rfl, ⟨Nat.le_refl _, by rw [HZ.out]; omega⟩, Nat.le_refl _⟩, rfl, Lib.hid rfl⟩
  case round =>
    obtain ⟨i, r, v, acc, xs, rfl, hsuf, hrq, hai, hmk⟩ := hrel
    have hlen' := hsuf.len
    rw [HLe.out] at hlen'
    have HRQ := Lib.hid hrq
    have HN' := Lib.hid ((hrq.old (w.heap.size + 1) (by omega) (by rw [HZ.out]; omega) (by omega)).trans HN.out)
    obtain ⟨A5, c5, rfl, hc5⟩ := own_shape hrq.own
    obtain ⟨b0, b1, b2, b3, y0, y1, y2, y3⟩ := row4 hrq.blkM
    have HAi := Lib.hid hai
    clear hrq hai hc5
    cases r with
    | nil =>
      simp only [Fo.len] at hlen'
      have hge : decide (i < L) = false := by rw [decide_eq_false_iff_not]; omega
      obtain ⟨n0, n1, n2, n3, v0, v1, v2, v3⟩ := row4 HN'.out
      clear hlen' hsuf
      go_wp2_with (fail)
      obtain ⟨m0, m1, m2, m3, _⟩ := row4 (s4 HN'.out (.int .i64 k) (.string ⟨t.toArray⟩) (.int .i64 o) (.slice A5 acc.len c5))
      refine bodyPost_ret (v := .agg #[.int .i64 k, .string ⟨t.toArray⟩, .int .i64 o, .slice A5 acc.len c5]) (by simp [results, Tryz.results125, go_sem, m0, m1, m2, m3]) rfl ?_
      have hmk' : acc = mapK R 0 kids := by have h := hmk.out; rwa [mapK, Fo.app_nil] at h
      rw [← hmk']
      exact SbP.box (x := ⟨k, t, acc, o⟩) HS.out (by omega) HRQ.out.bel (HRQ.out.out.keep (Nat.le_refl _) fun y hy _ => ⟨rfl, hy.elim (fun h => ⟨.inl h, by have := HS.out y h; omega⟩) fun h => ⟨.inr (by have := HZ.out; omega), by have := HZ.out; omega⟩⟩)
    | cons k1 t1 kids1 o1 r1 =>
      simp only [Fo.len] at hlen'
      obtain ⟨g, off, A1, c1, rfl, hgl, e0, e1, e2, e3, hk1⟩ := HK.out.get hsuf HRQ.out.bel
      have hge : decide ((i : Int) < (L : Int)) = true := by rw [decide_eq_true_eq]; omega
      have hiL : (i : Int) < (L : Int) := by omega
      have hi0 : (0 : Int) ≤ (i : Int) := by omega
      have HK1 := Lib.hid (hk1.below HRQ.out.bel)
      have HSuf := Lib.hid hsuf
      clear hk1 hsuf hgl
      go_upto_region 6 with (fail)
      have hB5 := bh_alloc (BH.refl wr) (.cells #[.int .i64 k1, .string ⟨t1.toArray⟩, .int .i64 o1, .slice A1 kids1.len c1] 34)
      refine gen_wp _ (fun X => X.heap[wr.heap.size]? = some (.cells #[.int .i64 k1, .string ⟨t1.toArray⟩, .int .i64 o1, .slice A1 kids1.len c1] 34 (0, 0)) ∧ BH wr X) ⟨heap_alloc_new wr _, hB5⟩ ?_
      rintro W5 ⟨hN5, hP5⟩
      obtain ⟨g5, hg5⟩ : ∃ g5, wr.heap.size = g5 := ⟨_, rfl⟩
      rw [hg5] at hN5 ⊢
      obtain ⟨d0, d1, d2, d3, _⟩ := row4 hN5
      have HR5 := Lib.hid (HRQ.out.after hP5)
      have HRd := Lib.hid HR5.out.drew
      obtain ⟨⟨q1, s1, kids2, p1⟩, hx⟩ : ∃ x, R i k1 t1 kids1 o1 = x := ⟨_, rfl⟩
      have hCa := HC.out i k1 o1 t1 kids1 r1 A1 c1 W5.drew HSuf.out HRd.out.bel (HK1.out.below (BH.trans hP5 (below_drew W5)))
      rw [hx] at hCa
      have HCa := Lib.hid hCa
      have HX := Lib.hid hx
      obtain ⟨g3, z3⟩ := HR5.out.cell
      clear hN5 hP5 hB5 hg5 hCa hx e0 e1 e2 e3 b0 b1 b2 b3 y0 y1 y2 y3
      go_region_law (first
        | (go_simp; go_at_call 158; (refine HCa.out.mono ?_); rintro e w4 ⟨B1, d1', rfl, u1, u2⟩; have HU := Lib.hid (And.intro u1 u2); have HR4 := Lib.hid (HRd.out.after u2); clear u1 u2; obtain ⟨g3, z3⟩ := HR4.out.cell; have g4 := (cell_allocQ HR4.out (.cells #[.int .i64 q1, .string ⟨s1.toArray⟩, .int .i64 p1, .slice B1 kids2.len d1'] 34)))
        | (refine step_rea _ (by rfl) _ _ _ (by rfl) w3.heap.size 34 i0 _ 4 56 Tryz.underlying32 hi hz0 hz1 hz2 rfl (by decide) (.slice A5 acc.len c5) acc.len xs (by rfl) (HR4.out.own.alloc _) (some ⟨w4.heap.size, 0, none⟩) 1 1 [.int .i64 q1, .string ⟨s1.toArray⟩, .int .i64 p1, .slice B1 kids2.len d1'] (by rfl) (rea_one (heap_alloc_new w4 _)) (by have := HAi.out; unfold maxLen; omega) (by have := HAi.out; omega) (by have := HR4.out.size; simp; omega) ?_; intro v1 w5 ho1 hg1 ha1; obtain ⟨A6, c6, rfl, hc6⟩ := own_shape ho1; have HO := Lib.hid (And.intro ho1 (And.intro hg1 ha1)); obtain ⟨_, _, _, g3, _, _, _, z3⟩ := row4 (HR4.out.boxed hg1); clear ho1 hg1 ha1))
      all_goals
        go_wp2_with (fail)
        obtain ⟨u1, u2⟩ := HU.out
        obtain ⟨ho1, hg1, ha1⟩ := HO.out
        have hP := HRd.out.push (q1 := q1) (o1 := p1) (t1 := s1) u2 u1 hg1 (by simpa using ha1) ho1
        refine ⟨⟨i + 1, r1, _, _, _, rfl, HSuf.out.next, hP, by rw [Fo.len_app, HAi.out]; rfl, Lib.hid ?_⟩, by simp; omega⟩
        have h := hmk.out
        rw [mapK, HX.out] at h
        rw [← h, Fo.app_app]
        rfl

set_option maxHeartbeats 8000000 in
set_option maxRecDepth 100000 in
theorem withArgs_rep (R : Nat → Int → List UInt8 → Fo → Int → Tm) (S : Nat → Prop) (k o : Int) (t : List UInt8) (kids : Fo) (A : Option Addr) (c : Nat) (p1 p2 p3 : Nat) (w : World) (hS : ∀ x, S x → x < w.heap.size) (hN : kids.len ≤ 1099511627776) (hK : KT w kids A c)
    (hC : ∀ (i : Nat) (k1 o1 : Int) (t1 : List UInt8) (kids1 r1 : Fo) (A1 : Option Addr) (c1 : Nat) (X : World), Suf i (.cons k1 t1 kids1 o1 r1) kids → BH w X → KT X kids1 A1 c1 →
      Calls Tryz.prog 126 #[.int .i64 (i : Int), .agg #[.int .i64 k1, .string ⟨t1.toArray⟩, .int .i64 o1, .slice A1 kids1.len c1], .pointer (some ⟨p1, 0, none⟩), .pointer (some ⟨p2, 0, none⟩), .pointer (some ⟨p3, 0, none⟩)] X (SbP X S (R i k1 t1 kids1 o1))) :
    Calls Tryz.prog 125 #[.agg #[.int .i64 k, .string ⟨t.toArray⟩, .int .i64 o, .slice A kids.len c], .func (.func 126) #[] #[.pointer (some ⟨p1, 0, none⟩), .pointer (some ⟨p2, 0, none⟩), .pointer (some ⟨p3, 0, none⟩)]] w (SbP w S ⟨k, t, mapK R 0 kids, o⟩) := by
  have HC := Lib.hid hC
  have HS := Lib.hid hS
  have HK := Lib.hid hK
  obtain ⟨i0, hi, hz0, hz1, hz2⟩ := info_parts infoTg
  obtain ⟨L, hLe⟩ : ∃ L, kids.len = L := ⟨_, rfl⟩
  rw [hLe] at hN ⊢
  have HLe := Lib.hid hLe
  clear hC hS hK hLe
  go_enter Tryz.func125, Tryz.ntmps125
  go_wp2_with (fail)
  have e1 := heap_alloc_new w (.cells #[.int .i64 k, .string ⟨t.toArray⟩, .int .i64 o, .slice none 0 0] 34)
  have f1 := bh_alloc (BH.refl w) (.cells #[.int .i64 k, .string ⟨t.toArray⟩, .int .i64 o, .slice none 0 0] 34)
  generalize hV1 : w.alloc (.cells #[.int .i64 k, .string ⟨t.toArray⟩, .int .i64 o, .slice none 0 0] 34) = V1 at *
  have z1 : V1.heap.size = w.heap.size + 1 := by rw [← hV1]; simp
  have N3 := heap_alloc_new V1 (.cells #[.int .i64 0, .string ⟨#[]⟩, .int .i64 0, .slice none 0 0] 34)
  have M3 := (Below.heap_alloc V1 (.cells #[.int .i64 0, .string ⟨#[]⟩, .int .i64 0, .slice none 0 0] 34) w.heap.size (by omega)).trans e1
  have f3 := bh_alloc f1 (.cells #[.int .i64 0, .string ⟨#[]⟩, .int .i64 0, .slice none 0 0] 34)
  generalize hV2 : V1.alloc (.cells #[.int .i64 0, .string ⟨#[]⟩, .int .i64 0, .slice none 0 0] 34) = w3 at *
  have z3 : w3.heap.size = w.heap.size + 2 := by rw [← hV2]; simp [z1]
  rw [z1] at N3
  have HM := Lib.hid M3
  have HN := Lib.hid N3
  have HB := Lib.hid (show BH w w3 from f3)
  have HZ := Lib.hid z3
  clear e1 f1 hV1 z1 hV2 M3 N3 f3 z3 V1
  go_loopw [6, 7, 13] (fun _ _ iv wr => ∃ (i : Nat) (r : Fo) (v : Value) (acc : Fo) (xs : List Value), iv = .int .i64 (i : Int) ∧ Suf i r kids ∧ RQ w w3 wr S w.heap.size k o t v acc xs ∧ acc.len = i ∧ Hid (acc.app (mapK R i r) = mapK R 0 kids)) (fun _ _ iv _ => L - (match iv with | .int _ n => n.toNat | _ => 0))
  case atStart =>
    exact ⟨0, kids, _, .nil, [], rfl, Suf.zero _, ⟨HS.out, HB.out, HM.out, fun x _ _ _ => rfl, World.ownsRow_nil _ _ _ _, rfl, ⟨Nat.le_refl _, by rw [HZ.out]; omega⟩, Nat.le_refl _⟩, rfl, Lib.hid rfl⟩
  case round =>
    obtain ⟨i, r, v, acc, xs, rfl, hsuf, hrq, hai, hmk⟩ := hrel
    have hlen' := hsuf.len
    rw [HLe.out] at hlen'
    have HRQ := Lib.hid hrq
    have HN' := Lib.hid ((hrq.old (w.heap.size + 1) (by omega) (by rw [HZ.out]; omega) (by omega)).trans HN.out)
    obtain ⟨A5, c5, rfl, hc5⟩ := own_shape hrq.own
    obtain ⟨b0, b1, b2, b3, y0, y1, y2, y3⟩ := row4 hrq.blkM
    have HAi := Lib.hid hai
    clear hrq hai hc5
    cases r with
    | nil =>
      simp only [Fo.len] at hlen'
      have hge : decide (i < L) = false := by rw [decide_eq_false_iff_not]; omega
      obtain ⟨n0, n1, n2, n3, v0, v1, v2, v3⟩ := row4 HN'.out
      clear hlen' hsuf
      go_wp2_with (fail)
      obtain ⟨m0, m1, m2, m3, _⟩ := row4 (s4 HN'.out (.int .i64 k) (.string ⟨t.toArray⟩) (.int .i64 o) (.slice A5 acc.len c5))
      refine bodyPost_ret (v := .agg #[.int .i64 k, .string ⟨t.toArray⟩, .int .i64 o, .slice A5 acc.len c5]) (by simp [results, Tryz.results125, go_sem, m0, m1, m2, m3]) rfl ?_
      have hmk' : acc = mapK R 0 kids := by have h := hmk.out; rwa [mapK, Fo.app_nil] at h
      rw [← hmk']
      exact SbP.box (x := ⟨k, t, acc, o⟩) HS.out (by omega) HRQ.out.bel (HRQ.out.out.keep (Nat.le_refl _) fun y hy _ => ⟨rfl, hy.elim (fun h => ⟨.inl h, by have := HS.out y h; omega⟩) fun h => ⟨.inr (by have := HZ.out; omega), by have := HZ.out; omega⟩⟩)
    | cons k1 t1 kids1 o1 r1 =>
      simp only [Fo.len] at hlen'
      obtain ⟨g, off, A1, c1, rfl, hgl, e0, e1, e2, e3, hk1⟩ := HK.out.get hsuf HRQ.out.bel
      have hge : decide ((i : Int) < (L : Int)) = true := by rw [decide_eq_true_eq]; omega
      have hiL : (i : Int) < (L : Int) := by omega
      have hi0 : (0 : Int) ≤ (i : Int) := by omega
      have HK1 := Lib.hid (hk1.below HRQ.out.bel)
      have HSuf := Lib.hid hsuf
      clear hk1 hsuf hgl
      go_upto_region 6 with (fail)
      have hB5 := bh_alloc (BH.refl wr) (.cells #[.int .i64 k1, .string ⟨t1.toArray⟩, .int .i64 o1, .slice A1 kids1.len c1] 34)
      refine gen_wp _ (fun X => X.heap[wr.heap.size]? = some (.cells #[.int .i64 k1, .string ⟨t1.toArray⟩, .int .i64 o1, .slice A1 kids1.len c1] 34 (0, 0)) ∧ BH wr X) ⟨heap_alloc_new wr _, hB5⟩ ?_
      rintro W5 ⟨hN5, hP5⟩
      obtain ⟨g5, hg5⟩ : ∃ g5, wr.heap.size = g5 := ⟨_, rfl⟩
      rw [hg5] at hN5 ⊢
      obtain ⟨d0, d1, d2, d3, _⟩ := row4 hN5
      have HR5 := Lib.hid (HRQ.out.after hP5)
      have HRd := Lib.hid HR5.out.drew
      obtain ⟨⟨q1, s1, kids2, p1⟩, hx⟩ : ∃ x, R i k1 t1 kids1 o1 = x := ⟨_, rfl⟩
      have hCa := HC.out i k1 o1 t1 kids1 r1 A1 c1 W5.drew HSuf.out HRd.out.bel (HK1.out.below (BH.trans hP5 (below_drew W5)))
      rw [hx] at hCa
      have HCa := Lib.hid hCa
      have HX := Lib.hid hx
      obtain ⟨g3, z3⟩ := HR5.out.cell
      clear hN5 hP5 hB5 hg5 hCa hx e0 e1 e2 e3 b0 b1 b2 b3 y0 y1 y2 y3
      go_region_law (first
        | (go_simp; go_at_call 126; (refine HCa.out.mono ?_); rintro e w4 ⟨B1, d1', rfl, u1, u2⟩; have HU := Lib.hid (And.intro u1 u2); have HR4 := Lib.hid (HRd.out.after u2); clear u1 u2; obtain ⟨g3, z3⟩ := HR4.out.cell; have g4 := (cell_allocQ HR4.out (.cells #[.int .i64 q1, .string ⟨s1.toArray⟩, .int .i64 p1, .slice B1 kids2.len d1'] 34)))
        | (refine step_rea _ (by rfl) _ _ _ (by rfl) w3.heap.size 34 i0 _ 4 56 Tryz.underlying32 hi hz0 hz1 hz2 rfl (by decide) (.slice A5 acc.len c5) acc.len xs (by rfl) (HR4.out.own.alloc _) (some ⟨w4.heap.size, 0, none⟩) 1 1 [.int .i64 q1, .string ⟨s1.toArray⟩, .int .i64 p1, .slice B1 kids2.len d1'] (by rfl) (rea_one (heap_alloc_new w4 _)) (by have := HAi.out; unfold maxLen; omega) (by have := HAi.out; omega) (by have := HR4.out.size; simp; omega) ?_; intro v1 w5 ho1 hg1 ha1; obtain ⟨A6, c6, rfl, hc6⟩ := own_shape ho1; have HO := Lib.hid (And.intro ho1 (And.intro hg1 ha1)); obtain ⟨_, _, _, g3, _, _, _, z3⟩ := row4 (HR4.out.boxed hg1); clear ho1 hg1 ha1))
      all_goals
        go_wp2_with (fail)
        obtain ⟨u1, u2⟩ := HU.out
        obtain ⟨ho1, hg1, ha1⟩ := HO.out
        have hP := HRd.out.push (q1 := q1) (o1 := p1) (t1 := s1) u2 u1 hg1 (by simpa using ha1) ho1
        refine ⟨⟨i + 1, r1, _, _, _, rfl, HSuf.out.next, hP, by rw [Fo.len_app, HAi.out]; rfl, Lib.hid ?_⟩, by simp; omega⟩
        have h := hmk.out
        rw [mapK, HX.out] at h
        rw [← h, Fo.app_app]
        rfl
end Go.Proofs.YtpkiheenkpcebaaGreatDoor
namespace Go.Proofs.YtpkiheenkpcebaaGreatDoor
open Go.RowKit Sx

set_option maxHeartbeats 2000000 in
theorem copy_of (S : Nat → Prop) (k o : Int) (t : List UInt8) (kids : Fo) (A : Option Addr) (c : Nat) (w : World) (x : Tm) (hS : ∀ y, S y → y < w.heap.size)
    (hC : ∀ X, BH w X → Calls Tryz.prog 125 #[.agg #[.int .i64 k, .string ⟨t.toArray⟩, .int .i64 o, .slice A kids.len c], .func (.func 158) #[] #[]] X (SbP X S x)) :
    Calls Tryz.prog 124 #[.agg #[.int .i64 k, .string ⟨t.toArray⟩, .int .i64 o, .slice A kids.len c]] w (SbP w S x) := by
  have f1 := bh_alloc (BH.refl w) (.cells #[.int .i64 k, .string ⟨t.toArray⟩, .int .i64 o, .slice A kids.len c] 34)
  have f2 := bh_alloc f1 (.cells #[.int .i64 0, .string ⟨#[]⟩, .int .i64 0, .slice none 0 0] 34)
  have e2 := heap_alloc_new (w.alloc (.cells #[.int .i64 k, .string ⟨t.toArray⟩, .int .i64 o, .slice A kids.len c] 34)) (.cells #[.int .i64 0, .string ⟨#[]⟩, .int .i64 0, .slice none 0 0] 34)
  rw [World.size_alloc] at e2
  have HC := Lib.hid (hC _ f2)
  have HE := Lib.hid e2
  have HF := Lib.hid f2
  have HS := Lib.hid hS
  clear f1 f2 e2 hC hS
  go_enter Tryz.func124, Tryz.ntmps124
  go_wp2_with (fail)
  refine HC.out.mono ?_
  rintro e w2 ⟨A2, c2, rfl, u1, u2⟩
  have HN2 := Lib.hid ((Below.block u2 (w.heap.size + 1) (by simp)).trans HE.out)
  have HFin := Lib.hid (SbP.box (x := x) (N := w.heap.size + 1) HS.out (by omega) (BH.trans HF.out u2) (u1.keep (S' := fun y => (S y ∨ w.heap.size ≤ y) ∧ y ≠ w.heap.size + 1) (Nat.le_refl _) fun y hy _ => ⟨rfl, hy.elim (fun h => ⟨.inl h, by have := HS.out y h; omega⟩) fun h => ⟨.inr (by simp at h; omega), by simp at h; omega⟩⟩))
  clear u1 u2
  obtain ⟨b0, b1, b2, b3, y0, y1, y2, y3⟩ := row4 HN2.out
  go_wp2_with (fail)
  obtain ⟨m0, m1, m2, m3, _⟩ := row4 (s4 HN2.out (.int .i64 x.k) (.string ⟨x.t.toArray⟩) (.int .i64 x.o) (.slice A2 x.kids.len c2))
  exact bodyPost_ret (v := .agg #[.int .i64 x.k, .string ⟨x.t.toArray⟩, .int .i64 x.o, .slice A2 x.kids.len c2]) (by simp [results, Tryz.results124, go_sem, m0, m1, m2, m3]) rfl HFin.out

set_option maxHeartbeats 2000000 in
theorem copy1_of (S : Nat → Prop) (k o : Int) (t : List UInt8) (kids : Fo) (A : Option Addr) (c : Nat) (i : Int) (w : World) (x : Tm) (hS : ∀ y, S y → y < w.heap.size)
    (hC : ∀ X, BH w X → Calls Tryz.prog 124 #[.agg #[.int .i64 k, .string ⟨t.toArray⟩, .int .i64 o, .slice A kids.len c]] X (SbP X S x)) :
    Calls Tryz.prog 158 #[.int .i64 i, .agg #[.int .i64 k, .string ⟨t.toArray⟩, .int .i64 o, .slice A kids.len c]] w (SbP w S x) := by
  have f1 := bh_alloc (BH.refl w) (.cells #[.int .i64 k, .string ⟨t.toArray⟩, .int .i64 o, .slice A kids.len c] 34)
  have f2 := bh_alloc f1 (.cells #[.int .i64 0, .string ⟨#[]⟩, .int .i64 0, .slice none 0 0] 34)
  have e2 := heap_alloc_new (w.alloc (.cells #[.int .i64 k, .string ⟨t.toArray⟩, .int .i64 o, .slice A kids.len c] 34)) (.cells #[.int .i64 0, .string ⟨#[]⟩, .int .i64 0, .slice none 0 0] 34)
  rw [World.size_alloc] at e2
  have HC := Lib.hid (hC _ f2)
  have HE := Lib.hid e2
  have HF := Lib.hid f2
  have HS := Lib.hid hS
  clear f1 f2 e2 hC hS
  go_enter Tryz.func158, Tryz.ntmps158
  go_wp2_with (fail)
  refine HC.out.mono ?_
  rintro e w2 ⟨A2, c2, rfl, u1, u2⟩
  have HN2 := Lib.hid ((Below.block u2 (w.heap.size + 1) (by simp)).trans HE.out)
  have HFin := Lib.hid (SbP.box (x := x) (N := w.heap.size + 1) HS.out (by omega) (BH.trans HF.out u2) (u1.keep (S' := fun y => (S y ∨ w.heap.size ≤ y) ∧ y ≠ w.heap.size + 1) (Nat.le_refl _) fun y hy _ => ⟨rfl, hy.elim (fun h => ⟨.inl h, by have := HS.out y h; omega⟩) fun h => ⟨.inr (by simp at h; omega), by simp at h; omega⟩⟩))
  clear u1 u2
  obtain ⟨b0, b1, b2, b3, y0, y1, y2, y3⟩ := row4 HN2.out
  go_wp2_with (fail)
  obtain ⟨m0, m1, m2, m3, _⟩ := row4 (s4 HN2.out (.int .i64 x.k) (.string ⟨x.t.toArray⟩) (.int .i64 x.o) (.slice A2 x.kids.len c2))
  exact bodyPost_ret (v := .agg #[.int .i64 x.k, .string ⟨x.t.toArray⟩, .int .i64 x.o, .slice A2 x.kids.len c2]) (by simp [results, Tryz.results158, go_sem, m0, m1, m2, m3]) rfl HFin.out

theorem copy_any (S : Nat → Prop) (N : Nat) : ∀ (k o : Int) (t : List UInt8) (kids : Fo) (A : Option Addr) (c : Nat) (w : World), fsize kids ≤ N → fsize kids ≤ 1099511627776 → KT w kids A c → (∀ y, S y → y < w.heap.size) →
    Calls Tryz.prog 124 #[.agg #[.int .i64 k, .string ⟨t.toArray⟩, .int .i64 o, .slice A kids.len c]] w (SbP w S ⟨k, t, kids, o⟩) := by
  induction N using Nat.strongRecOn with
  | ind N ih =>
  intro k o t kids A c w hN hN2 hK hS
  refine copy_of S k o t kids A c w _ hS fun X hX => ?_
  have hl := len_le_fsize kids
  have h := withArgs_copy (fun _ k t kids o => ⟨k, t, kids, o⟩) S k o t kids A c X (fun y hy => Nat.lt_of_lt_of_le (hS y hy) (Below.size hX)) (by omega) (hK.below hX) ?_
  · rwa [mapK_id] at h
  · intro i k1 o1 t1 kids1 r1 A1 c1 Y hsuf hY hK1
    have hkid := hsuf.kid.1
    have hSY : ∀ y, S y → y < Y.heap.size := fun y hy => Nat.lt_of_lt_of_le (Nat.lt_of_lt_of_le (hS y hy) (Below.size hX)) (Below.size hY)
    refine copy1_of S k1 o1 t1 kids1 A1 c1 (i : Int) Y _ hSY fun Z hZ => ?_
    exact ih (fsize kids1) (by omega) k1 o1 t1 kids1 A1 c1 Z (Nat.le_refl _) (by omega) (hK1.below hZ) fun y hy => Nat.lt_of_lt_of_le (hSY y hy) (Below.size hZ)
end Go.Proofs.YtpkiheenkpcebaaGreatDoor

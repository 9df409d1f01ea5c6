/- typeterm.isFree, bodiesAround, isClosed. No condition but a bounded size. -/
import Derived.Test.YtpdigaankmgagaaTb1
import Derived.Deep.DeepCutAuto
set_option linter.unusedVariables false
set_option linter.unusedSimpArgs false
namespace Go.Proofs.Ytpdigaankmgagaa
open Go.RowKit Sx

theorem below_drew (w : World) : Below w.heap.size w w.drew := ⟨rfl, rfl, rfl, Nat.le_refl _, fun _ _ => rfl⟩
/-- X is behind w -/
def BH (w X : World) : Prop := Below w.heap.size w X
theorem BH.refl (w : World) : BH w w := Below.refl _ _
theorem BH.trans {a b c : World} (h : BH a b) (k : BH b c) : BH a c := Below.trans h (k.mono h.size)
theorem BH.drew (w : World) : BH w w.drew := below_drew w
theorem BH.cell {w X : World} (h : BH w X) {p : Addr} {v : Value} (hp : w.cell? p = some v) : X.cell? p = some v := by
  have hlt : p.block < w.heap.size := by
    rcases Nat.lt_or_ge p.block w.heap.size with hh | hh
    · exact hh
    · exfalso
      have : w.heap[p.block]? = none := Array.getElem?_eq_none hh
      simp [World.cell?, this] at hp
  exact (Below.cell h hlt).trans hp

set_option maxHeartbeats 1000000 in
theorem isFree_any (k o b : Int) (t : List UInt8) (A : Option Addr) (n c : Nat) (w : World) {V : Bool} (hV : freeB k o b = V) :
    Calls Try.prog 43 #[.agg #[.int .i64 k, .string ⟨t.toArray⟩, .int .i64 o, .slice A n c], .int .i64 b] w fun e w' => e = .returned (.bool V) ∧ BH w w' := by
  subst hV
  obtain ⟨b0, b1, b2, b3⟩ := box4 w (.int .i64 k) (.string ⟨t.toArray⟩) (.int .i64 o) (.slice A n c) 31
  have B1 : BH w (w.alloc (.cells #[.int .i64 k, .string ⟨t.toArray⟩, .int .i64 o, .slice A n c] 31 (0, 0))) := (Below.refl _ _).alloc (Nat.le_refl _) _
  have HB := Lib.hid B1
  clear B1
  by_cases hk : k = 5
  · subst hk
    by_cases hb : b ≤ o
    · have t1 : decide (b ≤ o) = true := by simpa using hb
      rw [show freeB 5 o b = true from by simp [freeB, hb]]
      go_enter Try.func43, Try.ntmps43
      go_wp2_with (fail)
      go_ret
      exact ⟨rfl, HB.out⟩
    · have t1 : decide (b ≤ o) = false := by simpa using hb
      rw [show freeB 5 o b = false from by simp [freeB, hb]]
      go_enter Try.func43, Try.ntmps43
      go_wp2_with (fail)
      go_ret
      exact ⟨rfl, HB.out⟩
  · have t1 : (k == 5) = false := by simp [hk]
    rw [show freeB k o b = false from by simp [freeB, hk]]
    go_enter Try.func43, Try.ntmps43
    go_wp2_with (fail)
    go_ret
    exact ⟨rfl, HB.out⟩

set_option maxHeartbeats 1000000 in
theorem around_any (k o b : Int) (i : Nat) (t : List UInt8) (A : Option Addr) (n c : Nat) (w : World) (h0 : 0 ≤ b) (h1 : b ≤ 1152921504606846976) :
    Calls Try.prog 47 #[.agg #[.int .i64 k, .string ⟨t.toArray⟩, .int .i64 o, .slice A n c], .int .i64 (i : Int), .int .i64 b] w fun e w' => e = .returned (.int .i64 (aroundB k i b)) ∧ BH w w' := by
  obtain ⟨b0, b1, b2, b3⟩ := box4 w (.int .i64 k) (.string ⟨t.toArray⟩) (.int .i64 o) (.slice A n c) 31
  have B1 : BH w (w.alloc (.cells #[.int .i64 k, .string ⟨t.toArray⟩, .int .i64 o, .slice A n c] 31 (0, 0))) := (Below.refl _ _).alloc (Nat.le_refl _) _
  have HB := Lib.hid B1
  clear B1
  by_cases hk : k = 6
  · subst hk
    by_cases hi : i = 1
    · subst hi
      rw [show aroundB 6 1 b = b + 1 from by simp [aroundB]]
      go_enter Try.func47, Try.ntmps47
      go_wp2_with (fail)
      go_ret
      exact ⟨rfl, HB.out⟩
    · have t1 : ((i : Int) == 1) = false := by rw [beq_eq_false_iff_ne]; omega
      rw [show aroundB 6 i b = b from by simp [aroundB, hi]]
      go_enter Try.func47, Try.ntmps47
      go_wp2_with (fail)
      go_ret
      exact ⟨rfl, HB.out⟩
  · have t1 : (k == 6) = false := by simp [hk]
    rw [show aroundB k i b = b from by simp [aroundB, hk]]
    go_enter Try.func47, Try.ntmps47
    go_wp2_with (fail)
    go_ret
    exact ⟨rfl, HB.out⟩
theorem aroundB_bounds (k b : Int) (i : Nat) : b ≤ aroundB k i b ∧ aroundB k i b ≤ b + 1 := by
  unfold aroundB
  split <;> omega

set_option maxHeartbeats 4000000 in
theorem isClosed_any (N : Nat) : ∀ (k o b : Int) (t : List UInt8) (kids : Fo) (A : Option Addr) (c : Nat) (w : World), fsize kids ≤ N → fsize kids ≤ 1073741824 → KT w kids A c → 0 ≤ b → b + fsize kids ≤ 1152921504606846976 →
    Calls Try.prog 60 #[.agg #[.int .i64 k, .string ⟨t.toArray⟩, .int .i64 o, .slice A kids.len c], .int .i64 b] w fun e w' => e = .returned (.bool (closed1 k o kids b)) ∧ BH w w' := by
  induction N using Nat.strongRecOn with
  | ind N ih =>
  intro k o b t kids A c w hN hN2 hK hb0 hb1
  have IH := Lib.hid ih
  have HK := Lib.hid hK
  clear ih hK
  have hlen := len_le_fsize kids
  obtain ⟨L, hL⟩ : ∃ L, kids.len = L := ⟨_, rfl⟩
  rw [hL] at hlen ⊢
  have HL := Lib.hid hL
  clear hL
  have hX := heap_alloc_new w (.cells #[.int .i64 k, .string ⟨t.toArray⟩, .int .i64 o, .slice A L c] 31 (0, 0))
  have HX := Lib.hid hX
  clear hX
  obtain ⟨b0, b1, b2, b3⟩ := box4 w (.int .i64 k) (.string ⟨t.toArray⟩) (.int .i64 o) (.slice A L c) 31
  have hF := fun (V : Bool) (hV : freeB k o b = V) W => isFree_any k o b t A L c W hV
  cases hfr : freeB k o b with
  | true =>
    have HF := Lib.hid (hF true hfr)
    rw [show closed1 k o kids b = false from by simp [closed1, hfr]]
    clear hF hfr
    go_enter Try.func60, Try.ntmps60
    go_wp2_with (fail)
    refine (HF.out _).mono ?_
    rintro e w1 ⟨rfl, hb⟩
    have HB := Lib.hid hb
    clear hb
    go_wp2_with (fail)
    go_ret
    exact ⟨rfl, BH.trans ((Below.refl _ _).alloc (Nat.le_refl _) _) HB.out⟩
  | false =>
    have HF := Lib.hid (hF false hfr)
    rw [show closed1 k o kids b = closedL k 0 b kids from by simp [closed1, hfr]]
    clear hF hfr
    obtain ⟨V, hV⟩ : ∃ V, closedL k 0 b kids = V := ⟨_, rfl⟩
    rw [hV]
    have HV := Lib.hid hV
    clear hV
    go_enter Try.func60, Try.ntmps60
    go_wp2_with (fail)
    refine (HF.out _).mono ?_
    rintro e w1 ⟨rfl, hb⟩
    have hbw : Below w.heap.size w w1 := BH.trans ((Below.refl _ _).alloc (Nat.le_refl _) _) hb
    have hX1 := (hb.block w.heap.size (by simp)).trans HX.out
    have HX1 := Lib.hid hX1
    have HBW := Lib.hid hbw
    have hs1 : w.heap.size < w1.heap.size := by have := hb.size; simp at this; omega
    clear hb hbw hX1 b0 b1 b2 b3
    obtain ⟨b0, b1, b2, b3, _⟩ := row4 HX1.out
    go_wp2_with (fail)
    go_loopw [4, 5, 6, 13] (fun _ _ _ iv wr => ∃ (i : Nat) (r : Fo), iv = .int .i64 (i : Int) ∧ Suf i r kids ∧ closedL k i b r = V ∧ BH w1 wr) (fun _ _ _ iv _ => L - (match iv with | .int _ n => n.toNat | _ => 0))
    case atStart => exact ⟨0, kids, rfl, Suf.zero _, HV.out, BH.refl _⟩
    case round =>
      obtain ⟨i, r, rfl, hsuf, hcl, hbh⟩ := hrel
      have hlen' := hsuf.len
      rw [HL.out] at hlen'
      have hbel : Below w.heap.size w wr := HBW.out.trans (Below.mono hbh (by omega))
      have hbs : w1.heap.size ≤ wr.heap.size := Below.size hbh
      have HX2 := Lib.hid ((Below.block hbh w.heap.size hs1).trans HX1.out)
      clear b0 b1 b2 b3
      obtain ⟨b0, b1, b2, b3, _⟩ := row4 HX2.out
      cases r with
      | nil =>
        simp only [Fo.len] at hlen'
        have hge : decide (i < L) = false := by rw [decide_eq_false_iff_not]; omega
        have HN := Lib.hid hcl
        have HB := Lib.hid hbel
        clear hcl hlen' hbel hsuf hbh
        go_wp2_with (fail)
        go_ret
        exact ⟨congrArg (fun z : Bool => Ending.returned (.bool z)) HN.out, HB.out⟩
      | cons k1 t1 kids1 o1 r1 =>
        obtain ⟨g, off, A1, c1, rfl, hgl, q0, q1, q2, q3, hk1⟩ := HK.out.get hsuf hbel
        obtain ⟨hkid, hil⟩ := hsuf.kid
        rw [HL.out] at hil
        have hge : decide ((i : Int) < (L : Int)) = true := by rw [decide_eq_true_eq]; omega
        have hiL : (i : Int) < (L : Int) := by omega
        have hi0 : (0 : Int) ≤ (i : Int) := by omega
        have hne : ¬ g = wr.heap.size := by omega
        have hne2 : ¬ w.heap.size = wr.heap.size := by omega
        obtain ⟨ab0, ab1⟩ := aroundB_bounds k b i
        rw [closedL_cons] at hcl
        have HC := Lib.hid hcl
        have HS := Lib.hid hsuf
        have hN5 := heap_alloc_new wr (.cells #[.int .i64 k1, .string ⟨t1.toArray⟩, .int .i64 o1, .slice A1 kids1.len c1] 31 (0, 0))
        have B5 : BH wr (wr.alloc (.cells #[.int .i64 k1, .string ⟨t1.toArray⟩, .int .i64 o1, .slice A1 kids1.len c1] 31 (0, 0))) := (Below.refl _ _).alloc (Nat.le_refl _) _
        have hQ : (wr.alloc (.cells #[.int .i64 k1, .string ⟨t1.toArray⟩, .int .i64 o1, .slice A1 kids1.len c1] 31 (0, 0))).heap[wr.heap.size]? = some (.cells #[.int .i64 k1, .string ⟨t1.toArray⟩, .int .i64 o1, .slice A1 kids1.len c1] 31 (0, 0)) ∧ BH w1 (wr.alloc (.cells #[.int .i64 k1, .string ⟨t1.toArray⟩, .int .i64 o1, .slice A1 kids1.len c1] 31 (0, 0))) := ⟨hN5, BH.trans hbh B5⟩
        have HQ := Lib.hid hQ
        have HK1 := Lib.hid hk1
        clear hk1 hcl hsuf hQ B5 hN5 hbel hbh hlen'
        go_upto_region 6 with (fail)
        refine gen_wp _ (fun X => X.heap[wr.heap.size]? = some (.cells #[.int .i64 k1, .string ⟨t1.toArray⟩, .int .i64 o1, .slice A1 kids1.len c1] 31 (0, 0)) ∧ BH w1 X) HQ.out ?_
        rintro W5 ⟨hN5, hP5⟩
        obtain ⟨g5, hg5⟩ : ∃ g5, wr.heap.size = g5 := ⟨_, rfl⟩
        rw [hg5] at hN5 ⊢
        obtain ⟨d0, d1, d2, d3, _⟩ := row4 hN5
        obtain ⟨f0, f1, f2, f3, _⟩ := row4 ((Below.block hP5 w.heap.size hs1).trans HX1.out)
        have HP5 := Lib.hid hP5
        have hk5 : KT W5 kids1 A1 c1 := HK1.out.below (HBW.out.trans (Below.mono hP5 (by omega)))
        have HK5 := Lib.hid hk5
        clear hg5 HQ hN5 hk5 hP5 b0 b1 b2 b3 q0 q1 q2 q3 HX2
        have hBA : ∀ X, BH W5 X → Calls Try.prog 47 #[.agg #[.int .i64 k, .string ⟨t.toArray⟩, .int .i64 o, .slice (some ⟨g, off, none⟩) L c], .int .i64 (i : Int), .int .i64 b] X fun e u => e = .returned (.int .i64 (aroundB k i b)) ∧ BH W5 u := fun X hX =>
          (around_any k o b i t _ L c X hb0 (by omega)).mono fun e u h => ⟨h.1, BH.trans hX h.2⟩
        obtain ⟨V1, hV1⟩ : ∃ V1, closed1 k1 o1 kids1 (aroundB k i b) = V1 := ⟨_, rfl⟩
        have hIC : ∀ X, BH W5 X → Calls Try.prog 60 #[.agg #[.int .i64 k1, .string ⟨t1.toArray⟩, .int .i64 o1, .slice A1 kids1.len c1], .int .i64 (aroundB k i b)] X fun e u => e = .returned (.bool V1) ∧ BH W5 u := fun X hX => by
          rw [← hV1]
          exact (IH.out (fsize kids1) (by omega) k1 o1 (aroundB k i b) t1 kids1 A1 c1 X (Nat.le_refl _) (by omega) (HK5.out.below hX) (by omega) (by omega)).mono fun e u h => ⟨h.1, BH.trans hX h.2⟩
        have KS : ∀ X, BH W5 X → X.cell? ⟨g5, 0, none⟩ = some (.int .i64 k1) ∧ X.cell? ⟨g5, 1, none⟩ = some (.string ⟨t1.toArray⟩) ∧ X.cell? ⟨g5, 2, none⟩ = some (.int .i64 o1) ∧ X.cell? ⟨g5, 3, none⟩ = some (.slice A1 kids1.len c1) ∧
            X.cell? ⟨w.heap.size, 0, none⟩ = some (.int .i64 k) ∧ X.cell? ⟨w.heap.size, 1, none⟩ = some (.string ⟨t.toArray⟩) ∧ X.cell? ⟨w.heap.size, 2, none⟩ = some (.int .i64 o) ∧ X.cell? ⟨w.heap.size, 3, none⟩ = some (.slice (some ⟨g, off, none⟩) L c) :=
          fun X h => ⟨h.cell d0, h.cell d1, h.cell d2, h.cell d3, h.cell f0, h.cell f1, h.cell f2, h.cell f3⟩
        have HBA := Lib.hid hBA
        have HIC := Lib.hid hIC
        have HKS := Lib.hid KS
        have HPe := Lib.hid (BH.drew W5)
        have HV1 := Lib.hid hV1
        clear hBA hIC KS hV1 ab0 ab1
        cases V1 with
        | true =>
          go_region_held3 (fun w' => w'.cell? ⟨g5, 0, none⟩ = some (.int .i64 k1) ∧ w'.cell? ⟨g5, 1, none⟩ = some (.string ⟨t1.toArray⟩) ∧ w'.cell? ⟨g5, 2, none⟩ = some (.int .i64 o1) ∧ w'.cell? ⟨g5, 3, none⟩ = some (.slice A1 kids1.len c1) ∧
              w'.cell? ⟨w.heap.size, 0, none⟩ = some (.int .i64 k) ∧ w'.cell? ⟨w.heap.size, 1, none⟩ = some (.string ⟨t.toArray⟩) ∧ w'.cell? ⟨w.heap.size, 2, none⟩ = some (.int .i64 o) ∧ w'.cell? ⟨w.heap.size, 3, none⟩ = some (.slice (some ⟨g, off, none⟩) L c)) (go_keep)
            (first
              | (go_at_call 60; refine (HIC.out _ HPu.out).mono ?_; rintro e u2 ⟨rfl, hpu⟩; have HPz := Lib.hid hpu; obtain ⟨x0, x1, x2, x3, x4, x5, x6, x7⟩ := HKS.out _ hpu; clear hpu)
              | (go_at_call 47; refine (HBA.out _ HPe.out).mono ?_; rintro e u ⟨rfl, hpu⟩; have HPu := Lib.hid hpu; obtain ⟨x0, x1, x2, x3, x4, x5, x6, x7⟩ := HKS.out _ hpu; clear hpu))
          all_goals
            go_wp2_with (fail)
            exact ⟨⟨i + 1, r1, rfl, HS.out.next, by have h := HC.out; rw [HV1.out, Bool.true_and] at h; exact h, BH.trans HP5.out HPz.out⟩, by simp; omega⟩
        | false =>
          go_region_held3 (fun w' => w'.cell? ⟨g5, 0, none⟩ = some (.int .i64 k1) ∧ w'.cell? ⟨g5, 1, none⟩ = some (.string ⟨t1.toArray⟩) ∧ w'.cell? ⟨g5, 2, none⟩ = some (.int .i64 o1) ∧ w'.cell? ⟨g5, 3, none⟩ = some (.slice A1 kids1.len c1) ∧
              w'.cell? ⟨w.heap.size, 0, none⟩ = some (.int .i64 k) ∧ w'.cell? ⟨w.heap.size, 1, none⟩ = some (.string ⟨t.toArray⟩) ∧ w'.cell? ⟨w.heap.size, 2, none⟩ = some (.int .i64 o) ∧ w'.cell? ⟨w.heap.size, 3, none⟩ = some (.slice (some ⟨g, off, none⟩) L c)) (go_keep)
            (first
              | (go_at_call 60; refine (HIC.out _ HPu.out).mono ?_; rintro e u2 ⟨rfl, hpu⟩; have HPz := Lib.hid hpu; obtain ⟨x0, x1, x2, x3, x4, x5, x6, x7⟩ := HKS.out _ hpu; clear hpu)
              | (go_at_call 47; refine (HBA.out _ HPe.out).mono ?_; rintro e u ⟨rfl, hpu⟩; have HPu := Lib.hid hpu; obtain ⟨x0, x1, x2, x3, x4, x5, x6, x7⟩ := HKS.out _ hpu; clear hpu))
          all_goals
            go_wp2_with (fail)
            go_ret
            exact ⟨congrArg (fun z : Bool => Ending.returned (.bool z)) (by have h := HC.out; rw [HV1.out, Bool.false_and] at h; exact h), HBW.out.trans (Below.mono (BH.trans HP5.out HPz.out) (by omega))⟩
end Go.Proofs.Ytpdigaankmgagaa

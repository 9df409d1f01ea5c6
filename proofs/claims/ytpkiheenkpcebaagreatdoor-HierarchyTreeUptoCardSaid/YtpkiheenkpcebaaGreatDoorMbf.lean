/- telref1.CheckDecl. No condition but bounded sizes. -/
import Derived.Test.YtpkiheenkpcebaaGreatDoorMbe
set_option linter.unusedVariables false
set_option linter.unusedSimpArgs false
namespace Go.Proofs.YtpkiheenkpcebaaGreatDoor.Sx
def chE (d : De) : Int := if vdB d = false then 2 else if 6 < d.arity ∨ 6 < d.fields.length then 4 else 0
end Go.Proofs.YtpkiheenkpcebaaGreatDoor.Sx
namespace Go.Proofs.YtpkiheenkpcebaaGreatDoor
open Go.RowKit Sx

set_option maxHeartbeats 4000000 in
set_option maxRecDepth 100000 in
theorem rCheckDecl (V : Int) (d : De) (A F : Option Addr) (c x : Nat) (w : World) (S : Nat → Prop) (hok : OkD V d) (hK : KT w d.super.kids A c) (hFl : FlS w S d.fields F x) :
    Calls Tryz.prog 60 #[.agg #[.string ⟨d.name.toArray⟩, .int .i64 d.arity, .int .i64 d.super.k, .string ⟨d.super.t.toArray⟩, .int .i64 d.super.o, .slice A d.super.kids.len c, .bool d.conc, .slice F d.fields.length x]] w fun e w' => e = .returned (.int .i64 (chE d)) ∧ BH w w' := by
  obtain ⟨vd, hvd⟩ : ∃ vd, vdB d = vd := ⟨_, rfl⟩
  have hC : ∀ X, BH w X → Calls Tryz.prog 99 #[.agg #[.string ⟨d.name.toArray⟩, .int .i64 d.arity, .int .i64 d.super.k, .string ⟨d.super.t.toArray⟩, .int .i64 d.super.o, .slice A d.super.kids.len c, .bool d.conc, .slice F d.fields.length x]] X fun e u => e = .returned (.bool vd) ∧ BH X u := fun X hX => by
    rw [← hvd]
    exact rValidDecl V d A F c x X S hok (hK.below hX) (hFl.bh hX)
  obtain ⟨Z, hZ⟩ : ∃ Z, chE d = Z := ⟨_, rfl⟩
  rw [hZ]
  rw [chE, hvd] at hZ
  obtain ⟨n, ar, ⟨k, t, kids, o⟩, cc, fs⟩ := d
  obtain ⟨_, _, hofs, _⟩ := hok
  simp only at hC hZ hofs ⊢
  obtain ⟨M, hM⟩ : ∃ M, fs.length = M := ⟨_, rfl⟩
  rw [hM] at hC hZ hofs ⊢
  have HC := Lib.hid hC
  have HZ := Lib.hid hZ
  have e1 := heap_alloc_new w (.cells #[.string ⟨n.toArray⟩, .int .i64 ar, .int .i64 k, .string ⟨t.toArray⟩, .int .i64 o, .slice A kids.len c, .bool cc, .slice F M x] 37)
  have f1 := bh_alloc (BH.refl w) (.cells #[.string ⟨n.toArray⟩, .int .i64 ar, .int .i64 k, .string ⟨t.toArray⟩, .int .i64 o, .slice A kids.len c, .bool cc, .slice F M x] 37)
  have HF := Lib.hid (And.intro e1 f1)
  obtain ⟨⟨r0, r1, r2, r3, r4, r5, r6, r7⟩, _⟩ := row8 e1
  clear hC hZ hvd e1 f1 hK hFl hM
  go_enter Tryz.func60, Tryz.ntmps60
  go_wp2_with (fail)
  refine (HC.out _ HF.out.2).mono ?_
  rintro e u ⟨rfl, hb⟩
  have HB := Lib.hid (BH.trans HF.out.2 hb)
  have hrow := (Below.block hb _ (heap_lt HF.out.1)).trans HF.out.1
  clear hb r0 r1 r2 r3 r4 r5 r6 r7
  obtain ⟨⟨r0, r1, r2, r3, r4, r5, r6, r7⟩, _⟩ := row8 hrow
  clear hrow
  cases vd with
  | false =>
    go_wp2_with (fail)
    go_ret
    exact ⟨by rw [← HZ.out]; rfl, HB.out⟩
  | true =>
    by_cases h6 : 6 < ar
    · have t1 : decide (6 < ar) = true := by simpa using h6
      have H6 := Lib.hid h6
      clear h6
      go_wp2_with (fail)
      go_ret
      exact ⟨by rw [← HZ.out, if_neg (by simp), if_pos (.inl H6.out)]; rfl, HB.out⟩
    · have t1 : decide (6 < ar) = false := by simpa using h6
      by_cases m6 : 6 < M
      · have t2 : decide ((6 : Int) < (M : Int)) = true := by rw [decide_eq_true_eq]; omega
        have t3 : decide (6 < M) = true := by simpa using m6
        have H6 := Lib.hid m6
        clear h6 m6
        go_wp2_with (fail)
        go_ret
        exact ⟨by rw [← HZ.out, if_neg (by simp), if_pos (.inr H6.out)]; rfl, HB.out⟩
      · have t2 : decide ((6 : Int) < (M : Int)) = false := by rw [decide_eq_false_iff_not]; omega
        have t3 : decide (6 < M) = false := by simpa using m6
        have H6 := Lib.hid (show ¬ (6 < ar ∨ 6 < M) from fun h => h.elim h6 m6)
        clear h6 m6
        go_wp2_with (fail)
        go_ret
        exact ⟨by rw [← HZ.out, if_neg (by simp), if_neg H6.out]; rfl, HB.out⟩
end Go.Proofs.YtpkiheenkpcebaaGreatDoor

/- typeterm.Equal. No condition but a bounded size. -/
import Derived.Test.YtpdigaankmgagaaTcp
set_option linter.unusedVariables false
set_option linter.unusedSimpArgs false
namespace Go.Proofs.Ytpdigaankmgagaa
open Go.RowKit Sx
theorem equalT_any (k o k' o' : Int) (t t' : List UInt8) (kids kids' : Fo) (A A' : Option Addr) (c c' : Nat) (w : World) (hN2 : fsize kids ≤ 4611686018427387904) (hN3 : fsize kids' ≤ 4611686018427387904) (hK : KT w kids A c) (hK' : KT w kids' A' c') :
    Calls Try.prog 29 #[.agg #[.int .i64 k, .string ⟨t.toArray⟩, .int .i64 o, .slice A kids.len c], .agg #[.int .i64 k', .string ⟨t'.toArray⟩, .int .i64 o', .slice A' kids'.len c']] w fun e w' => e = .returned (.bool (cmp1 k t o kids k' t' o' kids' == 0)) ∧ Below w.heap.size w w' := by
  have B2 : Below w.heap.size w ((w.alloc (.cells #[.int .i64 k, .string ⟨t.toArray⟩, .int .i64 o, .slice A kids.len c] 31 (0, 0))).alloc (.cells #[.int .i64 k', .string ⟨t'.toArray⟩, .int .i64 o', .slice A' kids'.len c'] 31 (0, 0))) :=
    ((Below.refl _ _).alloc (Nat.le_refl _) _).alloc (by simp) _
  have HC := Lib.hid (compare_any (fsize kids) k o k' o' t t' kids kids' A A' c c' _ (Nat.le_refl _) hN2 hN3 (hK.below B2) (hK'.below B2))
  have HB := Lib.hid B2
  clear B2 hK hK'
  go_enter Try.func29, Try.ntmps29
  go_wp2_with (go_at_call 42; refine HC.out.mono ?_; rintro e w4 ⟨rfl, hb⟩; have HB4 := Lib.hid hb; clear hb)
  go_ret
  exact ⟨rfl, HB.out.trans (HB4.out.mono HB.out.size)⟩
end Go.Proofs.Ytpdigaankmgagaa

/- How many nodes a text can hold: no more than it has bytes. No condition. -/
import Derived.Test.YtkndlbcmbfgoaaaSame
set_option linter.unusedVariables false
set_option linter.unusedSimpArgs false
namespace Go.Proofs.Ytkndlbcmbfgoaaa
open Go.RowKit Sx

theorem fsize_app (f g : Fo) : fsize (f.app g) = fsize f + fsize g := by
  induction f with
  | nil => simp [Fo.app, fsize]
  | cons k t kids o r _ ih => simp only [Fo.app, fsize, ih]; omega

theorem elems_size (f : Nat) : ∀ (o p : Nat) (r : List UInt8) (ns : Fo) (q : Nat), elems f o p r = .ok ns q → p + fsize ns ≤ q := by
  induction f with
  | zero => intro o p r ns q h; simp [elems] at h
  | succ f ih =>
    intro o p r ns q h
    rcases hr : r.drop (skipN false r) with _ | ⟨c, r2⟩
    · rw [elems_nil rfl hr] at h
      split at h
      · cases h
      · simp only [Res.ok.injEq] at h
        obtain ⟨rfl, rfl⟩ := h
        simp [fsize]
    · cases hw : wordB c.toNat with
      | true =>
        rw [elems_word rfl hr hw] at h
        have h1 := wordN_pos (r := r2) hw
        split at h
        · cases h
        · rcases he : elems f o (p + skipN false r + wordN (c :: r2)) ((c :: r2).drop (wordN (c :: r2))) with _ | ⟨ns', q'⟩
          · rw [he] at h; cases h
          · rw [he] at h
            simp only [Res.pre, Res.ok.injEq] at h
            obtain ⟨rfl, rfl⟩ := h
            have := ih _ _ _ _ _ he
            simp only [fsize_app, Fo.one, fsize]
            omega
      | false =>
        cases h34 : ((c.toNat : Int) == 34) with
        | true =>
          rw [elems_str rfl hr hw h34] at h
          rcases hq : quot (r2.length + 1) r2 with k | ⟨t, n⟩
          · rw [hq] at h; cases h
          · rw [hq] at h
            dsimp only at h
            split at h
            · cases h
            · rcases he : elems f o (p + skipN false r + 1 + n) (r2.drop n) with _ | ⟨ns', q'⟩
              · rw [he] at h; cases h
              · rw [he] at h
                simp only [Res.pre, Res.ok.injEq] at h
                obtain ⟨rfl, rfl⟩ := h
                have := ih _ _ _ _ _ he
                simp only [fsize_app, Fo.one, fsize]
                omega
        | false =>
          cases h40 : ((c.toNat : Int) == 40) with
          | true =>
            rw [elems_list rfl hr h40] at h
            split at h
            · cases h
            · rcases hk : elems f (o + 1) (p + skipN false r + 1) r2 with _ | ⟨kids, q1⟩
              · rw [hk] at h; cases h
              · rw [hk] at h
                dsimp only at h
                have hk' := ih _ _ _ _ _ hk
                rcases he : elems f o (q1 + 1) (r2.drop (q1 - (p + skipN false r))) with _ | ⟨ns', q'⟩
                · rw [he] at h; cases h
                · rw [he] at h
                  simp only [Res.pre, Res.ok.injEq] at h
                  obtain ⟨rfl, rfl⟩ := h
                  have := ih _ _ _ _ _ he
                  simp only [fsize_app, Fo.one, fsize]
                  omega
          | false =>
            by_cases h41 : ((c.toNat : Int) == 41) = true ∧ 0 < o
            · rw [elems_close rfl hr h41.1 h41.2] at h
              simp only [Res.ok.injEq] at h
              obtain ⟨rfl, rfl⟩ := h
              simp [fsize]
            · rw [elems_else rfl hr hw h34 h40 (by
                cases h5 : ((c.toNat : Int) == 41) with
                | true => exact .inr (by have : ¬ 0 < o := fun h => h41 ⟨h5, h⟩; omega)
                | false => exact .inl rfl)] at h
              cases h

theorem parse_size (l : List UInt8) (ns : Fo) (q : Nat) (h : parseR l = .ok ns q) : fsize ns ≤ 65536 := by
  rw [parseR] at h
  split at h
  · cases h
  · have h1 := elems_size _ _ _ _ _ _ h
    have h2 := elems_pos _ _ _ _ _ _ h
    omega
end Go.Proofs.Ytkndlbcmbfgoaaa

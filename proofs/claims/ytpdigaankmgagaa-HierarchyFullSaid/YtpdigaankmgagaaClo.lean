/- Closed terms, pure. No condition. -/
import Derived.Test.YtpdigaankmgagaaTcl
import Derived.Test.YtpdigaankmgagaaTva
set_option linter.unusedVariables false
set_option linter.unusedSimpArgs false
namespace Go.Proofs.Ytpdigaankmgagaa.Sx
theorem closedL_any (f : Fo) : ∀ (pk : Int) (i : Nat) (b : Int), pk ≠ 6 → closedL pk i b f = closedL 0 0 b f := by
  induction f with
  | nil => intros; rfl
  | cons k t kids o r _ ih =>
    intro pk i b h
    have e : ∀ (p : Int) (j : Nat), p ≠ 6 → aroundB p j b = b := fun p j hp => by simp [aroundB, hp]
    rw [closedL_cons, closedL_cons, e pk i h, e 0 0 (by decide), ih pk (i + 1) b h, ih 0 (0 + 1) b (by decide)]
theorem closedL_app (f g : Fo) (b : Int) : closedL 0 0 b (f.app g) = (closedL 0 0 b f && closedL 0 0 b g) := by
  induction f with
  | nil => simp [Fo.app, closedL]
  | cons k t kids o r _ ih =>
    show closedL 0 0 b (.cons k t kids o (r.app g)) = _
    rw [closedL_cons, closedL_cons, closedL_any _ 0 (0 + 1) b (by decide), closedL_any r 0 (0 + 1) b (by decide), ih, Bool.and_assoc]
theorem aroundB_mono {a b : Int} (h : a ≤ b) (k : Int) (i : Nat) : aroundB k i a ≤ aroundB k i b := by unfold aroundB; split <;> omega
theorem closedL_mono (f : Fo) : ∀ (pk : Int) (i : Nat) (a b : Int), a ≤ b → closedL pk i a f = true → closedL pk i b f = true := by
  induction f with
  | nil => intros; rfl
  | cons k t kids o r ih1 ih2 =>
    intro pk i a b h hc
    have hm := aroundB_mono h pk i
    simp only [closedL, Bool.and_eq_true, Bool.not_eq_true'] at hc ⊢
    refine ⟨⟨?_, ih1 k 0 _ _ hm hc.1.2⟩, ih2 pk (i + 1) a b h hc.2⟩
    have := hc.1.1
    simp only [freeB, Bool.and_eq_false_iff, decide_eq_false_iff_not] at this ⊢
    rcases this with h1 | h1
    · exact .inl h1
    · exact .inr (by omega)
theorem closed1_mono {k o : Int} {kids : Fo} {a b : Int} (h : a ≤ b) (hc : closed1 k o kids a = true) : closed1 k o kids b = true := by
  have := closedL_mono (.one k [] kids o) 0 0 a b h (by rw [Fo.one, closedL_cons]; simpa [closedL, aroundB] using hc)
  rw [Fo.one, closedL_cons] at this
  simpa [closedL, aroundB] using this
theorem closed1_kids {k o : Int} {kids : Fo} {b : Int} (h6 : k ≠ 6) (h5 : k ≠ 5) (h : closedL 0 0 b kids = true) : closed1 k o kids b = true := by
  rw [closed1, closedL_any _ k 0 b h6, h]
  simp [freeB, h5]
theorem closed1_var {o b : Int} (h : o < b) : closed1 5 o .nil b = true := by
  simp [closed1, freeB, closedL]
  omega
theorem closed1_one {k o : Int} {t : List UInt8} {kids : Fo} {b : Int} (h : closed1 k o kids b = true) : closedL 0 0 b (.one k t kids o) = true := by
  rw [Fo.one, closedL_cons]
  simpa [closedL, aroundB] using h
theorem closed1_ex {k1 o1 k2 o2 : Int} {t1 t2 : List UInt8} {f1 f2 : Fo} {o b : Int} (h1 : closed1 k1 o1 f1 b = true) (h2 : closed1 k2 o2 f2 (b + 1) = true) : closed1 6 o (.cons k1 t1 f1 o1 (.cons k2 t2 f2 o2 .nil)) b = true := by
  rw [closed1, closedL_cons, closedL_cons]
  simp [aroundB, closedL, h1, h2, freeB]
theorem lenT_app (f g : Fo) (hf : lenT f) (hg : lenT g) : lenT (f.app g) := by
  induction f with
  | nil => exact hg
  | cons k t kids o r _ ih => exact ⟨hf.1, hf.2.1, ih hf.2.2⟩
/-- a variable has no arguments -/
def barV (k : Int) (kids : Fo) : Prop := k = 5 → kids = .nil
theorem bar_nil (k : Int) : barV k .nil := fun _ => rfl
theorem bar_ne {k : Int} {kids : Fo} (h : k ≠ 5) : barV k kids := fun e => absurd e h
/-- names are short, variables have no arguments -/
def lenG : Fo → Prop
  | .nil => True
  | .cons k t kids _ rest => (t.length ≤ 1048576 ∧ barV k kids) ∧ lenG kids ∧ lenG rest
theorem lenG_app (f g : Fo) (hf : lenG f) (hg : lenG g) : lenG (f.app g) := by
  induction f with
  | nil => exact hg
  | cons k t kids o r _ ih => exact ⟨hf.1, hf.2.1, ih hf.2.2⟩
theorem lenG_lenT (f : Fo) (h : lenG f) : lenT f := by
  induction f with
  | nil => trivial
  | cons k t kids o r ih1 ih2 => exact ⟨h.1.1, ih1 h.2.1, ih2 h.2.2⟩
end Go.Proofs.Ytpdigaankmgagaa.Sx

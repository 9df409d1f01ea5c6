/- Equal nodes, the offsets left aside. No condition. -/
import Derived.Test.YtpflfbfbjmoggaaDoorRt2
set_option linter.unusedVariables false
set_option linter.unusedSimpArgs false
namespace Go.Proofs.YtpflfbfbjmoggaaDoor.Sx

def eqF : Fo → Fo → Bool
  | .nil, .nil => true
  | .cons k t kids _ rest, .cons k' t' kids' _ rest' => (k == k' && t == t' && eqF kids kids') && eqF rest rest'
  | _, _ => false

theorem eqF_len (f : Fo) : ∀ g, eqF f g = true → f.len = g.len := by
  induction f with
  | nil => intro g h; cases g with | nil => rfl | cons => cases h
  | cons k t kids o rest _ ihr =>
    intro g h
    cases g with
    | nil => cases h
    | cons k' t' kids' o' rest' =>
      simp only [eqF, Bool.and_eq_true] at h
      simp only [Fo.len, ihr _ h.2]
theorem eqF_of_len {f g : Fo} (h : ¬ f.len = g.len) : eqF f g = false := by
  cases hh : eqF f g
  · rfl
  · exact absurd (eqF_len f g hh) h
theorem eqF_same (f : Fo) : ∀ g, sameF f g → eqF f g = true := by
  induction f with
  | nil => intro g h; cases g with | nil => rfl | cons => exact h.elim
  | cons k t kids o rest ihk ihr =>
    intro g h
    cases g with
    | nil => exact h.elim
    | cons k' t' kids' o' rest' =>
      obtain ⟨rfl, rfl, h1, h2⟩ := h
      simp [eqF, ihk _ h1, ihr _ h2]
theorem eqF_refl (f : Fo) : eqF f f = true := by
  induction f with
  | nil => rfl
  | cons k t kids o rest ihk ihr => simp [eqF, ihk, ihr]
theorem sameF_symm (f : Fo) : ∀ g, sameF f g → sameF g f := by
  induction f with
  | nil => intro g h; cases g with | nil => trivial | cons => exact h.elim
  | cons k t kids o rest ihk ihr =>
    intro g h
    cases g with
    | nil => exact h.elim
    | cons k' t' kids' o' rest' =>
      obtain ⟨rfl, rfl, h1, h2⟩ := h
      exact ⟨rfl, rfl, ihk _ h1, ihr _ h2⟩
/-- what Equal answers of two nodes -/
def eqN (k k' : Int) (t t' : List UInt8) (kids kids' : Fo) : Bool := k == k' && t == t' && eqF kids kids'
theorem eqN_k {k k' : Int} {t t' : List UInt8} {kids kids' : Fo} (h : ¬ k = k') : eqN k k' t t' kids kids' = false := by simp [eqN, h]
theorem eqN_t {k k' : Int} {t t' : List UInt8} {kids kids' : Fo} (h : ¬ t = t') : eqN k k' t t' kids kids' = false := by simp [eqN, h]
theorem eqN_l {k k' : Int} {t t' : List UInt8} {kids kids' : Fo} (h : ¬ kids.len = kids'.len) : eqN k k' t t' kids kids' = false := by simp [eqN, eqF_of_len h]
theorem eqN_rest (k : Int) (t : List UInt8) (kids kids' : Fo) : eqN k k t t kids kids' = eqF kids kids' := by simp [eqN]
theorem ba_ne {t t' : List UInt8} (h : ¬ t = t') : ¬ (ByteArray.mk t.toArray = ByteArray.mk t'.toArray) := fun e => h (by
  have := congrArg (fun b : ByteArray => b.data.toList) e
  simpa using this)
end Go.Proofs.YtpflfbfbjmoggaaDoor.Sx

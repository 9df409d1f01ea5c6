/- Which nodes can be written: the plain function, and what it says of a node's text. No condition. -/
import Derived.Test.YtpflfbfbjmoggaaDoorRt2
set_option linter.unusedVariables false
set_option linter.unusedSimpArgs false
namespace Go.Proofs.YtpflfbfbjmoggaaDoor.Sx

/-- a string's value that can be written -/
def okT (t : List UInt8) : Bool := decide (t.length ≤ 2000) && t.all (fun c => strB (c.toNat : Int))

def Fo.isNil : Fo → Bool
  | .nil => true
  | .cons .. => false

/-- can the nodes be written, room lists still allowed around one another -/
def validF : Nat → Fo → Bool
  | _, .nil => true
  | room, .cons k t kids _ rest => (if k = 1 then kids.isNil && okW t else if k = 2 then kids.isNil && okT t else if k = 3 then t.isEmpty && !decide (room = 0) && validF (room - 1) kids else false) && validF room rest
def valid1 (room : Nat) (k : Int) (t : List UInt8) (kids : Fo) : Bool :=
  if k = 1 then kids.isNil && okW t else if k = 2 then kids.isNil && okT t else if k = 3 then t.isEmpty && !decide (room = 0) && validF (room - 1) kids else false
theorem validF_cons (room : Nat) (k : Int) (t : List UInt8) (kids : Fo) (o : Int) (rest : Fo) : validF room (.cons k t kids o rest) = (valid1 room k t kids && validF room rest) := rfl
theorem validF_one (room : Nat) (k : Int) (t : List UInt8) (kids : Fo) (o : Int) : validF room (.one k t kids o) = valid1 room k t kids := by
  rw [Fo.one, validF_cons]; simp [validF]
theorem valid1_else {room : Nat} {k : Int} {t : List UInt8} {kids : Fo} (h1 : ¬ k = 1) (h2 : ¬ k = 2) (h3 : ¬ k = 3) : valid1 room k t kids = false := by
  rw [valid1, if_neg h1, if_neg h2, if_neg h3]
theorem valid1_list (room : Nat) (kids : Fo) : valid1 (room + 1) 3 [] kids = validF room kids := by simp [valid1]

/-- all texts are short and of printable bytes -/
def allS : Fo → Prop
  | .nil => True
  | .cons _ t kids _ rest => okS t = true ∧ allS kids ∧ allS rest

theorem okS_of_okW {t : List UInt8} (h : okW t = true) : okS t = true := by
  simp only [okW, okS, Bool.and_eq_true, List.all_eq_true, decide_eq_true_eq] at *
  refine ⟨fun c hc => ?_, h.2⟩
  have := h.1.2 c hc
  simp [wordB, letterB, digitB] at this
  simp [strB]
  omega
theorem okT_of_okS {t : List UInt8} (h : okS t = true) : okT t = true := by
  simp only [okS, okT, Bool.and_eq_true, List.all_eq_true, decide_eq_true_eq] at *
  exact ⟨by omega, h.1⟩

theorem allS_of_ok {W T : List (List UInt8)} (hW : ∀ u ∈ W, okW u = true) (hT : ∀ u ∈ T, okS u = true) {bad : Bool} (f : Fo) : ∀ d, okF W T bad d f → allS f := by
  induction f with
  | nil => intro d _; trivial
  | cons k t kids o rest ihk ihr =>
    intro d h
    obtain ⟨h1, h2⟩ := h
    have r := ihr d h2
    have e : okS [] = true := by decide
    rcases h1 with ⟨_, rfl, h | h⟩ | ⟨_, _, rfl, _, _, hk⟩ | ⟨_, _, ht, _, _, u, hu, rfl⟩ | ⟨_, _, ht, rfl⟩
    · exact ⟨okS_of_okW (hW _ h.2), trivial, r⟩
    · exact ⟨hT _ h.2, trivial, r⟩
    · exact ⟨e, ihk _ hk, r⟩
    · exact ⟨hT _ ht, ⟨okS_of_okW (hW _ hu), trivial, trivial⟩, r⟩
    · exact ⟨hT _ ht, trivial, r⟩

theorem vF_of_valid (f : Fo) : ∀ room, validF room f = true → allS f → vF f ∧ dep f ≤ room := by
  induction f with
  | nil => intro room _ _; exact ⟨trivial, Nat.zero_le _⟩
  | cons k t kids o rest ihk ihr =>
    intro room h hs
    rw [validF_cons, Bool.and_eq_true] at h
    obtain ⟨h1, h2⟩ := h
    obtain ⟨r1, r2⟩ := ihr room h2 hs.2.2
    have nil_of : kids.isNil = true → kids = .nil := fun h => by cases kids with
      | nil => rfl
      | cons => cases h
    by_cases k1 : k = 1
    · subst k1
      simp only [valid1, if_true, Bool.and_eq_true] at h1
      obtain rfl := nil_of h1.1
      exact ⟨⟨.inl ⟨rfl, rfl, h1.2⟩, r1⟩, by simp [dep]; exact r2⟩
    by_cases k2 : k = 2
    · subst k2
      simp only [valid1, show ¬ (2 : Int) = 1 from by decide, if_false, if_true, Bool.and_eq_true] at h1
      obtain rfl := nil_of h1.1
      exact ⟨⟨.inr (.inl ⟨rfl, rfl, hs.1⟩), r1⟩, by simp [dep]; exact r2⟩
    by_cases k3 : k = 3
    · subst k3
      simp only [valid1, show ¬ (3 : Int) = 1 from by decide, show ¬ (3 : Int) = 2 from by decide, if_false, if_true, Bool.and_eq_true, Bool.not_eq_true', decide_eq_false_iff_not] at h1
      obtain ⟨a1, a2⟩ := ihk _ h1.2 hs.2.1
      have ht : t = [] := by simpa using h1.1.1
      exact ⟨⟨.inr (.inr ⟨rfl, ht, a1⟩), r1⟩, by have := h1.1.2; simp only [dep, if_true]; omega⟩
    · rw [valid1_else k1 k2 k3] at h1; cases h1

theorem len_of_vF (f : Fo) : ∀ p, vF f → (fmtF p f).length ≤ 52 * fsize f := by
  induction f with
  | nil => intro p _; simp [fmtF]
  | cons k t kids o rest ihk ihr =>
    intro p h
    obtain ⟨h1, h2⟩ := h
    have r := ihr true h2
    have hq := escT_len t
    have hp : (if p then [32] else ([] : List UInt8)).length ≤ 1 := by cases p <;> simp
    have h3 : (fmt1 k t (fmtF false kids)).length ≤ 52 * fsize kids + 51 := by
      rcases h1 with ⟨rfl, rfl, hw⟩ | ⟨rfl, rfl, hs⟩ | ⟨rfl, rfl, hk⟩
      · have := okW_len hw
        simp [fmt1]; omega
      · have := okS_len hs
        simp [fmt1, quoteB]; omega
      · have := ihk false hk
        simp [fmt1]; omega
    simp only [fmtF, List.length_append, fsize]
    omega

/-- a node inside j lists -/
def wrapF : Nat → Fo → Fo
  | 0, f => f
  | j + 1, f => .one 3 [] (wrapF j f) 0
theorem wrapF_size (j : Nat) (f : Fo) : fsize (wrapF j f) = fsize f + j := by
  induction j with
  | zero => rfl
  | succ j ih => simp only [wrapF, Fo.one, fsize, ih]; omega
theorem wrapF_allS (j : Nat) (f : Fo) (h : allS f) : allS (wrapF j f) := by
  induction j with
  | zero => exact h
  | succ j ih => exact ⟨by decide, ih, trivial⟩
end Go.Proofs.YtpflfbfbjmoggaaDoor.Sx

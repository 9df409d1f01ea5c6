/- The plain functions of layer 1's specification: lists of nodes, and what a text is read as. No condition. -/
import Derived.Test.YtpdigaankmgagaaSx
set_option linter.unusedVariables false
set_option linter.unusedSimpArgs false
namespace Go.Proofs.Ytpdigaankmgagaa.Sx

/-- A list of nodes: kind, text, children, offset, the nodes behind it. -/
inductive Fo where
  | nil
  | cons (k : Int) (t : List UInt8) (kids : Fo) (o : Int) (rest : Fo)

def Fo.len : Fo → Nat
  | .nil => 0
  | .cons _ _ _ _ r => r.len + 1
def Fo.app : Fo → Fo → Fo
  | .nil, g => g
  | .cons k t kids o r, g => .cons k t kids o (r.app g)
def Fo.one (k : Int) (t : List UInt8) (kids : Fo) (o : Int) : Fo := .cons k t kids o .nil

theorem Fo.app_nil (f : Fo) : f.app .nil = f := by
  induction f with
  | nil => rfl
  | cons k t kids o r _ ih => simp [Fo.app, ih]
theorem Fo.app_app (f g h : Fo) : (f.app g).app h = f.app (g.app h) := by
  induction f with
  | nil => rfl
  | cons k t kids o r _ ih => simp [Fo.app, ih]
theorem Fo.len_app (f g : Fo) : (f.app g).len = f.len + g.len := by
  induction f with
  | nil => simp [Fo.app, Fo.len]
  | cons k t kids o r _ ih => simp [Fo.app, Fo.len, ih]; omega

inductive Res where
  | bad (kind : Int) (at_ : Nat)
  | ok (ns : Fo) (pos : Nat)

def Res.pre (acc : Fo) : Res → Res
  | .bad k a => .bad k a
  | .ok ns p => .ok (acc.app ns) p

/-- The nodes from position p on (r: what is left of the text there), 'open_' lists being open. -/
def elems : Nat → Nat → Nat → List UInt8 → Res
  | 0, _, _, _ => .bad 2 0
  | f + 1, open_, p0, r0 =>
    match r0.drop (skipN false r0) with
    | [] => if 0 < open_ then .bad 2 (p0 + skipN false r0) else .ok .nil (p0 + skipN false r0)
    | c :: r =>
      if wordB c.toNat then
        (if 24 < wordN (c :: r) then .bad 4 (p0 + skipN false r0)
         else (elems f open_ (p0 + skipN false r0 + wordN (c :: r)) ((c :: r).drop (wordN (c :: r)))).pre (.one 1 ((c :: r).take (wordN (c :: r))) .nil (p0 + skipN false r0 : Nat)))
      else if (c.toNat : Int) = 34 then
        (match quot (r.length + 1) r with
         | .bad k => .bad 2 (p0 + skipN false r0 + 1 + k)
         | .ok t n => if 2000 < t.length then .bad 4 (p0 + skipN false r0)
           else (elems f open_ (p0 + skipN false r0 + 1 + n) (r.drop n)).pre (.one 2 t .nil (p0 + skipN false r0 : Nat)))
      else if (c.toNat : Int) = 40 then
        (if 40 < open_ + 1 then .bad 9 (p0 + skipN false r0)
         else match elems f (open_ + 1) (p0 + skipN false r0 + 1) r with
          | .bad k a => .bad k a
          | .ok kids q => (elems f open_ (q + 1) (r.drop (q - (p0 + skipN false r0)))).pre (.one 3 [] kids (p0 + skipN false r0 : Nat)))
      else if (c.toNat : Int) = 41 ∧ 0 < open_ then .ok .nil (p0 + skipN false r0)
      else .bad 2 (p0 + skipN false r0)

theorem Res.pre_nil (r : Res) : r.pre .nil = r := by cases r <;> rfl
theorem Res.pre_pre (a b : Fo) (r : Res) : (r.pre a).pre b = r.pre (b.app a) := by
  cases r <;> simp [Res.pre, Fo.app_app]

section
variable {f o p0 p1 : Nat} {r0 r : List UInt8} {c : UInt8}
theorem elems_nil (hp : p0 + skipN false r0 = p1) (h : r0.drop (skipN false r0) = []) : elems (f + 1) o p0 r0 = if 0 < o then .bad 2 p1 else .ok .nil p1 := by
  rw [elems, h, hp]
theorem elems_word (hp : p0 + skipN false r0 = p1) (h : r0.drop (skipN false r0) = c :: r) (hw : wordB c.toNat = true) :
    elems (f + 1) o p0 r0 = if 24 < wordN (c :: r) then .bad 4 p1 else (elems f o (p1 + wordN (c :: r)) ((c :: r).drop (wordN (c :: r)))).pre (.one 1 ((c :: r).take (wordN (c :: r))) .nil (p1 : Nat)) := by
  rw [elems, h, hp]
  simp only [hw, if_true]
theorem elems_str (hp : p0 + skipN false r0 = p1) (h : r0.drop (skipN false r0) = c :: r) (hw : wordB c.toNat = false) (h34 : ((c.toNat : Int) == 34) = true) :
    elems (f + 1) o p0 r0 = match quot (r.length + 1) r with
         | .bad k => .bad 2 (p1 + 1 + k)
         | .ok t n => if 2000 < t.length then .bad 4 p1
           else (elems f o (p1 + 1 + n) (r.drop n)).pre (.one 2 t .nil (p1 : Nat)) := by
  rw [elems, h, hp]
  have h34' : (c.toNat : Int) = 34 := by simpa using h34
  dsimp only
  rw [if_neg (by simp [hw]), if_pos h34']
theorem elems_list (hp : p0 + skipN false r0 = p1) (h : r0.drop (skipN false r0) = c :: r) (h40 : ((c.toNat : Int) == 40) = true) :
    elems (f + 1) o p0 r0 = if 40 < o + 1 then .bad 9 p1
         else match elems f (o + 1) (p1 + 1) r with
          | .bad k a => .bad k a
          | .ok kids q => (elems f o (q + 1) (r.drop (q - p1))).pre (.one 3 [] kids (p1 : Nat)) := by
  have h40' : (c.toNat : Int) = 40 := by simpa using h40
  rw [elems, h, hp]
  simp only [h40', if_true, show wordB 40 = false from by decide, Bool.false_eq_true, if_false, show ¬ ((40 : Int) = 34) from by decide]
theorem elems_close (hp : p0 + skipN false r0 = p1) (h : r0.drop (skipN false r0) = c :: r) (h41 : ((c.toNat : Int) == 41) = true) (ho : 0 < o) :
    elems (f + 1) o p0 r0 = .ok .nil p1 := by
  have h41' : (c.toNat : Int) = 41 := by simpa using h41
  rw [elems, h, hp]
  simp [h41', show wordB 41 = false from by decide, ho]
theorem elems_else (hp : p0 + skipN false r0 = p1) (h : r0.drop (skipN false r0) = c :: r) (hw : wordB c.toNat = false) (h34 : ((c.toNat : Int) == 34) = false) (h40 : ((c.toNat : Int) == 40) = false) (h41 : ((c.toNat : Int) == 41) = false ∨ o = 0) :
    elems (f + 1) o p0 r0 = .bad 2 p1 := by
  rw [elems, h, hp]
  have h34' : ¬ (c.toNat : Int) = 34 := by simpa using h34
  have h40' : ¬ (c.toNat : Int) = 40 := by simpa using h40
  have h41' : ¬ ((c.toNat : Int) = 41 ∧ 0 < o) := by
    rcases h41 with h | h
    · have : ¬ (c.toNat : Int) = 41 := by simpa using h
      exact fun e => this e.1
    · omega
  simp only [hw, h34', h40', h41', Bool.false_eq_true, if_false]
end

theorem wordN_pos {c : UInt8} {r : List UInt8} (h : wordB c.toNat = true) : 1 ≤ wordN (c :: r) := by rw [wordN_yes h]; omega

/-- where reading ends: within the text; at a closing parenthesis if a list is open; and no more nodes than bytes -/
theorem elems_pos (f : Nat) : ∀ (o p : Nat) (r : List UInt8) (ns : Fo) (q : Nat), elems f o p r = .ok ns q → p ≤ q ∧ q ≤ p + r.length ∧ (0 < o → q < p + r.length) ∧ ns.len ≤ q - p := by
  induction f with
  | zero => intro o p r ns q h; simp [elems] at h
  | succ f ih =>
    intro o p r ns q h
    have hsk := skipN_le false r
    have hlen : (r.drop (skipN false r)).length = r.length - skipN false r := List.length_drop
    rcases hr : r.drop (skipN false r) with _ | ⟨c, r2⟩
    · rw [elems_nil rfl hr] at h
      rw [hr, List.length_nil] at hlen
      split at h
      · cases h
      · simp only [Res.ok.injEq] at h
        obtain ⟨rfl, rfl⟩ := h
        exact ⟨by omega, by omega, by omega, by simp [Fo.len]⟩
    · rw [hr, List.length_cons] at hlen
      cases hw : wordB c.toNat with
      | true =>
        rw [elems_word rfl hr hw] at h
        have h1 := wordN_pos (r := r2) hw
        have h2 := wordN_le (c :: r2)
        rw [List.length_cons] at h2
        split at h
        · cases h
        · rcases he : elems f o (p + skipN false r + wordN (c :: r2)) ((c :: r2).drop (wordN (c :: r2))) with _ | ⟨ns', q'⟩
          · rw [he] at h; cases h
          · rw [he] at h
            simp only [Res.pre, Res.ok.injEq] at h
            obtain ⟨rfl, rfl⟩ := h
            obtain ⟨a1, a2, a3, a4⟩ := ih _ _ _ _ _ he
            rw [List.length_drop, List.length_cons] at a2 a3
            simp only [Fo.len_app, Fo.one, Fo.len]
            exact ⟨by omega, by omega, fun h => by have := a3 h; omega, by omega⟩
      | false =>
        cases h34 : ((c.toNat : Int) == 34) with
        | true =>
          rw [elems_str rfl hr hw h34] at h
          rcases hq : quot (r2.length + 1) r2 with k | ⟨t, n⟩
          · rw [hq] at h; cases h
          · rw [hq] at h
            have h3 := quot_len _ _ _ _ hq
            dsimp only at h
            split at h
            · cases h
            · rcases he : elems f o (p + skipN false r + 1 + n) (r2.drop n) with _ | ⟨ns', q'⟩
              · rw [he] at h; cases h
              · rw [he] at h
                simp only [Res.pre, Res.ok.injEq] at h
                obtain ⟨rfl, rfl⟩ := h
                obtain ⟨a1, a2, a3, a4⟩ := ih _ _ _ _ _ he
                rw [List.length_drop] at a2 a3
                simp only [Fo.len_app, Fo.one, Fo.len]
                exact ⟨by omega, by omega, fun h => by have := a3 h; omega, by omega⟩
        | false =>
          cases h40 : ((c.toNat : Int) == 40) with
          | true =>
            rw [elems_list rfl hr h40] at h
            split at h
            · cases h
            · rcases hk : elems f (o + 1) (p + skipN false r + 1) r2 with _ | ⟨kids, q1⟩
              · rw [hk] at h; cases h
              · rw [hk] at h
                dsimp only at h
                obtain ⟨k1, k2, k3, k4⟩ := ih _ _ _ _ _ hk
                have k3' := k3 (by omega)
                rcases he : elems f o (q1 + 1) (r2.drop (q1 - (p + skipN false r))) with _ | ⟨ns', q'⟩
                · rw [he] at h; cases h
                · rw [he] at h
                  simp only [Res.pre, Res.ok.injEq] at h
                  obtain ⟨rfl, rfl⟩ := h
                  obtain ⟨a1, a2, a3, a4⟩ := ih _ _ _ _ _ he
                  rw [List.length_drop] at a2 a3
                  simp only [Fo.len_app, Fo.one, Fo.len]
                  exact ⟨by omega, by omega, fun h => by have := a3 h; omega, by omega⟩
          | false =>
            by_cases h41 : ((c.toNat : Int) == 41) = true ∧ 0 < o
            · rw [elems_close rfl hr h41.1 h41.2] at h
              simp only [Res.ok.injEq] at h
              obtain ⟨rfl, rfl⟩ := h
              exact ⟨by omega, by omega, by omega, by simp [Fo.len]⟩
            · rw [elems_else rfl hr hw h34 h40 (by
                cases h5 : ((c.toNat : Int) == 41) with
                | true => exact .inr (by have : ¬ 0 < o := fun h => h41 ⟨h5, h⟩; omega)
                | false => exact .inl rfl)] at h
              cases h

theorem elems_kind (f : Nat) : ∀ (o p : Nat) (r : List UInt8) (k : Int) (a : Nat), elems f o p r = .bad k a → k = 2 ∨ k = 4 ∨ k = 9 := by
  induction f with
  | zero => intro o p r k a h; simp [elems] at h; exact .inl h.1.symm
  | succ f ih =>
    intro o p r k a h
    have hpre : ∀ (acc : Fo) (o p : Nat) (r : List UInt8), (elems f o p r).pre acc = .bad k a → k = 2 ∨ k = 4 ∨ k = 9 := by
      intro acc o p r h
      rcases he : elems f o p r with ⟨k', a'⟩ | ⟨ns, q⟩
      · rw [he] at h
        simp only [Res.pre, Res.bad.injEq] at h
        exact ih _ _ _ _ _ (by rw [he, h.1, h.2])
      · rw [he] at h; cases h
    rcases hr : r.drop (skipN false r) with _ | ⟨c, r2⟩
    · rw [elems_nil rfl hr] at h
      split at h
      · simp only [Res.bad.injEq] at h; exact .inl h.1.symm
      · cases h
    · cases hw : wordB c.toNat with
      | true =>
        rw [elems_word rfl hr hw] at h
        split at h
        · simp only [Res.bad.injEq] at h; exact .inr (.inl h.1.symm)
        · exact hpre _ _ _ _ h
      | false =>
        cases h34 : ((c.toNat : Int) == 34) with
        | true =>
          rw [elems_str rfl hr hw h34] at h
          rcases hq : quot (r2.length + 1) r2 with k' | ⟨t, n⟩
          · rw [hq] at h; simp only [Res.bad.injEq] at h; exact .inl h.1.symm
          · rw [hq] at h
            dsimp only at h
            split at h
            · simp only [Res.bad.injEq] at h; exact .inr (.inl h.1.symm)
            · exact hpre _ _ _ _ h
        | false =>
          cases h40 : ((c.toNat : Int) == 40) with
          | true =>
            rw [elems_list rfl hr h40] at h
            split at h
            · simp only [Res.bad.injEq] at h; exact .inr (.inr h.1.symm)
            · rcases hk : elems f (o + 1) (p + skipN false r + 1) r2 with ⟨k', a'⟩ | ⟨kids, q1⟩
              · rw [hk] at h
                simp only [Res.bad.injEq] at h
                exact ih _ _ _ _ _ (by rw [hk, h.1, h.2])
              · rw [hk] at h
                exact hpre _ _ _ _ h
          | false =>
            by_cases h41 : ((c.toNat : Int) == 41) = true ∧ 0 < o
            · rw [elems_close rfl hr h41.1 h41.2] at h; cases h
            · rw [elems_else rfl hr hw h34 h40 (by
                cases h5 : ((c.toNat : Int) == 41) with
                | true => exact .inr (by have : ¬ 0 < o := fun h => h41 ⟨h5, h⟩; omega)
                | false => exact .inl rfl)] at h
              simp only [Res.bad.injEq] at h
              exact .inl h.1.symm

def parseR (l : List UInt8) : Res := if 65536 < l.length then .bad 4 0 else elems (l.length + 1) 0 0 l

end Go.Proofs.Ytpdigaankmgagaa.Sx

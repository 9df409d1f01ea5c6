/- typeterm.collectFree: the free variables of a term, in the order of their occurrences. No condition but a bounded size. What telref1's readers of a term answer, as pure functions: the same as typeterm's. No condition. A slice that reads as integers, cell by cell; blocks of the call's own. No condition. Terms in memory that may share blocks, appended one by one. No condition. -/
import Derived.Test.YtpkiheenkpcebaaGreatDoorMab
import Derived.OwnWalk
import Derived.Maps.AppendAt
import Derived.Test.YtpkiheenkpcebaaGreatDoorMae
import Derived.Test.YtpkiheenkpcebaaGreatDoorMac
set_option linter.unusedVariables false
set_option linter.unusedSimpArgs false
namespace Go.Proofs.YtpkiheenkpcebaaGreatDoor.Sx
open Go.RowKit
/-- the free variables of the arguments r (from argument i on) of a node of kind pk, counted from b bodies -/
def freeL (pk : Int) : Nat → Int → Fo → List Int
  | _, _, .nil => []
  | i, b, .cons k _ kids o rest => ((if freeB k o (aroundB pk i b) then [wrap64 (o - aroundB pk i b)] else []) ++ freeL k 0 (aroundB pk i b) kids) ++ freeL pk (i + 1) b rest
def free1 (k o : Int) (kids : Fo) (b : Int) : List Int := (if freeB k o b then [wrap64 (o - b)] else []) ++ freeL k 0 b kids
theorem freeL_cons (pk : Int) (i : Nat) (b k : Int) (t : List UInt8) (kids : Fo) (o : Int) (rest : Fo) : freeL pk i b (.cons k t kids o rest) = free1 k o kids (aroundB pk i b) ++ freeL pk (i + 1) b rest := rfl
theorem freeL_len (f : Fo) : ∀ (pk : Int) (i : Nat) (b : Int), (freeL pk i b f).length ≤ fsize f := by
  induction f with
  | nil => intro pk i b; simp [freeL]
  | cons k t kids o r ih1 ih2 =>
    intro pk i b
    have h1 := ih1 k 0 (aroundB pk i b)
    have h2 := ih2 pk (i + 1) b
    simp only [freeL, List.length_append, fsize]
    split <;> simp <;> omega
end Go.Proofs.YtpkiheenkpcebaaGreatDoor.Sx
namespace Go.Proofs.YtpkiheenkpcebaaGreatDoor
open Go.RowKit Sx

/-- block b is a set of integers that holds l; v is its row -/
def SA (B b : Nat) (v : Value) (l : List Int) (w : World) : Prop :=
  w.heap[b]? = some (.cells #[v] 173 (0, 0)) ∧ w.ownsRow B 3 1 v l.length (l.map (Value.int .i64)) ∧ v.ownBlock ≠ some b ∧ B ≤ b

/-- from one world with its set to a later one: all blocks but the set's and its row are as they were -/
structure Kq (b : Nat) (v v' : Value) (w w' : World) : Prop where
  os : w'.os = w.os
  tape : w'.tape = w.tape
  output : w'.output = w.output
  size : w.heap.size ≤ w'.heap.size
  block : ∀ x, x < w.heap.size → x ≠ b → v.ownBlock ≠ some x → w'.heap[x]? = w.heap[x]?
  own : v'.ownBlock = v.ownBlock ∨ ∃ g, w.heap.size ≤ g ∧ v'.ownBlock = some g
theorem Kq.refl (b : Nat) (v : Value) (w : World) : Kq b v v w w := ⟨rfl, rfl, rfl, Nat.le_refl _, fun _ _ _ _ => rfl, .inl rfl⟩
theorem Kq.trans {b : Nat} {v v' v'' : Value} {w w' w'' : World} (h : Kq b v v' w w') (k : Kq b v' v'' w' w'') : Kq b v v'' w w'' := by
  refine ⟨k.os.trans h.os, k.tape.trans h.tape, k.output.trans h.output, Nat.le_trans h.size k.size, fun x hx hb hv => ?_, ?_⟩
  · refine (k.block x (Nat.lt_of_lt_of_le hx h.size) hb ?_).trans (h.block x hx hb hv)
    rcases h.own with e | ⟨g, hg, e⟩
    · rw [e]; exact hv
    · rw [e]; intro e'; cases e'; omega
  · rcases k.own with e | ⟨g, hg, e⟩
    · rcases h.own with e2 | ⟨g, hg, e2⟩
      · exact .inl (e.trans e2)
      · exact .inr ⟨g, hg, e.trans e2⟩
    · exact .inr ⟨g, Nat.le_trans h.size hg, e⟩
theorem Kq.bh {b : Nat} {v : Value} {w w' : World} (h : BH w w') : Kq b v v w w' := ⟨Below.os h, Below.tape h, Below.output h, Below.size h, fun x hx _ _ => Below.block h x hx, .inl rfl⟩
theorem Kq.below {B b : Nat} {v v' : Value} {w w' : World} {l : List Int} (h : Kq b v v' w w') (hB : SA B b v l w) (hBw : B ≤ w.heap.size) : Below B w w' :=
  ⟨h.os, h.tape, h.output, h.size, fun x hx => h.block x (by omega) (by have := hB.2.2.2; omega) (fun e => by have := (hB.2.1.lt x e).1; omega)⟩
theorem SA.bh {B b : Nat} {v : Value} {l : List Int} {w w' : World} (h : SA B b v l w) (hb : BH w w') : SA B b v l w' :=
  ⟨(Below.block hb b (heap_lt h.1)).trans h.1, h.2.1.kept (gb_below hb none) (by
    cases hv : v.ownBlock with
    | none => exact .inl rfl
    | some x => exact .inr (by simp)), h.2.2⟩
theorem SA.lt {B b : Nat} {v : Value} {l : List Int} {w : World} (h : SA B b v l w) : b < w.heap.size := heap_lt h.1
/-- a block of the call's own stands through what the set does -/
theorem Kq.keep {B b : Nat} {v v' : Value} {l : List Int} {w w' : World} (h : Kq b v v' w w') {x : Nat} {ob : Obj} (hx : w.heap[x]? = some ob) (hb : x ≠ b) (hv : v.ownBlock ≠ some x) : w'.heap[x]? = some ob := (h.block x (heap_lt hx) hb hv).trans hx

theorem infoInt : (Tryz.prog.info? 3).map (fun i => (i.zero, i.size, i.bytes)) = some (some (.int .i64 0), 1, 8) := by kernel_rfl

set_option maxHeartbeats 2000000 in
theorem add_any (B b : Nat) (v : Value) (l : List Int) (x : Int) (w : World) (h : SA B b v l w) (hlen : l.length ≤ 8796093022208) (hBw : B ≤ w.heap.size) :
    Calls Tryz.prog 186 #[.pointer (some ⟨b, 0, none⟩), .int .i64 x] w fun e w' => ∃ v', e = .returned (.tuple #[]) ∧ SA B b v' (l ++ [x]) w' ∧ Kq b v v' w w' := by
  obtain ⟨i0, hi, hz0, hz1, hz2⟩ := info_parts infoInt
  obtain ⟨hbk, hown, hne, hBb⟩ := id h
  obtain ⟨A5, c5, rfl, hc5⟩ := own_shape hown
  obtain ⟨c0, f0⟩ := row1 hbk
  have hlt := heap_lt hbk
  have H := Lib.hid h
  clear h
  go_enter Tryz.func186, Tryz.ntmps186
  go_wp2_with (at_builtin; go_loud (refine wpList_append_own_at _ rfl _ _ 42 rfl B 3 i0 (.int .i64 0) 1 8 Tryz.underlying42 hi hz0 hz1 hz2 rfl (by decide) _ _ _ rfl (World.ownsRow.alloc (by exact hown) _) ⟨w.heap.size, 0, none⟩ 1 1 [.int .i64 x] rfl rfl ?a1 ?a2 ?a3 ?a4 ?a5 ?_))
  case a1 => exact cells_new _ [_] _
  case a2 => intro u hu; simp at hu; subst hu; rfl
  case a3 => unfold maxLen; omega
  case a4 => omega
  case a5 => simp; omega
  intro v' w2 hown' hgrow _ hat
  obtain ⟨A6, c6, rfl, hc6⟩ := own_shape hown'
  have hgr : (w.alloc (.cells #[.int .i64 x] 3)).grownBy w2 (Value.slice A5 l.length c5).ownBlock := ⟨hgrow.os, hgrow.tape, hgrow.output, hgrow.size, hgrow.block⟩
  have hb2 : w2.heap[b]? = some (.cells #[.slice A5 l.length c5] 173 (0, 0)) := (hgr.block b (by simp; omega) (fun e => hne e.symm)).trans ((Below.heap_alloc w _ b hlt).trans hbk)
  obtain ⟨d0, f1⟩ := row1 hb2
  have HO := Lib.hid hown'
  have HA := Lib.hid hat
  have HG := Lib.hid hgr
  have HB2 := Lib.hid hb2
  clear hown' hat hgr hgrow hb2 hown hbk hne c0 f0
  go_wp2
  go_end0
  have hs2 := HG.out.size
  simp only [World.size_alloc] at hs2
  have hne' : (Value.slice A6 (l.length + 1) c6).ownBlock ≠ some b := by
    rcases HA.out with e | e
    · rw [e]; exact H.out.2.2.1
    · rw [e]; simp; omega
  refine ⟨_, rfl, ⟨heap_set (i := 0) HB2.out _, ?_, hne', hBb⟩, ?_⟩
  · have := HO.out.kept (row := some b) (gb_setCell (p := ⟨b, 0, none⟩) (World.grownBy.refl _ _) (.inl rfl) (Value.slice A6 (l.length + 1) c6)) (.inr hne')
    simpa using this
  · refine ⟨HG.out.os, HG.out.tape, HG.out.output, by simp [size_set]; omega, fun y hy hyb hyv => ?_, ?_⟩
    · exact (heap_far hyb _).trans ((HG.out.block y (by simp; omega) (fun e => hyv e.symm)).trans (Below.heap_alloc w _ y hy))
    · rcases HA.out with e | e
      · exact .inl e
      · exact .inr ⟨_, by simp, e⟩
end Go.Proofs.YtpkiheenkpcebaaGreatDoor
namespace Go.Proofs.YtpkiheenkpcebaaGreatDoor.Sx
open Go.RowKit
/-- n in its place of a sorted row -/
def insI : List Int → Int → List Int
  | [], n => [n]
  | x :: r, n => if x < n then x :: insI r n else if x = n then x :: r else n :: x :: r
def insA (l xs : List Int) : List Int := xs.foldl insI l
theorem insI_ne (l : List Int) (n : Int) : insI l n ≠ [] := by
  cases l with
  | nil => simp [insI]
  | cons x r =>
    simp only [insI]
    split
    · simp
    · split <;> simp
theorem insI_len (l : List Int) (n : Int) : (insI l n).length ≤ l.length + 1 := by
  induction l with
  | nil => simp [insI]
  | cons x r ih =>
    simp only [insI]
    split
    · simp; omega
    · split <;> simp
theorem insA_len (xs : List Int) : ∀ l, (insA l xs).length ≤ l.length + xs.length := by
  induction xs with
  | nil => intro l; simp [insA]
  | cons x xs ih =>
    intro l
    have h1 := ih (insI l x)
    have h2 := insI_len l x
    simp only [insA, List.foldl_cons, List.length_cons] at *
    omega
theorem insA_ne (xs : List Int) : ∀ l, l ≠ [] → insA l xs ≠ [] := by
  induction xs with
  | nil => intro l h; exact h
  | cons x xs ih => intro l h; exact ih _ (insI_ne l x)
theorem insA_nil (xs : List Int) : (insA [] xs = []) ↔ xs = [] := by
  cases xs with
  | nil => simp [insA]
  | cons x xs => simp only [reduceCtorEq, iff_false]; exact insA_ne xs _ (insI_ne _ _)
theorem insA_app (l xs ys : List Int) : insA l (xs ++ ys) = insA (insA l xs) ys := by simp [insA]
/-- the place that the search finds -/
theorem insI_at (l : List Int) (n : Int) : ∀ k, k ≤ l.length → (∀ j, j < k → l.getD j 0 < n) → (k = l.length ∨ ¬ l.getD k 0 < n) → insI l n = if k < l.length ∧ l.getD k 0 = n then l else l.take k ++ n :: l.drop k := by
  induction l with
  | nil =>
    intro k hk _ _
    obtain rfl : k = 0 := by simpa using hk
    simp [insI]
  | cons x r ih =>
    intro k hk hlo hat
    cases k with
    | zero =>
      have h : ¬ x < n := by
        rcases hat with h | h
        · simp at h
        · simpa using h
      simp only [insI, if_neg h]
      by_cases hx : x = n
      · simp [hx]
      · simp [hx]
    | succ k =>
      have h0 : x < n := by simpa using hlo 0 (by omega)
      have := ih k (by simpa using hk) (fun j hj => by simpa using hlo (j + 1) (by omega)) (by
        rcases hat with h | h
        · left; simpa using h
        · right; simpa using h)
      simp only [insI, if_pos h0, this]
      by_cases hc : k < r.length ∧ r.getD k 0 = n
      · rw [if_pos hc, if_pos (by simpa using hc)]
      · rw [if_neg hc, if_neg (by simpa using hc)]
        simp

theorem free_nil (f : Fo) : ∀ pk i b, (freeL pk i b f = []) ↔ closedL pk i b f = true := by
  induction f with
  | nil => intro pk i b; simp [freeL, closedL]
  | cons k t kids o r ih1 ih2 =>
    intro pk i b
    simp only [freeL, closedL, List.append_eq_nil_iff, Bool.and_eq_true, ih1, ih2]
    cases freeB k o (aroundB pk i b) <;> simp
theorem free1_nil (k o : Int) (kids : Fo) (b : Int) : free1 k o kids b = [] ↔ closed1 k o kids b = true := by
  unfold free1 closed1
  simp only [List.append_eq_nil_iff, Bool.and_eq_true, free_nil]
  cases freeB k o b <;> simp
theorem free1_len (k o : Int) (kids : Fo) (b : Int) : (free1 k o kids b).length ≤ fsize kids + 1 := by
  have h5 := freeL_len kids k 0 b
  simp only [free1, List.length_append]
  split <;> simp <;> omega
theorem closedL_plain (f : Fo) : ∀ pk i, pk ≠ 6 → closedL pk i 0 f = true → plainL f = true := by
  induction f with
  | nil => intros; rfl
  | cons k t kids o r ih1 ih2 =>
    intro pk i hpk h
    have ha : aroundB pk i 0 = 0 := by simp [aroundB, hpk]
    rw [closedL_cons, ha, Bool.and_eq_true] at h
    rw [plainL_cons, Bool.and_eq_true]
    refine ⟨?_, ih2 pk (i + 1) hpk h.2⟩
    unfold plain1
    split
    · rfl
    · split
      · rename_i _ h2
        subst h2
        have h1 := h.1
        unfold closed1 at h1
        simp only [Bool.and_eq_true] at h1
        exact ih1 2 0 (by decide) h1.2
      · exact h.1
theorem closed_plain1 {k o : Int} {kids : Fo} (h : closed1 k o kids 0 = true) : plain1 k o kids = true := by
  unfold plain1
  split
  · rfl
  · split
    · rename_i _ h2
      subst h2
      unfold closed1 at h
      simp only [Bool.and_eq_true] at h
      exact closedL_plain kids 2 0 (by decide) h.2
    · exact h
/-- what Validate answers, told by the two sizes -/
theorem validV_eq (k : Int) (t : List UInt8) (o : Int) (kids : Fo) : validV k t o kids = if 200 < (fsize kids : Int) + 1 ∨ 12 < (depT kids : Int) + 1 then 4 else if validT k t o kids then 0 else 2 := by
  unfold validV spendV
  by_cases h : (fsize kids : Int) + 1 ≤ 200 ∧ (depT kids : Int) + 1 ≤ 12
  · rw [if_pos h, if_neg (show ¬ (200 - 1 - (fsize kids : Int) < 0) by omega), if_neg (show ¬ (200 < (fsize kids : Int) + 1 ∨ 12 < (depT kids : Int) + 1) by omega)]
  · rw [if_neg h, if_pos (by decide), if_pos (show (200 < (fsize kids : Int) + 1 ∨ 12 < (depT kids : Int) + 1) by omega)]
end Go.Proofs.YtpkiheenkpcebaaGreatDoor.Sx
namespace Go.Proofs.YtpkiheenkpcebaaGreatDoor
open Go.RowKit Sx

theorem Cel.int_at {w : World} {A : Option Addr} {l : List Int} {c k : Nat} (h : Cel w 1 A l.length c (l.map (Value.int .i64))) (hk : k < l.length) :
    ∃ g off : Nat, A = some ⟨g, off, none⟩ ∧ g < w.heap.size ∧ w.cell? ⟨g, off + k, none⟩ = some (.int .i64 (l.getD k 0)) := by
  obtain ⟨_, _, _, _, h5⟩ := h
  obtain ⟨g, off, e, hg, hc⟩ := h5 (by omega)
  exact ⟨g, off, e, hg, hc k _ (by simp [hk])⟩
theorem one_cell (l : List Int) : ∀ u ∈ l.map (Value.int .i64), u.oneCell' = true := by
  intro u hu
  obtain ⟨x, _, rfl⟩ := List.mem_map.1 hu
  rfl

theorem bh_alloc {w X : World} (h : BH w X) (o : Obj) : BH w (X.alloc o) := Below.alloc h (Below.size h) o
theorem bh_own {w X Y : World} {row : Option Nat} (h : BH w X) (k : X.grownBy Y row) (hr : ∀ q, row = some q → w.heap.size ≤ q) : BH w Y :=
  ⟨k.os.trans (Below.os h), k.tape.trans (Below.tape h), k.output.trans (Below.output h), Nat.le_trans (Below.size h) k.size,
   fun i hi => (k.block i (Nat.lt_of_lt_of_le hi (Below.size h)) (fun e => by have := hr i e.symm; omega)).trans (Below.block h i hi)⟩
end Go.Proofs.YtpkiheenkpcebaaGreatDoor
namespace Go.Proofs.YtpkiheenkpcebaaGreatDoor
open Go.RowKit Sx

/-- the slice (A, f.len, c) reads as the terms f, in blocks of S -/
def KS (w : World) (S : Nat → Prop) (f : Fo) (A : Option Addr) (c : Nat) : Prop := f.len ≤ c ∧ ∃ ys, readsAt w S A f.len ys ∧ rowT w S f ys
theorem KS.keep {w w' : World} {S S' : Nat → Prop} {f : Fo} {A : Option Addr} {c : Nat} (h : KS w S f A c) (hs : w.heap.size ≤ w'.heap.size) (hk : ∀ x, S x → x < w.heap.size → w'.heap[x]? = w.heap[x]? ∧ S' x) : KS w' S' f A c := by
  obtain ⟨hc, ys, h1, h2⟩ := h
  exact ⟨hc, ys, h1.keep hs hk, h2.keep hs hk _⟩
theorem KS.bh {w w' : World} {S : Nat → Prop} {f : Fo} {A : Option Addr} {c : Nat} (h : KS w S f A c) (hb : BH w w') : KS w' S f A c := h.keep (Below.size hb) fun x hx hl => ⟨Below.block hb x hl, hx⟩
theorem KS.kt {w : World} {S : Nat → Prop} {f : Fo} {A : Option Addr} {c : Nat} (h : KS w S f A c) : KT w f A c := by
  obtain ⟨hc, ys, h1, h2⟩ := h
  exact KT.of hc h1 h2
theorem KS.of {w : World} {f : Fo} {A : Option Addr} {c : Nat} (h : KT w f A c) : KS w (fun x => x < w.heap.size) f A c := by
  obtain ⟨hc, ys, h1, h2⟩ := h
  exact ⟨hc, ys, h1.keep (Nat.le_refl _) fun x _ hl => ⟨rfl, hl⟩, h2.keep (Nat.le_refl _) (fun x _ hl => ⟨rfl, hl⟩) _⟩
theorem KS.get {w wr : World} {S : Nat → Prop} {f : Fo} {A : Option Addr} {c i : Nat} {k o : Int} {t : List UInt8} {kids r : Fo} (h : KS w S f A c) (hs : Suf i (.cons k t kids o r) f) (hb : BH w wr) :
    ∃ (g off : Nat) (A1 : Option Addr) (c1 : Nat), A = some ⟨g, off, none⟩ ∧ g < w.heap.size ∧ wr.cell? ⟨g, off + i * 4, none⟩ = some (.int .i64 k) ∧ wr.cell? ⟨g, off + i * 4 + 1, none⟩ = some (.string ⟨t.toArray⟩) ∧
      wr.cell? ⟨g, off + i * 4 + 2, none⟩ = some (.int .i64 o) ∧ wr.cell? ⟨g, off + i * 4 + 3, none⟩ = some (.slice A1 kids.len c1) ∧ KS w S kids A1 c1 := by
  have hlt := hs.kid.2
  obtain ⟨pre, rfl, rfl⟩ := hs
  obtain ⟨hc, ys, h1, h2⟩ := h
  obtain ⟨A1, c1, ys1, u0, v0, rfl, hl, hc1, hr1, hk1⟩ := rowT.split pre _ h2
  obtain ⟨g, off, rfl, _, hg, hcell⟩ := h1 (by omega)
  have at_ : ∀ (j : Nat) (u : Value), (Value.int .i64 k :: .string ⟨t.toArray⟩ :: .int .i64 o :: .slice A1 kids.len c1 :: v0)[j]? = some u → wr.cell? ⟨g, off + pre.len * 4 + j, none⟩ = some u := by
    intro j u hu
    have := hcell (pre.len * 4 + j) u (by rw [List.getElem?_append_right (by omega), hl, Nat.add_sub_cancel_left]; exact hu)
    rw [← Nat.add_assoc] at this
    exact (Below.cell hb (p := ⟨g, off + pre.len * 4 + j, none⟩) (by exact hg)).trans this
  exact ⟨g, off, A1, c1, rfl, hg, at_ 0 _ rfl, at_ 1 _ rfl, at_ 2 _ rfl, at_ 3 _ rfl, hc1, ys1, hr1, hk1⟩

/-- the first terms of f -/
def takeF : Nat → Fo → Fo
  | 0, _ => .nil
  | _ + 1, .nil => .nil
  | n + 1, .cons k t kids o r => .cons k t kids o (takeF n r)
theorem takeF_len : ∀ (n : Nat) (f : Fo), n ≤ f.len → (takeF n f).len = n := by
  intro n
  induction n with
  | zero => intros; rfl
  | succ n ih =>
    intro f h
    cases f with
    | nil => simp [Fo.len] at h
    | cons k t kids o r => simp only [takeF, Fo.len] at h ⊢; rw [ih r (by omega)]
theorem takeF_size : ∀ (n : Nat) (f : Fo), fsize (takeF n f) ≤ fsize f := by
  intro n
  induction n with
  | zero => intros; simp [takeF, fsize]
  | succ n ih =>
    intro f
    cases f with
    | nil => simp [takeF]
    | cons k t kids o r => have := ih r; simp only [takeF, fsize]; omega
theorem takeF_lenT : ∀ (n : Nat) (f : Fo), lenT f → lenT (takeF n f) := by
  intro n
  induction n with
  | zero => intros; trivial
  | succ n ih =>
    intro f h
    cases f with
    | nil => trivial
    | cons k t kids o r => exact ⟨h.1, h.2.1, ih r h.2.2⟩
theorem takeF_row {w : World} {S : Nat → Prop} : ∀ (n : Nat) (f : Fo) (ys : List Value), rowT w S f ys → rowT w S (takeF n f) (ys.take (n * 4)) := by
  intro n
  induction n with
  | zero => intro f ys _; simp [takeF, rowT]
  | succ n ih =>
    intro f ys h
    cases f with
    | nil => rw [show ys = [] from h]; rfl
    | cons k t kids o r =>
      obtain ⟨A, c, zs, us, rfl, h1, h2, h3, h4⟩ := h
      refine ⟨A, c, zs, us.take (n * 4), ?_, h1, h2, h3, ih r us h4⟩
      rw [show (n + 1) * 4 = n * 4 + 1 + 1 + 1 + 1 by omega]
      rfl
theorem KS.take {w : World} {S : Nat → Prop} {f : Fo} {A : Option Addr} {c n : Nat} (h : KS w S f A c) (hn : n ≤ f.len) : KS w S (takeF n f) A c := by
  obtain ⟨hc, ys, h1, h2⟩ := h
  have hl := takeF_len n f hn
  refine ⟨by omega, ys.take (n * 4), ?_, takeF_row n f ys h2⟩
  intro hp
  obtain ⟨g, off, e, hS, hg, hcell⟩ := h1 (by omega)
  refine ⟨g, off, e, hS, hg, fun j u hu => hcell j u ?_⟩
  rw [List.getElem?_take] at hu
  split at hu
  · exact hu
  · cases hu

theorem rowT_one {w : World} {S : Nat → Prop} : ∀ (f : Fo) (ys : List Value), rowT w S f ys → ∀ u ∈ ys, u.oneCell' = true := by
  intro f
  induction f with
  | nil => intro ys h u hu; rw [show ys = [] from h] at hu; cases hu
  | cons k t kids o r _ ih =>
    rintro ys ⟨A, c, zs, us, rfl, _, _, _, h4⟩ u hu
    simp only [List.mem_cons] at hu
    rcases hu with rfl | rfl | rfl | rfl | hu
    · rfl
    · rfl
    · rfl
    · rfl
    · exact ih us h4 u hu

section
variable {P : Program} (w : World)
theorem run_append_none' (base : Nat) (t ty e : TypeId) (i : TypeInfo) (size c : Nat) (ht : P.underlying t = some (.slice e)) (hi : P.info? e = some i)
    (v : Value) (n : Nat) (xs : List Value) (hown : w.ownsRow base e size v n xs) : (Builtin.append_ #[t, t] ty #[v, .slice none 0 c]).run P w = .ok v w := by
  rcases hown.2 with ⟨rfl, rfl⟩ | ⟨g, cap, cur, rfl, _, _, hnc, _⟩
  · simp [Builtin.append_, run_underlying ht, sizeOf, typeInfo, hi, Builtin.lenOf, Builtin.firstCells]
  · simp [Builtin.append_, run_underlying ht, sizeOf, typeInfo, hi, Builtin.lenOf, Builtin.firstCells, hnc, storeCells]
/-- the slice (A, m, c) reads as the cells news -/
def Rea (w : World) (size : Nat) (A : Option Addr) (m : Nat) (news : List Value) : Prop :=
  news.length = m * size ∧ (∀ u ∈ news, u.oneCell' = true) ∧ (0 < m → ∃ g off : Nat, A = some ⟨g, off, none⟩ ∧ ∀ j u, news[j]? = some u → w.cell? ⟨g, off + j, none⟩ = some u)
theorem step_rea {ops : Array Oper} {o : Oper} {a : Act} {K : Act → World → Prop} {Q : Exit → Act → World → Prop} {E : Prop} (hgd : o.guard = none) (s x : Operand) (t : TypeId)
    (ho : o.op = .call { callee := .builtin .append, args := #[s, x], argTypes := #[t, t] })
    (base : Nat) (e : TypeId) (i : TypeInfo) (z : Value) (size bytes : Nat) (ht : P.underlying t = some (.slice e)) (hi : P.info? e = some i) (hz : i.zero = some z)
    (hsize : i.size = size) (hby : i.bytes = bytes) (hzs : z.cells.size = size) (hsz : 0 < size) (v : Value) (n : Nat) (xs : List Value) (hs : a.eval s = v) (hown : w.ownsRow base e size v n xs)
    (A : Option Addr) (m c : Nat) (news : List Value) (hx : a.eval x = .slice A m c) (hr : Rea w size A m news) (h63 : n + m ≤ maxLen) (hbytes : (n + m) * bytes ≤ 140737488355328) (hbase : base ≤ w.heap.size)
    (h : ∀ v' w', w'.ownsRow base e size v' (n + m) (xs ++ news) → w.grownBy w' v.ownBlock → (v'.ownBlock = v.ownBlock ∨ v'.ownBlock = some w.heap.size) → K (a.put o.dst v') w') :
    if Region.wanted o (yielded ops a.tmps) = true then Oper.wp P o a w K Q else E := by
  have hw : Region.wanted o (yielded ops a.tmps) = true := by simp [Region.wanted, hgd]
  rw [if_pos hw]
  obtain ⟨r1, r2, r3⟩ := hr
  have hrun : ∃ v' w', (Builtin.append_ #[t, t] o.type #[v, .slice A m c]).run P w = .ok v' w' ∧ w'.ownsRow base e size v' (n + m) (xs ++ news) ∧ w.grownBy w' v.ownBlock ∧ (v'.ownBlock = v.ownBlock ∨ v'.ownBlock = some w.heap.size) := by
    cases A with
    | none =>
      have hm : m = 0 := by
        rcases Nat.eq_zero_or_pos m with h0 | h0
        · exact h0
        · obtain ⟨_, _, e, _⟩ := r3 h0
          cases e
      subst hm
      obtain rfl : news = [] := List.eq_nil_of_length_eq_zero (by simpa using r1)
      exact ⟨v, w, run_append_none' w base t o.type e i size c ht hi v n xs hown, by simpa using hown, World.grownBy.refl w _, .inl rfl⟩
    | some ad =>
      have hcells : ∀ j u, news[j]? = some u → w.cell? (ad.add j) = some u := by
        intro j u hu
        rcases Nat.eq_zero_or_pos m with h0 | h0
        · obtain rfl : news = [] := List.eq_nil_of_length_eq_zero (by rw [r1, h0]; simp)
          cases hu
        · obtain ⟨g, off, e, hc⟩ := r3 h0
          cases e
          rw [add_none]
          exact hc j u hu
      obtain ⟨v', w', q1, q2, q3, _, q5⟩ := run_append_own_at (P := P) w base t o.type e i z size bytes ht hi hz hsize hby hzs hsz v n xs hown ad m c news r1 hcells r2 h63 hbytes hbase
      exact ⟨v', w', q1, q2, q3, q5⟩
  obtain ⟨v', w', hrun, h2, h3, h4⟩ := hrun
  unfold Oper.wp execOp
  simp only [ho, resolve, invoke, builtin, Sem.run_bind, Sem.run_pure, Result.andThen_ok, List.map_toArray, List.map_cons, List.map_nil, hs, hx, hrun]
  exact h v' w' h2 h3 h4
end
theorem Rea.bh {w X : World} {size m : Nat} {A : Option Addr} {news : List Value} (h : Rea w size A m news) (hb : BH w X) : Rea X size A m news := by
  refine ⟨h.1, h.2.1, fun hp => ?_⟩
  obtain ⟨g, off, e, hc⟩ := h.2.2 hp
  exact ⟨g, off, e, fun j u hu => (Below.cell hb (p := ⟨g, off + j, none⟩) (World.block_lt_of_cell? _ _ (hc j u hu))).trans (hc j u hu)⟩
theorem Rea.of_blk {X : World} {g : Nat} {e : TypeId} {cs : Array Value} {m size : Nat} (h : X.heap[g]? = some (.cells cs e (0, 0))) (hl : cs.size = m * size) (h1 : ∀ u ∈ cs.toList, u.oneCell' = true) : Rea X size (some ⟨g, 0, none⟩) m cs.toList := by
  refine ⟨by simpa using hl, h1, fun _ => ⟨g, 0, rfl, fun j u hu => ?_⟩⟩
  rw [Nat.zero_add, cell_of_row _ _ j _ _ _ h]
  simpa using hu
theorem below_own {a b b0 c : World} {e : TypeId} {n m : Nat} {v : Value} {xs : List Value} (h : BH a b) (hown : b0.ownsRow a.heap.size e n v m xs) (hg : b.grownBy c v.ownBlock) : BH a c := by
  cases hv : v.ownBlock with
  | none => rw [hv] at hg; exact BH.trans h (below_gb hg)
  | some g => rw [hv] at hg; exact below_gb_of h hg (hown.lt g hv).1
theorem KS.own {w6 : World} {S : Nat → Prop} {b0 n : Nat} {e : TypeId} {f : Fo} {xs : List Value} {A8 : Option Addr} {c8 : Nat} (hn : f.len = n) (ho : w6.ownsRow b0 e 4 (.slice A8 n c8) n xs) (hr : rowT w6 S f xs) : KS w6 (fun x => S x ∨ b0 ≤ x) f A8 c8 := by
  subst hn
  obtain ⟨h1, h2, h3, h4, h5⟩ := Cel.of_own ho
  refine ⟨h2, xs, fun hp => ?_, hr.keep (Nat.le_refl _) (fun x hx _ => ⟨rfl, .inl hx⟩) _⟩
  obtain ⟨g, off, e, hg, hc⟩ := h5 hp
  subst e
  exact ⟨g, off, rfl, .inr (ho.lt g (by rfl)).1, hg, hc⟩
theorem KS.rea {w : World} {S : Nat → Prop} {f : Fo} {A : Option Addr} {c : Nat} (h : KS w S f A c) : ∃ ys, Rea w 4 A f.len ys ∧ rowT w S f ys := by
  obtain ⟨hc, ys, h1, h2⟩ := h
  refine ⟨ys, ⟨h2.len, rowT_one f ys h2, fun hp => ?_⟩, h2⟩
  obtain ⟨g, off, e, _, _, hcell⟩ := h1 hp
  exact ⟨g, off, e, hcell⟩

/-- between two appends to the arguments of the term in block gM -/
structure RQ (w w3 wr : World) (S : Nat → Prop) (gM : Nat) (q o : Int) (t : List UInt8) (v : Value) (acc : Fo) (xs : List Value) : Prop where
  hS : ∀ x, S x → x < w.heap.size
  bel : BH w wr
  blkM : wr.heap[gM]? = some (.cells #[.int .i64 q, .string ⟨t.toArray⟩, .int .i64 o, v] 34 (0, 0))
  old : ∀ x, w.heap.size ≤ x → x < w3.heap.size → x ≠ gM → wr.heap[x]? = w3.heap[x]?
  own : wr.ownsRow w3.heap.size 34 4 v acc.len xs
  row : rowT wr (fun x => (S x ∨ w3.heap.size ≤ x) ∧ v.ownBlock ≠ some x) acc xs
  hM : w.heap.size ≤ gM ∧ gM < w3.heap.size
  size : w3.heap.size ≤ wr.heap.size
section
variable {w w3 wr w4 : World} {S : Nat → Prop} {gM : Nat} {q o : Int} {t : List UInt8} {v : Value} {acc : Fo} {xs : List Value}
theorem RQ.cell (h : RQ w w3 wr S gM q o t v acc xs) : wr.cell? ⟨gM, 3, none⟩ = some v ∧ wr.frozen? ⟨gM, 3, none⟩ = false := by
  obtain ⟨_, _, _, b3, _, _, _, y3⟩ := row4 h.blkM
  exact ⟨b3, y3⟩
theorem RQ.after (h : RQ w w3 wr S gM q o t v acc xs) (hb : BH wr w4) : RQ w w3 w4 S gM q o t v acc xs := by
  have hM := h.hM
  have hs := h.size
  have hw := Below.size h.bel
  refine ⟨h.hS, BH.trans h.bel hb, (Below.block hb _ (heap_lt h.blkM)).trans h.blkM, fun x hx hl hne => (Below.block hb _ (by omega)).trans (h.old x hx hl hne), ?_, ?_, hM, Nat.le_trans hs (Below.size hb)⟩
  · exact h.own.kept (row := none) (gb_below hb none) (by
      cases hv : v.ownBlock with
      | none => exact .inl rfl
      | some x => exact .inr (by simp))
  · exact h.row.keep (Below.size hb) (fun x hx hl => ⟨Below.block hb x hl, hx⟩) _
theorem RQ.drew (h : RQ w w3 wr S gM q o t v acc xs) : RQ w w3 wr.drew S gM q o t v acc xs := h.after (below_drew wr)
theorem RQ.boxed (h : RQ w w3 w4 S gM q o t v acc xs) {ob : Obj} {w5 : World} (hg : (w4.alloc ob).grownBy w5 v.ownBlock) : w5.heap[gM]? = some (.cells #[.int .i64 q, .string ⟨t.toArray⟩, .int .i64 o, v] 34 (0, 0)) := by
  have hM := h.hM
  have hs := h.size
  refine (hg.block _ (by simp; omega) ?_).trans ((Below.heap_alloc w4 ob _ (by omega)).trans h.blkM)
  intro e
  have := (h.own.lt _ e.symm).1
  omega
theorem RQ.push (h0 : RQ w w3 wr S gM q o t v acc xs) {q1 o1 : Int} {t1 : List UInt8} {kids : Fo} {A : Option Addr} {c : Nat} (hb4 : BH wr w4) (hk : KS w4 (fun x => S x ∨ wr.heap.size ≤ x) kids A c)
    {ob : Obj} {w5 : World} {v' : Value} (hg : (w4.alloc ob).grownBy w5 v.ownBlock) (hat : v'.ownBlock = v.ownBlock ∨ v'.ownBlock = some (w4.heap.size + 1))
    (hown : w5.ownsRow w3.heap.size 34 4 v' (acc.len + 1) (xs ++ [.int .i64 q1, .string ⟨t1.toArray⟩, .int .i64 o1, .slice A kids.len c])) :
    RQ w w3 (w5.setCell ⟨gM, 3, none⟩ v') S gM q o t v' (acc.app (.one q1 t1 kids o1)) (xs ++ [.int .i64 q1, .string ⟨t1.toArray⟩, .int .i64 o1, .slice A kids.len c]) := by
  have h := h0.after hb4
  have hM := h.hM
  have hs3 := h0.size
  have hs4 := Below.size hb4
  have hs5 := hg.size
  have hs5' : (w4.alloc ob).heap.size = w4.heap.size + 1 := by simp
  have hM5 := h.boxed hg
  have hlt : ∀ x, v.ownBlock = some x → w3.heap.size ≤ x ∧ x < wr.heap.size := fun x hx => h0.own.lt x hx
  have hto : ∀ x, x < w4.heap.size → v.ownBlock ≠ some x → w5.heap[x]? = w4.heap[x]? := fun x hx hne => (hg.block x (by omega) (fun e => hne e.symm)).trans (Below.heap_alloc w4 ob x hx)
  have hne' : ∀ x, x < w4.heap.size → v.ownBlock ≠ some x → v'.ownBlock ≠ some x := by
    intro x hx hne he
    rcases hat with h | h
    · exact hne (h.symm.trans he)
    · rw [h] at he
      simp only [Option.some.injEq] at he
      omega
  have hwM : ∀ x, x ≠ gM → (w5.setCell ⟨gM, 3, none⟩ v').heap[x]? = w5.heap[x]? := fun x hx => heap_far hx _
  have hss : w4.heap.size ≤ (w5.setCell ⟨gM, 3, none⟩ v').heap.size := by simp [size_set]; omega
  have hww : ∀ x, S x → x < w.heap.size := h.hS
  have hww3 : w.heap.size ≤ w3.heap.size := by omega
  have key : ∀ x, (S x ∨ wr.heap.size ≤ x) → x < w4.heap.size → (w5.setCell ⟨gM, 3, none⟩ v').heap[x]? = w4.heap[x]? ∧ ((S x ∨ w3.heap.size ≤ x) ∧ v'.ownBlock ≠ some x) := by
    intro x hx hl
    have hne : v.ownBlock ≠ some x := fun e => by
      have := hlt x e
      rcases hx with hx | hx
      · have := hww x hx; omega
      · omega
    have hxM : x ≠ gM := by
      rcases hx with hx | hx
      · have := hww x hx; omega
      · omega
    refine ⟨(hwM x hxM).trans (hto x hl hne), ?_, hne' x hl hne⟩
    rcases hx with hx | hx
    · exact .inl hx
    · exact .inr (by omega)
  obtain ⟨hc, ys, hr, hkk⟩ := hk
  refine ⟨h.hS, ?_, heap_set (i := 3) hM5 v', fun x hx hl hne => ?_, ?_, ?_, hM, by simp [size_set]; omega⟩
  · have hA : BH w (w4.alloc ob) := BH.trans h.bel (bh_alloc (BH.refl w4) ob)
    have hB : BH w w5 := by
      cases hv : v.ownBlock with
      | none => rw [hv] at hg; exact BH.trans hA (below_gb hg)
      | some g => rw [hv] at hg; exact below_gb_of hA hg (by have := hlt g hv; omega)
    exact below_gb_of hB (gb_setCell (World.grownBy.refl _ _) (.inl rfl) _) hM.1
  · have hne2 : v.ownBlock ≠ some x := fun e => by have := hlt x e; omega
    exact (hwM x hne).trans ((hto x (by omega) hne2).trans (h.old x hx hl hne))
  · rw [Fo.len_app]
    refine hown.kept (row := some gM) (gb_setCell (World.grownBy.refl _ _) (.inl rfl) _) ?_
    cases hv : v'.ownBlock with
    | none => exact .inl rfl
    | some x => exact .inr (by have := (hown.lt x hv).1; simp; omega)
  · refine rowT.app _ _ _ (rowT.one hc (hr.keep hss key) (hkk.keep hss key _)) _ (h0.row.keep (Nat.le_trans hs4 hss) ?_ _)
    rintro x ⟨hx, hne⟩ hl
    have hxM : x ≠ gM := by
      rcases hx with hx | hx
      · have := hww x hx; omega
      · omega
    exact ⟨(hwM x hxM).trans ((hto x (by omega) hne).trans (Below.block hb4 x hl)), hx, hne' x (by omega) hne⟩
theorem cell_allocQ (h : RQ w w3 w4 S gM q o t v acc xs) (ob : Obj) : (w4.alloc ob).cell? ⟨gM, 3, none⟩ = some v := by
  have hM := h.hM
  have hs := h.size
  exact (row4 ((Below.heap_alloc w4 ob _ (by omega)).trans h.blkM)).2.2.2.1
theorem rea_one {X : World} {g : Nat} {e : TypeId} {a b c d : Value} (h : X.heap[g]? = some (.cells #[a, b, c, d] e (0, 0))) (h1 : a.oneCell' = true := by rfl) (h2 : b.oneCell' = true := by rfl) (h3 : c.oneCell' = true := by rfl) (h4 : d.oneCell' = true := by rfl) : Rea X 4 (some ⟨g, 0, none⟩) 1 [a, b, c, d] := by
  refine ⟨rfl, ?_, fun _ => ⟨g, 0, rfl, fun j u hu => ?_⟩⟩
  · intro u hu
    simp only [List.mem_cons, List.not_mem_nil, or_false] at hu
    rcases hu with rfl | rfl | rfl | rfl
    · exact h1
    · exact h2
    · exact h3
    · exact h4
  · rw [Nat.zero_add, cell_of_row _ _ j _ _ _ h]
    simpa using hu
/-- what the loop leaves -/
theorem RQ.out {A5 : Option Addr} {c5 : Nat} (h : RQ w w3 wr S gM q o t (.slice A5 acc.len c5) acc xs) : KS wr (fun x => S x ∨ w3.heap.size ≤ x) acc A5 c5 := by
  obtain ⟨h1, h2, h3, h4, h5⟩ := Cel.of_own h.own
  refine ⟨h2, xs, fun hp => ?_, h.row.keep (Nat.le_refl _) (fun x hx _ => ⟨rfl, hx.1⟩) _⟩
  obtain ⟨g, off, e, hg, hc⟩ := h5 hp
  subst e
  exact ⟨g, off, rfl, .inr (h.own.lt g (by rfl)).1, hg, hc⟩
end
end Go.Proofs.YtpkiheenkpcebaaGreatDoor

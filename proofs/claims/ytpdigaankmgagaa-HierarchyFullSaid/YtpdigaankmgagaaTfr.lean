/- typeterm.collectFree: the free variables of a term, in the order of their occurrences. No condition but a bounded size. -/
import Derived.Test.YtpdigaankmgagaaTcl
import Derived.OwnWalk
import Derived.Maps.AppendAt
set_option linter.unusedVariables false
set_option linter.unusedSimpArgs false
namespace Go.Proofs.Ytpdigaankmgagaa.Sx
open Go.RowKit
/-- the free variables of the arguments r (from argument i on) of a node of kind pk, counted from b bodies -/
def freeL (pk : Int) : Nat → Int → Fo → List Int
  | _, _, .nil => []
  | i, b, .cons k _ kids o rest => ((if freeB k o (aroundB pk i b) then [wrap64 (o - aroundB pk i b)] else []) ++ freeL k 0 (aroundB pk i b) kids) ++ freeL pk (i + 1) b rest
def free1 (k o : Int) (kids : Fo) (b : Int) : List Int := (if freeB k o b then [wrap64 (o - b)] else []) ++ freeL k 0 b kids
theorem freeL_cons (pk : Int) (i : Nat) (b k : Int) (t : List UInt8) (kids : Fo) (o : Int) (rest : Fo) : freeL pk i b (.cons k t kids o rest) = free1 k o kids (aroundB pk i b) ++ freeL pk (i + 1) b rest := rfl
theorem freeL_len (f : Fo) : ∀ (pk : Int) (i : Nat) (b : Int), (freeL pk i b f).length ≤ fsize f := by
  induction f with
  | nil => intro pk i b; simp [freeL]
  | cons k t kids o r ih1 ih2 =>
    intro pk i b
    have h1 := ih1 k 0 (aroundB pk i b)
    have h2 := ih2 pk (i + 1) b
    simp only [freeL, List.length_append, fsize]
    split <;> simp <;> omega
end Go.Proofs.Ytpdigaankmgagaa.Sx
namespace Go.Proofs.Ytpdigaankmgagaa
open Go.RowKit Sx

/-- block b is a set of integers that holds l; v is its row -/
def SA (B b : Nat) (v : Value) (l : List Int) (w : World) : Prop :=
  w.heap[b]? = some (.cells #[v] 84 (0, 0)) ∧ w.ownsRow B 3 1 v l.length (l.map (Value.int .i64)) ∧ v.ownBlock ≠ some b ∧ B ≤ b

/-- from one world with its set to a later one: all blocks but the set's and its row are as they were -/
structure Kq (b : Nat) (v v' : Value) (w w' : World) : Prop where
  os : w'.os = w.os
  tape : w'.tape = w.tape
  output : w'.output = w.output
  size : w.heap.size ≤ w'.heap.size
  block : ∀ x, x < w.heap.size → x ≠ b → v.ownBlock ≠ some x → w'.heap[x]? = w.heap[x]?
  own : v'.ownBlock = v.ownBlock ∨ ∃ g, w.heap.size ≤ g ∧ v'.ownBlock = some g
theorem Kq.refl (b : Nat) (v : Value) (w : World) : Kq b v v w w := ⟨rfl, rfl, rfl, Nat.le_refl _, fun _ _ _ _ => rfl, .inl rfl⟩
theorem Kq.trans {b : Nat} {v v' v'' : Value} {w w' w'' : World} (h : Kq b v v' w w') (k : Kq b v' v'' w' w'') : Kq b v v'' w w'' := by
  refine ⟨k.os.trans h.os, k.tape.trans h.tape, k.output.trans h.output, Nat.le_trans h.size k.size, fun x hx hb hv => ?_, ?_⟩
  · refine (k.block x (Nat.lt_of_lt_of_le hx h.size) hb ?_).trans (h.block x hx hb hv)
    rcases h.own with e | ⟨g, hg, e⟩
    · rw [e]; exact hv
    · rw [e]; intro e'; cases e'; omega
  · rcases k.own with e | ⟨g, hg, e⟩
    · rcases h.own with e2 | ⟨g, hg, e2⟩
      · exact .inl (e.trans e2)
      · exact .inr ⟨g, hg, e.trans e2⟩
    · exact .inr ⟨g, Nat.le_trans h.size hg, e⟩
theorem Kq.bh {b : Nat} {v : Value} {w w' : World} (h : BH w w') : Kq b v v w w' := ⟨Below.os h, Below.tape h, Below.output h, Below.size h, fun x hx _ _ => Below.block h x hx, .inl rfl⟩
theorem Kq.below {B b : Nat} {v v' : Value} {w w' : World} {l : List Int} (h : Kq b v v' w w') (hB : SA B b v l w) (hBw : B ≤ w.heap.size) : Below B w w' :=
  ⟨h.os, h.tape, h.output, h.size, fun x hx => h.block x (by omega) (by have := hB.2.2.2; omega) (fun e => by have := (hB.2.1.lt x e).1; omega)⟩
theorem SA.bh {B b : Nat} {v : Value} {l : List Int} {w w' : World} (h : SA B b v l w) (hb : BH w w') : SA B b v l w' :=
  ⟨(Below.block hb b (heap_lt h.1)).trans h.1, h.2.1.kept (gb_below hb none) (by
    cases hv : v.ownBlock with
    | none => exact .inl rfl
    | some x => exact .inr (by simp)), h.2.2⟩
theorem SA.lt {B b : Nat} {v : Value} {l : List Int} {w : World} (h : SA B b v l w) : b < w.heap.size := heap_lt h.1
/-- a block of the call's own stands through what the set does -/
theorem Kq.keep {B b : Nat} {v v' : Value} {l : List Int} {w w' : World} (h : Kq b v v' w w') {x : Nat} {ob : Obj} (hx : w.heap[x]? = some ob) (hb : x ≠ b) (hv : v.ownBlock ≠ some x) : w'.heap[x]? = some ob := (h.block x (heap_lt hx) hb hv).trans hx

theorem infoInt : (Try.prog.info? 3).map (fun i => (i.zero, i.size, i.bytes)) = some (some (.int .i64 0), 1, 8) := by kernel_rfl

set_option maxHeartbeats 2000000 in
theorem add_any (B b : Nat) (v : Value) (l : List Int) (x : Int) (w : World) (h : SA B b v l w) (hlen : l.length ≤ 8796093022208) (hBw : B ≤ w.heap.size) :
    Calls Try.prog 66 #[.pointer (some ⟨b, 0, none⟩), .int .i64 x] w fun e w' => ∃ v', e = .returned (.tuple #[]) ∧ SA B b v' (l ++ [x]) w' ∧ Kq b v v' w w' := by
  obtain ⟨i0, hi, hz0, hz1, hz2⟩ := info_parts infoInt
  obtain ⟨hbk, hown, hne, hBb⟩ := id h
  obtain ⟨A5, c5, rfl, hc5⟩ := own_shape hown
  obtain ⟨c0, f0⟩ := row1 hbk
  have hlt := heap_lt hbk
  have H := Lib.hid h
  clear h
  go_enter Try.func66, Try.ntmps66
  go_wp2_with (at_builtin; go_loud (refine wpList_append_own_at _ rfl _ _ 77 rfl B 3 i0 (.int .i64 0) 1 8 Try.underlying77 hi hz0 hz1 hz2 rfl (by decide) _ _ _ rfl (World.ownsRow.alloc (by exact hown) _) ⟨w.heap.size, 0, none⟩ 1 1 [.int .i64 x] rfl rfl ?a1 ?a2 ?a3 ?a4 ?a5 ?_))
  case a1 => exact cells_new _ [_] _
  case a2 => intro u hu; simp at hu; subst hu; rfl
  case a3 => unfold maxLen; omega
  case a4 => omega
  case a5 => simp; omega
  intro v' w2 hown' hgrow _ hat
  obtain ⟨A6, c6, rfl, hc6⟩ := own_shape hown'
  have hgr : (w.alloc (.cells #[.int .i64 x] 3)).grownBy w2 (Value.slice A5 l.length c5).ownBlock := ⟨hgrow.os, hgrow.tape, hgrow.output, hgrow.size, hgrow.block⟩
  have hb2 : w2.heap[b]? = some (.cells #[.slice A5 l.length c5] 84 (0, 0)) := (hgr.block b (by simp; omega) (fun e => hne e.symm)).trans ((Below.heap_alloc w _ b hlt).trans hbk)
  obtain ⟨d0, f1⟩ := row1 hb2
  have HO := Lib.hid hown'
  have HA := Lib.hid hat
  have HG := Lib.hid hgr
  have HB2 := Lib.hid hb2
  clear hown' hat hgr hgrow hb2 hown hbk hne c0 f0
  go_wp2
  go_end0
  have hs2 := HG.out.size
  simp only [World.size_alloc] at hs2
  have hne' : (Value.slice A6 (l.length + 1) c6).ownBlock ≠ some b := by
    rcases HA.out with e | e
    · rw [e]; exact H.out.2.2.1
    · rw [e]; simp; omega
  refine ⟨_, rfl, ⟨heap_set (i := 0) HB2.out _, ?_, hne', hBb⟩, ?_⟩
  · have := HO.out.kept (row := some b) (gb_setCell (p := ⟨b, 0, none⟩) (World.grownBy.refl _ _) (.inl rfl) (Value.slice A6 (l.length + 1) c6)) (.inr hne')
    simpa using this
  · refine ⟨HG.out.os, HG.out.tape, HG.out.output, by simp [size_set]; omega, fun y hy hyb hyv => ?_, ?_⟩
    · exact (heap_far hyb _).trans ((HG.out.block y (by simp; omega) (fun e => hyv e.symm)).trans (Below.heap_alloc w _ y hy))
    · rcases HA.out with e | e
      · exact .inl e
      · exact .inr ⟨_, by simp, e⟩
end Go.Proofs.Ytpdigaankmgagaa

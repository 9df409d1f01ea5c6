/- typeterm's set of strings: add. No condition but a bounded length. -/
import Derived.Test.YtnidngpenhblcaaDoorTfr
import Derived.Test.YtnidngpenhblcaaDoorTrs2
set_option linter.unusedVariables false
set_option linter.unusedSimpArgs false
namespace Go.Proofs.YtnidngpenhblcaaDoor.Sx
/-- the names of the named terms, in the order of their occurrences -/
def nmL : Fo → List (List UInt8)
  | .nil => []
  | .cons k t kids _ rest => ((if k = 2 then [t] else []) ++ nmL kids) ++ nmL rest
def nm1 (k : Int) (t : List UInt8) (kids : Fo) : List (List UInt8) := (if k = 2 then [t] else []) ++ nmL kids
theorem nmL_cons (k : Int) (t : List UInt8) (kids : Fo) (o : Int) (rest : Fo) : nmL (.cons k t kids o rest) = nm1 k t kids ++ nmL rest := rfl
theorem nmL_len (f : Fo) : (nmL f).length ≤ fsize f := by
  induction f with
  | nil => simp [nmL]
  | cons k t kids o r ih1 ih2 =>
    simp only [nmL, List.length_append, fsize]
    split <;> simp <;> omega
theorem nm1_len (k : Int) (t : List UInt8) (kids : Fo) : (nm1 k t kids).length ≤ fsize kids + 1 := by
  have h := nmL_len kids
  simp only [nm1, List.length_append]
  split <;> simp <;> omega
end Go.Proofs.YtnidngpenhblcaaDoor.Sx
namespace Go.Proofs.YtnidngpenhblcaaDoor
open Go.RowKit Go.Sort Sx

/-- block b is a set of strings that holds l; v is its row -/
def SAs (B b : Nat) (v : Value) (l : List (List UInt8)) (w : World) : Prop :=
  w.heap[b]? = some (.cells #[v] 63 (0, 0)) ∧ w.ownsRow B 9 1 v l.length (l.map (encStr)) ∧ v.ownBlock ≠ some b ∧ B ≤ b

theorem Kq.belowS {B b : Nat} {v v' : Value} {w w' : World} {l : List (List UInt8)} (h : Kq b v v' w w') (hB : SAs B b v l w) (hBw : B ≤ w.heap.size) : Below B w w' :=
  ⟨h.os, h.tape, h.output, h.size, fun x hx => h.block x (by omega) (by have := hB.2.2.2; omega) (fun e => by have := (hB.2.1.lt x e).1; omega)⟩
theorem SAs.bh {B b : Nat} {v : Value} {l : List (List UInt8)} {w w' : World} (h : SAs B b v l w) (hb : BH w w') : SAs B b v l w' :=
  ⟨(Below.block hb b (heap_lt h.1)).trans h.1, h.2.1.kept (gb_below hb none) (by
    cases hv : v.ownBlock with
    | none => exact .inl rfl
    | some x => exact .inr (by simp)), h.2.2⟩
theorem SAs.lt {B b : Nat} {v : Value} {l : List (List UInt8)} {w : World} (h : SAs B b v l w) : b < w.heap.size := heap_lt h.1
/-- a block of the call's own stands through what the set does -/
theorem Kq.keepS {B b : Nat} {v v' : Value} {l : List (List UInt8)} {w w' : World} (h : Kq b v v' w w') {x : Nat} {ob : Obj} (hx : w.heap[x]? = some ob) (hb : x ≠ b) (hv : v.ownBlock ≠ some x) : w'.heap[x]? = some ob := (h.block x (heap_lt hx) hb hv).trans hx

set_option maxHeartbeats 2000000 in
theorem addS_any (B b : Nat) (v : Value) (l : List (List UInt8)) (x : List UInt8) (w : World) (h : SAs B b v l w) (hlen : l.length ≤ 1099511627776) (hBw : B ≤ w.heap.size) :
    Calls Tryd.prog 75 #[.pointer (some ⟨b, 0, none⟩), .string ⟨x.toArray⟩] w fun e w' => ∃ v', e = .returned (.tuple #[]) ∧ SAs B b v' (l ++ [x]) w' ∧ Kq b v v' w w' := by
  obtain ⟨i0, hi, hz0, hz1, hz2⟩ := info_parts infoStr
  obtain ⟨hbk, hown, hne, hBb⟩ := id h
  obtain ⟨A5, c5, rfl, hc5⟩ := own_shape hown
  obtain ⟨c0, f0⟩ := row1 hbk
  have hlt := heap_lt hbk
  have H := Lib.hid h
  clear h
  go_enter Tryd.func75, Tryd.ntmps75
  go_wp2_with (at_builtin; go_loud (refine wpList_append_own_at _ rfl _ _ 30 rfl B 9 i0 (.string ⟨#[]⟩) 1 16 Tryd.underlying30 hi hz0 hz1 hz2 rfl (by decide) _ _ _ rfl (World.ownsRow.alloc (by exact hown) _) ⟨w.heap.size, 0, none⟩ 1 1 [.string ⟨x.toArray⟩] rfl rfl ?a1 ?a2 ?a3 ?a4 ?a5 ?_))
  case a1 => exact cells_new _ [_] _
  case a2 => intro u hu; simp at hu; subst hu; rfl
  case a3 => unfold maxLen; omega
  case a4 => omega
  case a5 => simp; omega
  intro v' w2 hown' hgrow _ hat
  obtain ⟨A6, c6, rfl, hc6⟩ := own_shape hown'
  have hgr : (w.alloc (.cells #[.string ⟨x.toArray⟩] 9)).grownBy w2 (Value.slice A5 l.length c5).ownBlock := ⟨hgrow.os, hgrow.tape, hgrow.output, hgrow.size, hgrow.block⟩
  have hb2 : w2.heap[b]? = some (.cells #[.slice A5 l.length c5] 63 (0, 0)) := (hgr.block b (by simp; omega) (fun e => hne e.symm)).trans ((Below.heap_alloc w _ b hlt).trans hbk)
  obtain ⟨d0, f1⟩ := row1 hb2
  have HO := Lib.hid hown'
  have HA := Lib.hid hat
  have HG := Lib.hid hgr
  have HB2 := Lib.hid hb2
  clear hown' hat hgr hgrow hb2 hown hbk hne c0 f0
  go_wp2
  go_end0
  have hs2 := HG.out.size
  simp only [World.size_alloc] at hs2
  have hne' : (Value.slice A6 (l.length + 1) c6).ownBlock ≠ some b := by
    rcases HA.out with e | e
    · rw [e]; exact H.out.2.2.1
    · rw [e]; simp; omega
  refine ⟨_, rfl, ⟨heap_set (i := 0) HB2.out _, ?_, hne', hBb⟩, ?_⟩
  · have := HO.out.kept (row := some b) (gb_setCell (p := ⟨b, 0, none⟩) (World.grownBy.refl _ _) (.inl rfl) (Value.slice A6 (l.length + 1) c6)) (.inr hne')
    simpa using this
  · refine ⟨HG.out.os, HG.out.tape, HG.out.output, by simp [size_set]; omega, fun y hy hyb hyv => ?_, ?_⟩
    · exact (heap_far hyb _).trans ((HG.out.block y (by simp; omega) (fun e => hyv e.symm)).trans (Below.heap_alloc w _ y hy))
    · rcases HA.out with e | e
      · exact .inl e
      · exact .inr ⟨_, by simp, e⟩
end Go.Proofs.YtnidngpenhblcaaDoor

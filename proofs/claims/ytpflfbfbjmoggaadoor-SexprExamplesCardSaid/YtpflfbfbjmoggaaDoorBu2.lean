/- strings.Builder's WriteByte and WriteString, said so that what else lies in memory is told block by block. No condition but that the new length takes at most 2^47 bytes. -/
import Derived.Test.YtpflfbfbjmoggaaDoorBuild
import Derived.Test.YtpflfbfbjmoggaaDoorUtil2
import Derived.Test.YtpflfbfbjmoggaaDoorFs
import Derived.OwnWalk
import Derived.Maps.AppendAt
set_option linter.unusedVariables false
set_option linter.unusedSimpArgs false
namespace Go.Proofs.YtpflfbfbjmoggaaDoor
open Go.RowKit Go.Lib

/-- block b is a builder that holds bs; v is its row; used: it has been written to -/
def BA (B b : Nat) (used : Bool) (v : Value) (bs : List Value) (w : World) : Prop :=
  w.heap[b]? = some (.cells #[.pointer (if used then some ⟨b, 0, none⟩ else none), v] 76 (0, 0)) ∧ w.ownsRow B 5 1 v bs.length bs ∧ v.ownBlock ≠ some b ∧ B ≤ b

/-- from one world with its builder to a later one: all blocks but the builder's and its row are as they were -/
structure Kp (b : Nat) (v v' : Value) (w w' : World) : Prop where
  os : w'.os = w.os
  tape : w'.tape = w.tape
  output : w'.output = w.output
  size : w.heap.size ≤ w'.heap.size
  block : ∀ x, x < w.heap.size → x ≠ b → v.ownBlock ≠ some x → w'.heap[x]? = w.heap[x]?
  own : v'.ownBlock = v.ownBlock ∨ ∃ g, w.heap.size ≤ g ∧ v'.ownBlock = some g

theorem Kp.refl (b : Nat) (v : Value) (w : World) : Kp b v v w w := ⟨rfl, rfl, rfl, Nat.le_refl _, fun _ _ _ _ => rfl, .inl rfl⟩
theorem Kp.trans {b : Nat} {v v' v'' : Value} {w w' w'' : World} (h : Kp b v v' w w') (k : Kp b v' v'' w' w'') : Kp b v v'' w w'' := by
  refine ⟨k.os.trans h.os, k.tape.trans h.tape, k.output.trans h.output, Nat.le_trans h.size k.size, fun x hx hb hv => ?_, ?_⟩
  · refine (k.block x (Nat.lt_of_lt_of_le hx h.size) hb ?_).trans (h.block x hx hb hv)
    rcases h.own with e | ⟨g, hg, e⟩
    · rw [e]; exact hv
    · rw [e]; intro e'; cases e'; omega
  · rcases k.own with e | ⟨g, hg, e⟩
    · rcases h.own with e2 | ⟨g, hg, e2⟩
      · exact .inl (e.trans e2)
      · exact .inr ⟨g, hg, e.trans e2⟩
    · exact .inr ⟨g, Nat.le_trans h.size hg, e⟩
theorem Kp.alloc {b : Nat} {v v' : Value} {w w' : World} (h : Kp b v v' w w') (o : Obj) : Kp b v v' w (w'.alloc o) :=
  ⟨h.os, h.tape, h.output, Nat.le_trans h.size (by simp), fun x hx hb hv => (Below.heap_alloc w' o x (Nat.lt_of_lt_of_le hx h.size)).trans (h.block x hx hb hv), h.own⟩
theorem Kp.below {B b : Nat} {v v' : Value} {w w' : World} {bs : List Value} {used : Bool} (h : Kp b v v' w w') (hB : BA B b used v bs w) (hBw : B ≤ w.heap.size) : Below B w w' :=
  ⟨h.os, h.tape, h.output, h.size, fun x hx => h.block x (by omega) (by have := hB.2.2.2; omega) (fun e => by have := (hB.2.1.lt x e).1; omega)⟩
theorem BA.alloc {B b : Nat} {used : Bool} {v : Value} {bs : List Value} {w : World} (h : BA B b used v bs w) (o : Obj) : BA B b used v bs (w.alloc o) :=
  ⟨(Below.heap_alloc w o b (heap_lt h.1)).trans h.1, h.2.1.alloc _, h.2.2⟩
theorem BA.lt {B b : Nat} {used : Bool} {v : Value} {bs : List Value} {w : World} (h : BA B b used v bs w) : b < w.heap.size := heap_lt h.1

theorem copyCheck_ba (B b : Nat) (used : Bool) (v : Value) (bs : List Value) (w : World) (h : BA B b used v bs w) :
    Calls Tryd.prog 112 #[.pointer (some ⟨b, 0, none⟩)] w fun e w' => e = .returned (.tuple #[]) ∧ BA B b true v bs w' ∧ Kp b v v w w' ∧ w'.heap.size = w.heap.size := by
  obtain ⟨hbk, hown, hne, hBb⟩ := h
  cases used with
  | true =>
    refine (copyCheck_used b w (by rw [Lib.cell_of_heap hbk]; rfl)).mono ?_
    rintro e w' ⟨rfl, rfl⟩
    exact ⟨rfl, ⟨hbk, hown, hne, hBb⟩, Kp.refl _ _ _, rfl⟩
  | false =>
    refine (copyCheck_fresh b w (by rw [Lib.cell_of_heap hbk]; rfl) (by simp [World.shape?, hbk]) (Lib.frozen_of_heap hbk 0)).mono ?_
    rintro e w' ⟨rfl, rfl⟩
    refine ⟨rfl, ⟨heap_set (i := 0) hbk _, hown.kept (row := some b) (gb_setCell (World.grownBy.refl _ _) (.inl rfl) _) ?_, hne, hBb⟩, ⟨rfl, rfl, rfl, by simp [size_set], fun x hx hb hv => heap_far hb _, .inl rfl⟩, by simp [size_set]⟩
    exact .inr hne

theorem ba_write {B b : Nat} {v v' : Value} {bs news : List Value} {w w1 w2 : World} {o : Option Obj} (h1 : BA B b true v bs w1) (hk : Kp b v v w w1) (hz : w1.heap.size = w.heap.size) (wm : World) (hwm : w1.heap.size ≤ wm.heap.size) (hos : wm.os = w1.os) (htp : wm.tape = w1.tape) (hou : wm.output = w1.output) (hold : ∀ x, x < w1.heap.size → wm.heap[x]? = w1.heap[x]?)
    (hg : wm.grownBy w2 v.ownBlock) (hown : w2.ownsRow B 5 1 v' (bs ++ news).length (bs ++ news)) (hat : v'.ownBlock = v.ownBlock ∨ ∃ g, w1.heap.size ≤ g ∧ v'.ownBlock = some g) :
    BA B b true v' (bs ++ news) (w2.setCell ⟨b, 1, none⟩ v') ∧ Kp b v v' w (w2.setCell ⟨b, 1, none⟩ v') := by
  obtain ⟨hbk, ho, hne, hBb⟩ := h1
  have hlt := heap_lt hbk
  have hb2 : w2.heap[b]? = some (.cells #[.pointer (some ⟨b, 0, none⟩), v] 76 (0, 0)) := (hg.block b (by omega) (fun e => hne e.symm)).trans ((hold b hlt).trans hbk)
  have hne' : v'.ownBlock ≠ some b := by
    rcases hat with e | ⟨g, hgg, e⟩
    · rw [e]; exact hne
    · rw [e]; intro e'; cases e'; omega
  have hs2 := hg.size
  refine ⟨⟨heap_set (i := 1) hb2 _, hown.kept (row := some b) (gb_setCell (World.grownBy.refl _ _) (.inl rfl) _) (.inr hne'), hne', hBb⟩, ?_⟩
  have hks := hk.size
  refine ⟨(hg.os.trans hos).trans hk.os, (hg.tape.trans htp).trans hk.tape, (hg.output.trans hou).trans hk.output, by simp [size_set]; omega, fun x hx hxb hxv => ?_, ?_⟩
  · refine (heap_far hxb _).trans ((hg.block x (by omega) (fun e => hxv e.symm)).trans ((hold x (by omega)).trans (hk.block x hx hxb hxv)))
  · rcases hat with e | ⟨g, hgg, e⟩
    · exact .inl e
    · exact .inr ⟨g, by omega, e⟩

set_option maxHeartbeats 2000000 in
set_option maxRecDepth 100000 in
theorem writeByte_ba (B b : Nat) (used : Bool) (v : Value) (bs : List Value) (c : Int) (w : World) (h : BA B b used v bs w) (hlen : bs.length + 1 ≤ 140737488355328) (hBw : B ≤ w.heap.size) :
    Calls Tryd.prog 88 #[.pointer (some ⟨b, 0, none⟩), .int .u8 c] w fun e w' => ∃ v', e = .returned .nilIface ∧ BA B b true v' (bs ++ [.int .u8 c]) w' ∧ Kp b v v' w w' := by
  obtain ⟨i0, hi, hz0, hz1, hz2⟩ := info_parts infoByte
  go_enter Tryd.func88, Tryd.ntmps88
  go_wp2_with (go_at_call 112; refine (copyCheck_ba B b used v bs _ h).mono ?_)
  rintro e w1 ⟨rfl, h1, hk1, hz⟩
  obtain ⟨hbk, hown, hne, hBb⟩ := id h1
  obtain ⟨A5, c5, rfl, hc5⟩ := own_shape hown
  have c0 : w1.cell? ⟨b, 0, none⟩ = some (.pointer (some ⟨b, 0, none⟩)) := by rw [Lib.cell_of_heap hbk]; rfl
  have c1 : w1.cell? ⟨b, 1, none⟩ = some (.slice A5 bs.length c5) := by rw [Lib.cell_of_heap hbk]; rfl
  have hlt := heap_lt hbk
  have H1 := Lib.hid h1
  have HK := Lib.hid hk1
  have HZ := Lib.hid hz
  clear h1 hk1 hz
  go_wp2_with (at_builtin; go_loud (refine wpList_append_own_at _ rfl _ _ 74 rfl B 5 i0 (.int .u8 0) 1 1 Tryd.underlying74 hi hz0 hz1 hz2 rfl (by decide) _ _ _ rfl (World.ownsRow.alloc (by exact hown) _) ⟨w1.heap.size, 0, none⟩ 1 1 [.int .u8 c] rfl rfl ?a1 ?a2 ?a3 ?a4 ?a5 ?_))
  case a1 => exact cells_new _ [_] _
  case a2 => intro u hu; simp at hu; subst hu; rfl
  case a3 => unfold maxLen; omega
  case a4 => omega
  case a5 => have := HK.out.size; simp; omega
  intro v' w2 hown' hgrow _ hat
  have hgr : (w1.alloc (.cells #[.int .u8 c] 5)).grownBy w2 (Value.slice A5 bs.length c5).ownBlock := ⟨hgrow.os, hgrow.tape, hgrow.output, hgrow.size, hgrow.block⟩
  obtain ⟨A6, c6, rfl, hc6⟩ := own_shape hown'
  have hb2 : w2.heap[b]? = some (.cells #[.pointer (some ⟨b, 0, none⟩), .slice A5 bs.length c5] 76 (0, 0)) := (hgr.block b (by simp; omega) (fun e => hne e.symm)).trans ((Below.heap_alloc w1 _ b hlt).trans hbk)
  have d0 : w2.cell? ⟨b, 0, none⟩ = some (.pointer (some ⟨b, 0, none⟩)) := by rw [Lib.cell_of_heap hb2]; rfl
  have d1 : w2.cell? ⟨b, 1, none⟩ = some (.slice A5 bs.length c5) := by rw [Lib.cell_of_heap hb2]; rfl
  have f1 : w2.frozen? ⟨b, 1, none⟩ = false := Lib.frozen_of_heap hb2 1
  have HO := Lib.hid hown'
  have HA := Lib.hid hat
  have HG := Lib.hid hgr
  clear hown' hat hgr hgrow hb2 hown hbk hne
  go_wp2
  go_ret
  obtain ⟨r1, r2⟩ := ba_write (o := none) (news := [.int .u8 c]) H1.out HK.out HZ.out (w1.alloc (.cells #[.int .u8 c] 5)) (by simp) rfl rfl rfl (fun x hx => Below.heap_alloc w1 _ x hx) HG.out (by simpa using HO.out) (by
    rcases HA.out with e | e
    · exact .inl e
    · exact .inr ⟨_, by simp, e⟩)
  exact ⟨_, rfl, r1, r2⟩

set_option maxHeartbeats 2000000 in
set_option maxRecDepth 100000 in
theorem writeString_ba (B b : Nat) (used : Bool) (v : Value) (bs : List Value) (s : ByteArray) (w : World) (h : BA B b used v bs w) (hlen : bs.length + s.size ≤ 140737488355328) (hBw : B ≤ w.heap.size) :
    Calls Tryd.prog 86 #[.pointer (some ⟨b, 0, none⟩), .string s] w fun e w' => ∃ v', e = .returned (.tuple #[.int .i64 (s.size : Int), .nilIface]) ∧ BA B b true v' (bs ++ strCells s) w' ∧ Below B w w' := by
  obtain ⟨i0, hi, hz0, hz1, hz2⟩ := info_parts infoByte
  go_enter Tryd.func86, Tryd.ntmps86
  go_wp2_with (go_at_call 112; refine (copyCheck_ba B b used v bs _ h).mono ?_)
  rintro e w1 ⟨rfl, h1, hk1, hz⟩
  obtain ⟨hbk, hown, hne, hBb⟩ := id h1
  obtain ⟨A5, c5, rfl, hc5⟩ := own_shape hown
  have c0 : w1.cell? ⟨b, 0, none⟩ = some (.pointer (some ⟨b, 0, none⟩)) := by rw [Lib.cell_of_heap hbk]; rfl
  have c1 : w1.cell? ⟨b, 1, none⟩ = some (.slice A5 bs.length c5) := by rw [Lib.cell_of_heap hbk]; rfl
  have hlt := heap_lt hbk
  have H1 := Lib.hid h1
  have HK := Lib.hid hk1
  have HZ := Lib.hid hz
  clear h1 hk1 hz
  go_wp2_with (at_builtin; go_loud (refine wpList_append_own_string _ rfl _ _ 74 9 rfl B 5 i0 Tryd.underlying74 Tryd.underlying9 hi hz0 hz1 hz2 _ bs.length _ rfl (by exact hown) _ rfl ?a1 ?a2 ?a3 ?_))
  case a1 => unfold maxLen; omega
  case a2 => omega
  case a3 => have := HK.out.size; omega
  intro v' w2 hown' hgrow hx
  have hb2 : w2.heap[b]? = some (.cells #[.pointer (some ⟨b, 0, none⟩), .slice A5 bs.length c5] 76 (0, 0)) := (hgrow.block b hlt (fun e => hne e.symm)).trans hbk
  have hne2 : v'.ownBlock ≠ some b := Lib.ownBlock_ne hown' hb2 (by decide)
  have hsl : (bs ++ strCells s).length = bs.length + s.size := by simp [strCells]
  have d0 : w2.cell? ⟨b, 0, none⟩ = some (.pointer (some ⟨b, 0, none⟩)) := by rw [Lib.cell_of_heap hb2]; rfl
  have d1 : w2.cell? ⟨b, 1, none⟩ = some (.slice A5 bs.length c5) := by rw [Lib.cell_of_heap hb2]; rfl
  have f1 : w2.frozen? ⟨b, 1, none⟩ = false := Lib.frozen_of_heap hb2 1
  obtain ⟨A6, c6, rfl, hc6⟩ := own_shape hown'
  have HO := Lib.hid hown'
  have HG := Lib.hid hgrow
  have HS := Lib.hid hsl
  have HB2 := Lib.hid hb2
  have HN2 := Lib.hid hne2
  have HE := Lib.hid (fun x hx e => (by have := (hown.lt x e).1; omega : False) : ∀ x, x < B → (Value.slice A5 bs.length c5).ownBlock = some x → False)
  clear hown' hgrow hb2 hown hbk hne hsl hne2
  go_wp2
  refine bodyPost_ret (v := .tuple #[.int .i64 (s.size : Int), .nilIface]) (by simp [results, Tryd.results86, go_sem]) rfl ?_
  have hk := HK.out
  have hks := hk.size
  have hBel1 : Below B w w1 := hk.below h hBw
  refine ⟨_, rfl, ⟨heap_set (i := 1) HB2.out _, ?_, HN2.out, hBb⟩, ?_⟩
  · rw [HS.out]
    exact HO.out.kept (row := some b) (gb_setCell (World.grownBy.refl _ _) (.inl rfl) _) (.inr HN2.out)
  · have hg := HG.out
    have hgs := hg.size
    exact ⟨hg.os.trans hBel1.os, hg.tape.trans hBel1.tape, hg.output.trans hBel1.output, by simp [size_set]; omega, fun x hx => (heap_far (show x ≠ b by omega) _).trans ((hg.block x (by omega) (fun e => HE.out x hx e.symm)).trans (hBel1.block x hx))⟩
end Go.Proofs.YtpflfbfbjmoggaaDoor

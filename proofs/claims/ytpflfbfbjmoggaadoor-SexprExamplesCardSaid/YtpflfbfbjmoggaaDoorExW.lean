/- tellaw1.SexprExamples: the walk. What is laid: the two sentinel errors, the table of powers of ten. -/
import Derived.Test.YtpflfbfbjmoggaaDoorWdW
import Derived.Test.YtpflfbfbjmoggaaDoorPok
import Derived.Test.YtpflfbfbjmoggaaDoorVld
import Derived.Test.YtpflfbfbjmoggaaDoorFor
set_option linter.unusedVariables false
set_option linter.unusedSimpArgs false
namespace Go.Proofs.YtpflfbfbjmoggaaDoor
open Go.RowKit Sx Go.Lib

/-- the world so far, and the faults' blocks in it -/
structure EX (w X : World) (l : List (Nat × Int × Int)) : Prop where
  bel : Below w.heap.size w X
  blk : ∀ g k o, (g, k, o) ∈ l → X.heap[g]? = some (.cells #[.int .i64 k, .int .i64 o] 25 (0, 0))
theorem EX.below {w X Y : World} {l : List (Nat × Int × Int)} (h : EX w X l) (hb : Below X.heap.size X Y) : EX w Y l :=
  ⟨h.bel.trans (hb.mono h.bel.size), fun g k o hm => (hb.block g (heap_lt (h.blk g k o hm))).trans (h.blk g k o hm)⟩
theorem EX.push {w X : World} {l : List (Nat × Int × Int)} (h : EX w X l) (k o : Int) : EX w (X.alloc (.cells #[.int .i64 k, .int .i64 o] 25)) ((X.heap.size, k, o) :: l) := by
  refine ⟨h.bel.alloc h.bel.size _, fun g k' o' hm => ?_⟩
  rcases List.mem_cons.1 hm with e | hm
  · cases e
    exact heap_alloc_new X _
  · exact (Below.heap_alloc X _ g (heap_lt (h.blk g k' o' hm))).trans (h.blk g k' o' hm)
theorem EX.row {w X : World} {l : List (Nat × Int × Int)} (h : EX w X l) {g : Nat} {k o : Int} (hm : (g, k, o) ∈ l) : X.cell? ⟨g, 0, none⟩ = some (.int .i64 k) ∧ X.cell? ⟨g, 1, none⟩ = some (.int .i64 o) :=
  ⟨(row2 (h.blk g k o hm)).1, (row2 (h.blk g k o hm)).2.1⟩

theorem ex_p1 (W : World) : Calls Tryd.prog 11 #[.string ⟨#[41]⟩] W fun e w' => e = .returned (.tuple #[.slice none 0 0, .agg #[.int .i64 2, .int .i64 0]]) ∧ Below W.heap.size W w' :=
  parse_bad _ [41] 2 0 W rfl (by decide) (by rfl)
theorem ex_p2 (W : World) : Calls Tryd.prog 11 #[.string ⟨#[40, 97]⟩] W fun e w' => e = .returned (.tuple #[.slice none 0 0, .agg #[.int .i64 2, .int .i64 2]]) ∧ Below W.heap.size W w' :=
  parse_bad _ [40, 97] 2 2 W rfl (by decide) (by rfl)
theorem ex_p3 (W : World) : Calls Tryd.prog 11 #[.string ⟨#[97, 34, 98, 34, 99]⟩] W fun e w' => (∃ A c, e = .returned (.tuple #[.slice A 3 c, .agg #[.int .i64 0, .int .i64 0]])) ∧ Below W.heap.size W w' := by
  refine (parse_ok _ [97, 34, 98, 34, 99] (.cons 1 [97] .nil 0 (.cons 2 [98] .nil 1 (.cons 1 [99] .nil 4 .nil))) 5 W rfl (by decide) (by rfl)).mono ?_
  rintro e w' ⟨A, c, ys, rfl, _, _, _, hb⟩
  exact ⟨⟨A, c, rfl⟩, hb⟩
theorem ex_p4 (W : World) : Calls Tryd.prog 11 #[.string ⟨#[34, 97, 92, 110, 34]⟩] W fun e w' => e = .returned (.tuple #[.slice none 0 0, .agg #[.int .i64 2, .int .i64 2]]) ∧ Below W.heap.size W w' :=
  parse_bad _ [34, 97, 92, 110, 34] 2 2 W rfl (by decide) (by rfl)
theorem ex_f1 (W : World) : Calls Tryd.prog 12 #[.agg #[.int .i64 0, .string ⟨#[]⟩, .slice none 0 0, .int .i64 0]] W fun e w' => e = .returned (.tuple #[.string ⟨#[]⟩, .int .i64 2]) ∧ Below W.heap.size W w' :=
  format_no 0 0 [] .nil none 0 [] (fun _ => True) W (by decide) (readsAt.none_ _ _) rfl (by decide) trivial (by decide)

/-- the children of the list that is formatted -/
def exKids : Fo := .cons 1 [97] .nil 0 (.cons 2 [34] .nil 0 .nil)
theorem ex_f2 (W : World) (g : Nat) (h : W.heap[g]? = some (.cells #[.int .i64 1, .string ⟨#[97]⟩, .slice none 0 0, .int .i64 0, .int .i64 2, .string ⟨#[34]⟩, .slice none 0 0, .int .i64 0] 31 (0, 0))) :
    Calls Tryd.prog 12 #[.agg #[.int .i64 3, .string ⟨#[]⟩, .slice (some ⟨g, 0, none⟩) 2 2, .int .i64 0]] W fun e w' => e = .returned (.tuple #[.string ⟨#[40, 97, 32, 34, 92, 34, 34, 41]⟩, .int .i64 0]) ∧ Below W.heap.size W w' := by
  refine format_yes 3 0 [] exKids (some ⟨g, 0, none⟩) 2 [.int .i64 1, .string ⟨#[97]⟩, .slice none 0 0, .int .i64 0, .int .i64 2, .string ⟨#[34]⟩, .slice none 0 0, .int .i64 0] (fun _ => True) W (by decide) ?_ ?_ ?_ (by decide) (by decide)
  · intro _
    refine ⟨g, 0, rfl, trivial, heap_lt h, fun j u hu => ?_⟩
    rw [Nat.zero_add, cell_of_row _ _ j _ _ _ h]
    simpa using hu
  · exact ⟨none, 0, [], _, rfl, Nat.le_refl _, readsAt.none_ _ _, rfl, none, 0, [], _, rfl, Nat.le_refl _, readsAt.none_ _ _, rfl, rfl⟩
  · exact ⟨.inr (.inr ⟨rfl, rfl, ⟨.inl ⟨rfl, rfl, by decide⟩, ⟨.inr (.inl ⟨rfl, rfl, by decide⟩), trivial⟩⟩⟩), trivial⟩
theorem ex_i1 (W : World) (h : SC W) : Calls Tryd.prog 13 #[.string ⟨#[45, 57, 50, 50, 51, 51, 55, 50, 48, 51, 54, 56, 53, 52, 55, 55, 53, 56, 48, 56]⟩] W fun e w' => e = .returned (.tuple #[.int .i64 (-9223372036854775808), .bool true]) ∧ Below W.heap.size W w' :=
  sParse_yes _ _ W (by decide) h (by decide +kernel)
theorem ex_i2 (W : World) (h : SC W) : Calls Tryd.prog 13 #[.string ⟨#[45, 48]⟩] W fun e w' => e = .returned (.tuple #[.int .i64 0, .bool false]) ∧ Below W.heap.size W w' :=
  sParse_no _ W (by decide) h (by decide +kernel)
theorem ex_d1 (W : World) : Calls Tryd.prog 15 #[.string ⟨#[120, 95, 49]⟩] W fun e w' => e = .returned (.bool true) ∧ W = w' :=
  (ident_any ⟨#[120, 95, 49]⟩ W (by decide)).mono fun e w' h => ⟨h.1.trans (ret_bool (by decide +kernel)), h.2⟩
theorem ex_d2 (W : World) : Calls Tryd.prog 15 #[.string ⟨#[49, 120]⟩] W fun e w' => e = .returned (.bool false) ∧ W = w' :=
  (ident_any ⟨#[49, 120]⟩ W (by decide)).mono fun e w' h => ⟨h.1.trans (ret_bool (by decide +kernel)), h.2⟩
theorem ex_d3 (W : World) : Calls Tryd.prog 15 #[.string ⟨#[97, 45, 98]⟩] W fun e w' => e = .returned (.bool false) ∧ W = w' :=
  (ident_any ⟨#[97, 45, 98]⟩ W (by decide)).mono fun e w' h => ⟨h.1.trans (ret_bool (by decide +kernel)), h.2⟩

set_option maxHeartbeats 4000000 in
set_option maxRecDepth 100000 in
theorem examples_walk (w : World) (hc : SC w) :
    Calls Tryd.prog 3 #[] w fun e w' => e = .returned (.bool true) ∧ Below w.heap.size w w' := by
  have HC := Lib.hid hc
  have HX0 := Lib.hid (show EX w w [] from ⟨Below.refl _ _, fun g k o h => by cases h⟩)
  have hck : ∀ X, Calls Tryd.prog 14 #[] X fun e u => e = .returned (.bool true) ∧ Below X.heap.size X u := fun X => check_any X
  have HCk := Lib.hid hck
  clear hc hck
  go_enter Tryd.func3, Tryd.ntmps3
  go_wp2_with (fail)
  refine (ex_p1 _).mono ?_
  rintro e w1 ⟨rfl, hb⟩
  have HX1 := Lib.hid ((HX0.out.below hb).push 2 0)
  clear hb
  go_wp2_with (fail)
  refine (ex_p2 _).mono ?_
  rintro e w2 ⟨rfl, hb⟩
  have HX2 := Lib.hid ((HX1.out.below hb).push 2 2)
  clear hb
  go_wp2_with (fail)
  refine (ex_p3 _).mono ?_
  rintro e w3 ⟨⟨A, c, rfl⟩, hb⟩
  have HX3 := Lib.hid ((HX2.out.below hb).push 0 0)
  clear hb
  go_wp2_with (fail)
  refine (ex_p4 _).mono ?_
  rintro e w4 ⟨rfl, hb⟩
  have HX4 := Lib.hid ((HX3.out.below hb).push 2 2)
  clear hb
  go_wp2_with (fail)
  refine (ex_f1 _).mono ?_
  rintro e w5 ⟨rfl, hb⟩
  have HX5 := Lib.hid (HX4.out.below hb)
  clear hb
  go_wp2_with (fail)
  refine (ex_f2 _ w5.heap.size (heap_alloc_new w5 _)).mono ?_
  rintro e w6 ⟨rfl, hb⟩
  have HX6 := Lib.hid ((HX5.out.below ((Below.refl _ _).alloc (Nat.le_refl _) _)).below hb)
  clear hb
  go_wp2_with (fail)
  refine (ex_i1 _ (HC.out.below HX6.out.bel)).mono ?_
  rintro e w7 ⟨rfl, hb⟩
  have HX7 := Lib.hid (HX6.out.below hb)
  clear hb
  go_wp2_with (fail)
  refine (ex_i2 _ (HC.out.below HX7.out.bel)).mono ?_
  rintro e w8 ⟨rfl, hb⟩
  have HX8 := Lib.hid (HX7.out.below hb)
  clear hb
  go_wp2_with (fail)
  refine (HCk.out _).mono ?_
  rintro e w9 ⟨rfl, hb⟩
  have HX9 := Lib.hid (HX8.out.below hb)
  clear hb
  obtain ⟨c1, c2⟩ := HX9.out.row (g := w1.heap.size) (k := 2) (o := 0) (by simp)
  obtain ⟨c3, c4⟩ := HX9.out.row (g := w2.heap.size) (k := 2) (o := 2) (by simp)
  obtain ⟨c5, c6⟩ := HX9.out.row (g := w3.heap.size) (k := 0) (o := 0) (by simp)
  obtain ⟨c7, c8⟩ := HX9.out.row (g := w4.heap.size) (k := 2) (o := 2) (by simp)
  have H1 := Lib.hid ex_d1
  have H2 := Lib.hid ex_d2
  have H3 := Lib.hid ex_d3
  go_wp2_with (first
    | (go_at_call 15; ((with_reducible refine (H1.out _).mono ?_); rintro e u ⟨rfl, rfl⟩))
    | (go_at_call 15; ((with_reducible refine (H2.out _).mono ?_); rintro e u ⟨rfl, rfl⟩))
    | (go_at_call 15; ((with_reducible refine (H3.out _).mono ?_); rintro e u ⟨rfl, rfl⟩)))
  go_ret
  exact ⟨rfl, HX9.out.bel⟩
end Go.Proofs.YtpflfbfbjmoggaaDoor

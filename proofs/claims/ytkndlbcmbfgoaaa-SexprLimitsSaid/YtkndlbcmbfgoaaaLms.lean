/- tellaw1.SexprLimits answers true for every integer: the limits of words, strings, nesting and the whole text hold exactly. No condition. -/
import Derived.Test.YtkndlbcmbfgoaaaRows
import Derived.Test.YtkndlbcmbfgoaaaPost
import Derived.Test.YtkndlbcmbfgoaaaRep
import Derived.Test.YtkndlbcmbfgoaaaLim
import Derived.Test.YtkndlbcmbfgoaaaId
import Derived.ProofKit
import Derived.OpenShut
import Derived.ShutString
namespace Go.Proofs.Ytkndlbcmbfgoaaa.sexprLimits
open Go.ChangeShapes Go.WideShapes Go.ChangeAt Go.RowKit Sx
set_option linter.unusedVariables false
set_option linter.unusedSimpArgs false

theorem own : ownKnob Try.prog.godebug = none := by kernel_rfl

theorem far_trans {a b c : World} (h : Below a.heap.size a b) (k : Below b.heap.size b c) : Below a.heap.size a c := h.trans (k.mono h.size)
theorem far_alloc (w : World) (o : Obj) : Below w.heap.size w (w.alloc o) := (Below.refl _ _).alloc (Nat.le_refl _) _
theorem far_row {w w' : World} {cs : Array Value} {t : TypeId} (h : Below (w.alloc (.cells cs t)).heap.size (w.alloc (.cells cs t)) w') : w'.heap[w.heap.size]? = some (.cells cs t (0, 0)) :=
  (h.block _ (by simp)).trans (heap_alloc_new _ _)

theorem parse_k (s : ByteArray) (l : List UInt8) (k : Int) (o : Nat) (w : World) (hl : s.data.toList = l) (hs : s.size ≤ maxLen) (h : sumR (parseR l) = (k, o)) :
    Calls Try.prog 6 #[.string s] w fun e w' => ∃ A n c, e = .returned (.tuple #[.slice A n c, .agg #[.int .i64 k, .int .i64 (o : Int)]]) ∧ Below w.heap.size w w' := by
  subst hl
  refine (parse_res s w hs).mono ?_
  rintro e w' ⟨A, c, rfl, _, hb⟩
  have hko : kindR (parseR s.data.toList) = k ∧ offR (parseR s.data.toList) = (o : Int) := by
    cases hr : parseR s.data.toList with
    | bad x y => rw [hr] at h; simp only [sumR, Prod.mk.injEq] at h; exact ⟨h.1, by simp only [offR]; rw [h.2]⟩
    | ok x y => rw [hr] at h; simp only [sumR, Prod.mk.injEq] at h; exact ⟨h.1, by simp only [offR]; rw [← h.2]; rfl⟩
  exact ⟨A, (nodesR (parseR s.data.toList)).len, c, by rw [hko.1, hko.2], hb⟩

theorem rep_list (n : Nat) (c : UInt8) : (rep n c).data.toList = List.replicate n c := by simp [rep]
theorem sp_list (n : Nat) (c : UInt8) : (ByteArray.mk #[32] ++ rep n c).data.toList = 32 :: List.replicate n c := by simp [rep]
theorem qu_list (n : Nat) : (ByteArray.mk #[32] ++ (ByteArray.mk #[34] ++ rep n 115 ++ ByteArray.mk #[34])).data.toList = 32 :: 34 :: (List.replicate n 115 ++ [34]) := by simp [rep]
theorem deep_list (n : Nat) : (rep n 40 ++ rep n 41).data.toList = List.replicate n 40 ++ List.replicate n 41 := by simp [rep]
theorem rep_get (n : Nat) (c : UInt8) (i : Nat) (h : i < (rep n c).size) : (rep n c)[i] = c := by
  show (List.replicate n c).toArray[i] = c
  simp


set_option maxHeartbeats 2000000 in
theorem walk0 (a0 : Int) (w : World) (hm : modI a0 3 = 0) :
    Calls Try.prog 5 #[.int .i64 a0] w fun e w' => e = .returned (.bool true) ∧ Below w.heap.size w w' := by
  have hmo := fun W => mod_any a0 3 W (by decide) (by decide)
  rw [hm] at hmo
  have Hmo := Lib.hid hmo
  clear hmo
  have sW := rep_size 23 119
  have sT := rep_size 1999 115
  go_enter Try.func5, Try.ntmps5
  go_wp2_with (fail)
  refine (Hmo.out _).mono ?_
  rintro e0 w0 ⟨rfl, rfl⟩
  go_wp2_with (fail)
  refine (repeat_any 119 23 _ (by decide)).mono ?_
  rintro e1 w1 ⟨rfl, hb1⟩
  go_wp2_with (fail)
  refine (repeat_any 115 1999 _ (by decide)).mono ?_
  rintro e2 w2 ⟨rfl, hb2⟩
  go_wp2_with (fail)
  refine (parse_k _ _ 0 0 _ (sp_list 23 119) (by show (ByteArray.mk #[32] ++ rep 23 119).size ≤ maxLen; rw [ByteArray.size_append, rep_size]; decide) lim_word.1).mono ?_
  rintro e3 w3 ⟨A3, n3, c3, rfl, hb3⟩
  go_wp2_with (fail)
  refine (parse_k _ _ 0 0 _ (qu_list 1999) (by show (ByteArray.mk #[32] ++ (ByteArray.mk #[34] ++ rep 1999 115 ++ ByteArray.mk #[34])).size ≤ maxLen; simp only [ByteArray.size_append, rep_size]; decide) (lim_text 1999 (by decide))).mono ?_
  rintro e4 w4 ⟨A4, n4, c4, rfl, hb4⟩
  go_wp2_with (fail)
  refine (deep_any 39 _ (by decide)).mono ?_
  rintro e5 w5 ⟨rfl, hb5⟩
  go_wp2_with (fail)
  refine (parse_k _ _ 0 0 _ (deep_list 39) (by rw [ByteArray.size_append, rep_size, rep_size]; decide) lim_deep.1).mono ?_
  rintro e6 w6 ⟨A6, n6, c6, rfl, hb6⟩
  go_wp2_with (fail)
  refine (repeat_any 32 65535 _ (by decide)).mono ?_
  rintro e7 w7 ⟨rfl, hb7⟩
  go_wp2_with (fail)
  refine (parse_k _ _ 0 0 _ (rep_list 65535 32) (by rw [rep_size]; decide) (lim_spaces 65535)).mono ?_
  rintro e8 w8 ⟨A8, n8, c8, rfl, hb8⟩
  go_wp2_with (fail)
  refine (check_any _).mono ?_
  rintro e9 w9 ⟨rfl, hb9⟩
  have t8 := hb9
  have t7 := far_trans (far_trans hb7 hb8) (far_trans (far_alloc w8 _) t8)
  have t5 := far_trans (far_trans hb5 hb6) (far_trans (far_alloc w6 _) t7)
  have t4 := far_trans hb4 (far_trans (far_alloc w4 _) t5)
  have t3 := far_trans (far_trans (far_trans hb1 hb2) hb3) (far_trans (far_alloc w3 _) t4)
  obtain ⟨p0, p1, _, _⟩ := row2 (far_row t8)
  obtain ⟨q0, q1, _, _⟩ := row2 (far_row t7)
  obtain ⟨r0, r1, _, _⟩ := row2 (far_row t5)
  obtain ⟨s0, s1, _, _⟩ := row2 (far_row t4)
  have Hid := Lib.hid (fun W : World => (show Calls Try.prog 14 #[.string (rep 23 119)] W fun e w' => e = .returned (.bool true) ∧ W = w' from identLetters (rep 23 119) _ (by rw [rep_size]; decide) (by rw [rep_size]; decide) (fun i h => rep_get _ _ i h)))
  go_wp2_with (go_at_call 14; refine (Hid.out _).mono ?_; rintro e10 w10 ⟨rfl, rfl⟩)
  go_ret
  exact ⟨rfl, t3⟩

set_option maxHeartbeats 2000000 in
theorem walk1 (a0 : Int) (w : World) (hm : modI a0 3 = 1) :
    Calls Try.prog 5 #[.int .i64 a0] w fun e w' => e = .returned (.bool true) ∧ Below w.heap.size w w' := by
  have hmo := fun W => mod_any a0 3 W (by decide) (by decide)
  rw [hm] at hmo
  have Hmo := Lib.hid hmo
  clear hmo
  have sW := rep_size 24 119
  have sT := rep_size 2000 115
  go_enter Try.func5, Try.ntmps5
  go_wp2_with (fail)
  refine (Hmo.out _).mono ?_
  rintro e0 w0 ⟨rfl, rfl⟩
  go_wp2_with (fail)
  refine (repeat_any 119 24 _ (by decide)).mono ?_
  rintro e1 w1 ⟨rfl, hb1⟩
  go_wp2_with (fail)
  refine (repeat_any 115 2000 _ (by decide)).mono ?_
  rintro e2 w2 ⟨rfl, hb2⟩
  go_wp2_with (fail)
  refine (parse_k _ _ 0 0 _ (sp_list 24 119) (by show (ByteArray.mk #[32] ++ rep 24 119).size ≤ maxLen; rw [ByteArray.size_append, rep_size]; decide) lim_word.2.1).mono ?_
  rintro e3 w3 ⟨A3, n3, c3, rfl, hb3⟩
  go_wp2_with (fail)
  refine (parse_k _ _ 0 0 _ (qu_list 2000) (by show (ByteArray.mk #[32] ++ (ByteArray.mk #[34] ++ rep 2000 115 ++ ByteArray.mk #[34])).size ≤ maxLen; simp only [ByteArray.size_append, rep_size]; decide) (lim_text 2000 (by decide))).mono ?_
  rintro e4 w4 ⟨A4, n4, c4, rfl, hb4⟩
  go_wp2_with (fail)
  refine (deep_any 40 _ (by decide)).mono ?_
  rintro e5 w5 ⟨rfl, hb5⟩
  go_wp2_with (fail)
  refine (parse_k _ _ 0 0 _ (deep_list 40) (by rw [ByteArray.size_append, rep_size, rep_size]; decide) lim_deep.2.1).mono ?_
  rintro e6 w6 ⟨A6, n6, c6, rfl, hb6⟩
  go_wp2_with (fail)
  refine (repeat_any 32 65536 _ (by decide)).mono ?_
  rintro e7 w7 ⟨rfl, hb7⟩
  go_wp2_with (fail)
  refine (parse_k _ _ 0 0 _ (rep_list 65536 32) (by rw [rep_size]; decide) (lim_spaces 65536)).mono ?_
  rintro e8 w8 ⟨A8, n8, c8, rfl, hb8⟩
  go_wp2_with (fail)
  refine (check_any _).mono ?_
  rintro e9 w9 ⟨rfl, hb9⟩
  have t8 := hb9
  have t7 := far_trans (far_trans hb7 hb8) (far_trans (far_alloc w8 _) t8)
  have t5 := far_trans (far_trans hb5 hb6) (far_trans (far_alloc w6 _) t7)
  have t4 := far_trans hb4 (far_trans (far_alloc w4 _) t5)
  have t3 := far_trans (far_trans (far_trans hb1 hb2) hb3) (far_trans (far_alloc w3 _) t4)
  obtain ⟨p0, p1, _, _⟩ := row2 (far_row t8)
  obtain ⟨q0, q1, _, _⟩ := row2 (far_row t7)
  obtain ⟨r0, r1, _, _⟩ := row2 (far_row t5)
  obtain ⟨s0, s1, _, _⟩ := row2 (far_row t4)
  have Hid := Lib.hid (fun W : World => (show Calls Try.prog 14 #[.string (rep 24 119)] W fun e w' => e = .returned (.bool true) ∧ W = w' from identLetters (rep 24 119) _ (by rw [rep_size]; decide) (by rw [rep_size]; decide) (fun i h => rep_get _ _ i h)))
  go_wp2_with (go_at_call 14; refine (Hid.out _).mono ?_; rintro e10 w10 ⟨rfl, rfl⟩)
  go_ret
  exact ⟨rfl, t3⟩

set_option maxHeartbeats 2000000 in
theorem walk2 (a0 : Int) (w : World) (hm : modI a0 3 = 2) :
    Calls Try.prog 5 #[.int .i64 a0] w fun e w' => e = .returned (.bool true) ∧ Below w.heap.size w w' := by
  have hmo := fun W => mod_any a0 3 W (by decide) (by decide)
  rw [hm] at hmo
  have Hmo := Lib.hid hmo
  clear hmo
  have sW := rep_size 25 119
  have sT := rep_size 2001 115
  go_enter Try.func5, Try.ntmps5
  go_wp2_with (fail)
  refine (Hmo.out _).mono ?_
  rintro e0 w0 ⟨rfl, rfl⟩
  go_wp2_with (fail)
  refine (repeat_any 119 25 _ (by decide)).mono ?_
  rintro e1 w1 ⟨rfl, hb1⟩
  go_wp2_with (fail)
  refine (repeat_any 115 2001 _ (by decide)).mono ?_
  rintro e2 w2 ⟨rfl, hb2⟩
  go_wp2_with (fail)
  refine (parse_k _ _ 4 1 _ (sp_list 25 119) (by show (ByteArray.mk #[32] ++ rep 25 119).size ≤ maxLen; rw [ByteArray.size_append, rep_size]; decide) lim_word.2.2).mono ?_
  rintro e3 w3 ⟨A3, n3, c3, rfl, hb3⟩
  go_wp2_with (fail)
  refine (parse_k _ _ 4 1 _ (qu_list 2001) (by show (ByteArray.mk #[32] ++ (ByteArray.mk #[34] ++ rep 2001 115 ++ ByteArray.mk #[34])).size ≤ maxLen; simp only [ByteArray.size_append, rep_size]; decide) (lim_text 2001 (by decide))).mono ?_
  rintro e4 w4 ⟨A4, n4, c4, rfl, hb4⟩
  go_wp2_with (fail)
  refine (deep_any 41 _ (by decide)).mono ?_
  rintro e5 w5 ⟨rfl, hb5⟩
  go_wp2_with (fail)
  refine (parse_k _ _ 9 40 _ (deep_list 41) (by rw [ByteArray.size_append, rep_size, rep_size]; decide) lim_deep.2.2).mono ?_
  rintro e6 w6 ⟨A6, n6, c6, rfl, hb6⟩
  go_wp2_with (fail)
  refine (repeat_any 32 65537 _ (by decide)).mono ?_
  rintro e7 w7 ⟨rfl, hb7⟩
  go_wp2_with (fail)
  refine (parse_k _ _ 4 0 _ (rep_list 65537 32) (by rw [rep_size]; decide) (lim_spaces 65537)).mono ?_
  rintro e8 w8 ⟨A8, n8, c8, rfl, hb8⟩
  go_wp2_with (fail)
  refine (check_any _).mono ?_
  rintro e9 w9 ⟨rfl, hb9⟩
  have t8 := hb9
  have t7 := far_trans (far_trans hb7 hb8) (far_trans (far_alloc w8 _) t8)
  have t5 := far_trans (far_trans hb5 hb6) (far_trans (far_alloc w6 _) t7)
  have t4 := far_trans hb4 (far_trans (far_alloc w4 _) t5)
  have t3 := far_trans (far_trans (far_trans hb1 hb2) hb3) (far_trans (far_alloc w3 _) t4)
  obtain ⟨p0, p1, _, _⟩ := row2 (far_row t8)
  obtain ⟨q0, q1, _, _⟩ := row2 (far_row t7)
  obtain ⟨r0, r1, _, _⟩ := row2 (far_row t5)
  obtain ⟨s0, s1, _, _⟩ := row2 (far_row t4)
  have Hid := Lib.hid (fun W : World => (show Calls Try.prog 14 #[.string (rep 25 119)] W fun e w' => e = .returned (.bool false) ∧ W = w' from identBig (rep 25 119) _ (by rw [rep_size]; decide) (by rw [rep_size]; decide)))
  go_wp2_with (go_at_call 14; refine (Hid.out _).mono ?_; rintro e10 w10 ⟨rfl, rfl⟩)
  go_ret
  exact ⟨rfl, t3⟩

theorem walk (a0 : Int) (w : World) :
    Calls Try.prog 5 #[.int .i64 a0] w fun e w' => e = .returned (.bool true) ∧ Below w.heap.size w w' := by
  obtain ⟨h0, h1⟩ := modI_bounds a0 3 (by decide)
  have h : modI a0 3 = 0 ∨ modI a0 3 = 1 ∨ modI a0 3 = 2 := by omega
  rcases h with h | h | h
  · exact walk0 a0 w h
  · exact walk1 a0 w h
  · exact walk2 a0 w h

/-! ### THE ROW's STEP -/
set_option maxRecDepth 100000 in
theorem lifted (os : Os) (started : os.Started) (H : Type) (enc : TypeId × Value → H) :
    ReturnsInHanded {} Try.checked os 5 .any (Rows.sexprLimitsSpec.pre6 enc Try.prog Try.f5 Rows.sexprLimitsRow.domain false) (Rows.sexprLimitsSpec.post enc Try.prog Try.f5 false true false false) := by
  refine returnsInHanded_of_change (C := Try.checked) own started (by kernel_rfl) Try.func5
    (ChangeSpec.witness6 (enc := enc) (C := Try.checked) false ⟨#[], #[.int .i64 0], []⟩ 8 (by kernel_rfl) (by kernel_rfl) (by kernel_rfl) (by kernel_rfl)) ?_
  intro W base args ds gs before hval0 hW hcnd _
  have hval : ∀ (j : Nat) t v, Try.f5.params[j]? = some t → args[j]? = some v → Value.okWide Try.prog W .any base t v := hval0
  have hW' := hW
  obtain ⟨p, q, hA0, hV, rfl, hfz, hnd⟩ := hW
  have hA : DataW.TrodAll enc Try.prog W 0 (fun _ => true) true Try.f5.params.toList args.toList ds p := hA0
  rw [Try.params5] at hA hval
  obtain ⟨v0, vs0, d0, ds0, p0, q0, hargs, rfl, rfl, h0, r0⟩ := trodAll_cons hA
  obtain ⟨rfl, rfl, rfl⟩ := trodAll_nil r0
  obtain rfl : args = #[v0] := by cases args; simp_all
  obtain ⟨rfl, rfl⟩ := trodVars_none hV
  obtain ⟨a0, rfl, rfl, rfl, w0⟩ := open_int Try.underlying3 (hval 0 3 v0 rfl rfl) h0
  clear hA0 hval0
  simp only [List.append_nil] at hW'
  refine (walk a0 W).mono fun e W' ⟨he, bel⟩ => ?_
  subst he
  exact ⟨_, rfl, _, _, _, [], _, [], hW', trodAll_mk1 (shut_bool Try.underlying4 _), (trodAll_cons_mk (shut_int Try.underlying3 w0) trodAll_mk0), rfl, bel.frame _, fun h => by cases h⟩

theorem over : Rows.sexprLimitsRow.holds Try.pinned (OpenSpec.ofChange Rows.sexprLimitsSpec) :=
  OpenClaim.holds_of_wide 5 Try.f5 rfl rfl rfl rfl rfl rfl rfl ⟨rfl, rfl, rfl, rfl, rfl⟩ rfl rfl rfl rfl rfl (by kernel_rfl) Try.func5 (by kernel_rfl)
    (of_decide_eq_true (by kernel_rfl)) (by unfold Func.isWrapper; first | (rw [if_pos (by decide +kernel)]; kernel_rfl) | (rw [if_neg (by decide +kernel)]; exact ⟨rfl, rfl⟩))
    (fun os started H enc _ => lifted os started H enc)

/-- the statement -/
theorem proved : Rows.SexprLimitsSaid :=
  over
end Go.Proofs.Ytkndlbcmbfgoaaa.sexprLimits

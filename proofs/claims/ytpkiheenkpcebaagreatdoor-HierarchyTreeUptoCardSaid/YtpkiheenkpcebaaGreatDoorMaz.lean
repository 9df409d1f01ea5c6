/- telref1.insertInt: a number in its place of a sorted row. No condition but a bounded length. telref1.binders. No condition. telref1.IsTypeKeyword. No condition. -/
import Derived.Test.YtpkiheenkpcebaaGreatDoorMaf
import Derived.Test.YtpkiheenkpcebaaGreatDoorMab
import Derived.Test.YtpkiheenkpcebaaGreatDoorMad
set_option linter.unusedVariables false
set_option linter.unusedSimpArgs false
namespace Go.Proofs.YtpkiheenkpcebaaGreatDoor
open Go.RowKit Sx

theorem insert_done {w w3 : World} {l : List Int} {n : Int} {k L : Nat} {v3 : Value} (hL : l.length = L) (hR : insI l n = l.take k ++ n :: l.drop k) (hk : k ≤ L)
    (ho : w3.ownsRow w.heap.size 3 1 v3 (0 + k + 1 + (L - k)) ([] ++ (l.map (Value.int .i64)).take (k * 1) ++ [.int .i64 n] ++ (l.map (Value.int .i64)).drop k)) (hb : BH w w3) :
    ∃ A' c', Ending.returned v3 = .returned (.slice A' (insI l n).length c') ∧ Cel w3 1 A' (insI l n).length c' ((insI l n).map (Value.int .i64)) ∧ BH w w3 := by
  obtain ⟨A', c', rfl, hc⟩ := own_shape ho
  have e1 : (insI l n).length = 0 + k + 1 + (L - k) := by rw [hR]; simp; omega
  have e2 : (insI l n).map (Value.int .i64) = [] ++ (l.map (Value.int .i64)).take (k * 1) ++ [.int .i64 n] ++ (l.map (Value.int .i64)).drop k := by rw [hR]; simp [List.map_take, List.map_drop]
  rw [e1, e2]
  exact ⟨A', c', rfl, Cel.of_own ho, hb⟩

set_option maxHeartbeats 4000000 in
set_option maxRecDepth 100000 in
theorem insertInt_any (l : List Int) (n : Int) (A : Option Addr) (c : Nat) (w : World) (h : Cel w 1 A l.length c (l.map (Value.int .i64))) (hl : l.length ≤ 1099511627776) :
    Calls Tryz.prog 196 #[.slice A l.length c, .int .i64 n] w fun e w' => ∃ A' c', e = .returned (.slice A' (insI l n).length c') ∧ Cel w' 1 A' (insI l n).length c' ((insI l n).map (Value.int .i64)) ∧ BH w w' := by
  obtain ⟨i0, hi, hz0, hz1, hz2⟩ := info_parts infoInt
  have H := Lib.hid h
  have hlc := h.2.1
  have hcm := h.2.2.1
  unfold maxLen at hcm
  clear h
  obtain ⟨L, hL⟩ : ∃ L, l.length = L := ⟨_, rfl⟩
  rw [hL] at hl hlc ⊢
  have HL := Lib.hid hL
  clear hL
  go_enter Tryz.func196, Tryz.ntmps196
  go_wp2_with (fail)
  go_loopw [5] (fun iv wr => ∃ k : Nat, k ≤ L ∧ iv = .int .i64 (k : Int) ∧ wr = w ∧ Hid (∀ j, j < k → l.getD j 0 < n)) (fun iv _ => L - (match iv with | .int _ n => n.toNat | _ => 0))
  case atStart => exact ⟨0, Nat.zero_le _, rfl, rfl, Lib.hid fun j hj => absurd hj (by omega)⟩
  case round =>
    obtain ⟨k, hk, rfl, rfl, hlo⟩ := hrel
    by_cases hkl : k < L
    · obtain ⟨g, off, rfl, hg, q0⟩ := H.out.int_at (k := k) (by rw [HL.out]; exact hkl)
      obtain ⟨x, hx⟩ : ∃ x, l.getD k 0 = x := ⟨_, rfl⟩
      rw [hx] at q0
      have HX := Lib.hid hx
      have hge : decide ((k : Int) < (L : Int)) = true := by rw [decide_eq_true_eq]; omega
      have hkL : (k : Int) < (L : Int) := by omega
      have hk0 : (0 : Int) ≤ (k : Int) := by omega
      clear hx
      by_cases hlt : x < n
      · have t1 : decide (x < n) = true := decide_eq_true hlt
        go_wp2_with (fail)
        refine ⟨⟨k + 1, by omega, by go_num, trivial, Lib.hid fun j hj => ?_⟩, by simp; omega⟩
        by_cases hjk : j = k
        · subst hjk; rw [HX.out]; exact hlt
        · exact hlo.out j (by omega)
      · have t1 : decide (x < n) = false := decide_eq_false hlt
        by_cases hxn : x = n
        · have t2 : (x == n) = true := by simp [hxn]
          have hR : insI l n = l := by
            rw [insI_at l n k (by rw [HL.out]; omega) hlo.out (.inr (by rw [HX.out]; exact hlt)), if_pos ⟨by rw [HL.out]; exact hkl, by rw [HX.out]; exact hxn⟩]
          have HR := Lib.hid hR
          clear hR hxn hlt
          go_wp2_with (fail)
          go_ret
          rw [HR.out, HL.out]
          exact ⟨_, _, rfl, by have := H.out; rw [HL.out] at this; exact this, BH.refl _⟩
        · have t2 : (x == n) = false := by simp [hxn]
          have hR : insI l n = l.take k ++ n :: l.drop k := by
            rw [insI_at l n k (by rw [HL.out]; omega) hlo.out (.inr (by rw [HX.out]; exact hlt)), if_neg (by rw [HX.out]; exact fun e => hxn e.2)]
          have HR := Lib.hid hR
          have hkc : (k : Int) ≤ (c : Int) := by omega
          clear hR
          go_wp2_with (fail)
          clear HX hlt hxn
          have E1 : Hid ((wr.alloc (.cells #[] 3 (0, 0))).drew.heap[wr.heap.size]? = some (.cells #[] 3 (0, 0))) := Lib.hid (heap_alloc_new wr _)
          have B1 : Hid (BH wr (wr.alloc (.cells #[] 3 (0, 0))).drew) := Lib.hid (BH.trans (bh_alloc (BH.refl _) _) (BH.drew _))
          have E2 : Hid (((wr.alloc (.cells #[] 3 (0, 0))).alloc (.cells #[.int .i64 n] 3 (0, 0))).drew.heap[wr.heap.size]? = some (.cells #[] 3 (0, 0))) := Lib.hid ((Below.heap_alloc (wr.alloc (.cells #[] 3 (0, 0))) _ _ (by simp)).trans (heap_alloc_new wr _))
          have C2 : Hid (((wr.alloc (.cells #[] 3 (0, 0))).alloc (.cells #[.int .i64 n] 3 (0, 0))).drew.heap[wr.heap.size + 1]? = some (.cells #[.int .i64 n] 3 (0, 0))) := Lib.hid (by have h := heap_alloc_new (wr.alloc (.cells #[] 3 (0, 0))) (.cells #[.int .i64 n] 3 (0, 0)); rw [World.size_alloc] at h; exact h)
          have B2 : Hid (BH wr ((wr.alloc (.cells #[] 3 (0, 0))).alloc (.cells #[.int .i64 n] 3 (0, 0))).drew) := Lib.hid (BH.trans (bh_alloc (bh_alloc (BH.refl _) _) _) (BH.drew _))
          have E3 : Hid (((wr.alloc (.cells #[.int .i64 n] 3 (0, 0))).alloc (.cells #[] 3 (0, 0))).drew.heap[wr.heap.size + 1]? = some (.cells #[] 3 (0, 0))) := Lib.hid (by have h := heap_alloc_new (wr.alloc (.cells #[.int .i64 n] 3 (0, 0))) (.cells #[] 3 (0, 0)); rw [World.size_alloc] at h; exact h)
          have C3 : Hid (((wr.alloc (.cells #[.int .i64 n] 3 (0, 0))).alloc (.cells #[] 3 (0, 0))).drew.heap[wr.heap.size]? = some (.cells #[.int .i64 n] 3 (0, 0))) := Lib.hid ((Below.heap_alloc (wr.alloc (.cells #[.int .i64 n] 3 (0, 0))) _ _ (by simp)).trans (heap_alloc_new wr _))
          have B3 : Hid (BH wr ((wr.alloc (.cells #[.int .i64 n] 3 (0, 0))).alloc (.cells #[] 3 (0, 0))).drew) := Lib.hid (BH.trans (bh_alloc (bh_alloc (BH.refl _) _) _) (BH.drew _))
          have HT : Hid (Cel wr 1 (some ⟨g, off, none⟩) k c ((l.map (Value.int .i64)).take (k * 1))) := Lib.hid (by have := H.out.take (k := k) (by rw [HL.out]; omega); exact this)
          have HD : Hid (Cel wr 1 (if c = k then (some ⟨g, off, none⟩ : Option Addr) else some ⟨g, off + k, none⟩) (L - k) (c - k) ((l.map (Value.int .i64)).drop k)) := Lib.hid (by have := H.out.drop (k := k) (by rw [HL.out]; omega); rw [HL.out] at this; rw [Nat.mul_one, Option.map_some, add_none] at this; exact this)
          go_region_held3 (fun _ => True) (go_keep)
            (first
              | (refine step_app _ (by rfl) _ _ _ (by rfl) wr.heap.size 3 i0 (.int .i64 0) 1 8 Tryz.underlying42 hi hz0 hz1 hz2 rfl (by decide) v2 (0 + k + 1) ([] ++ ((l.map (Value.int .i64)).take (k * 1)) ++ [.int .i64 n]) (by rfl) HO2.out (if c = k then (some ⟨g, off, none⟩ : Option Addr) else some ⟨g, off + k, none⟩) (L - k) (c - k) ((l.map (Value.int .i64)).drop k) (by rfl) (HD.out.bh HB2.out) (fun u hu => one_cell l u (List.mem_of_mem_drop hu)) (by unfold maxLen; omega) (by omega) (Below.size (show BH wr _ from HB2.out)) ?_; intro v3 w3 ho3 hg3 ha3; have HO3 := Lib.hid ho3; have HB3 := Lib.hid (bh_own HB2.out hg3 (fun q hq => (HO2.out.lt q hq).1)); clear ho3 hg3 ha3)
              | (refine step_app _ (by rfl) _ _ _ (by rfl) wr.heap.size 3 i0 (.int .i64 0) 1 8 Tryz.underlying42 hi hz0 hz1 hz2 rfl (by decide) v1 (0 + k) ([] ++ ((l.map (Value.int .i64)).take (k * 1))) (by rfl) (HO1.out.alloc _) (some ⟨w1.heap.size, 0, none⟩) 1 1 [.int .i64 n] (by rfl) (cel1 (heap_alloc_new w1 _)) (by intro u hu; simp at hu; subst hu; rfl) (by unfold maxLen; omega) (by omega) (Below.size (show BH wr _ from bh_alloc HB1.out _)) ?_; intro v2 w2 ho2 hg2 ha2; have HO2 := Lib.hid ho2; have HB2 := Lib.hid (bh_own (bh_alloc HB1.out _) hg2 (fun q hq => (HO1.out.lt q hq).1)); clear ho2 hg2 ha2)
              | (refine step_app _ (by rfl) _ _ _ (by rfl) wr.heap.size 3 i0 (.int .i64 0) 1 8 Tryz.underlying42 hi hz0 hz1 hz2 rfl (by decide) v1 (0 + k) ([] ++ ((l.map (Value.int .i64)).take (k * 1))) (by rfl) HO1.out (some ⟨wr.heap.size + 1, 0, none⟩) 1 1 [.int .i64 n] (by rfl) (cel1 HC.out) (by intro u hu; simp at hu; subst hu; rfl) (by unfold maxLen; omega) (by omega) (Below.size (show BH wr _ from HB1.out)) ?_; intro v2 w2 ho2 hg2 ha2; have HO2 := Lib.hid ho2; have HB2 := Lib.hid (bh_own HB1.out hg2 (fun q hq => (HO1.out.lt q hq).1)); clear ho2 hg2 ha2)
              | (refine step_app _ (by rfl) _ _ _ (by rfl) wr.heap.size 3 i0 (.int .i64 0) 1 8 Tryz.underlying42 hi hz0 hz1 hz2 rfl (by decide) v1 (0 + k) ([] ++ ((l.map (Value.int .i64)).take (k * 1))) (by rfl) HO1.out (some ⟨wr.heap.size, 0, none⟩) 1 1 [.int .i64 n] (by rfl) (cel1 HC.out) (by intro u hu; simp at hu; subst hu; rfl) (by unfold maxLen; omega) (by omega) (Below.size (show BH wr _ from HB1.out)) ?_; intro v2 w2 ho2 hg2 ha2; have HO2 := Lib.hid ho2; have HB2 := Lib.hid (bh_own HB1.out hg2 (fun q hq => (HO1.out.lt q hq).1)); clear ho2 hg2 ha2)
              | (refine step_app _ (by rfl) _ _ _ (by rfl) wr.heap.size 3 i0 (.int .i64 0) 1 8 Tryz.underlying42 hi hz0 hz1 hz2 rfl (by decide) (.slice (some ⟨wr.heap.size, 0, none⟩) 0 0) 0 [] (by rfl) (own0 (by with_reducible exact E1.out) (Nat.le_refl _)) (some ⟨g, off, none⟩) k c ((l.map (Value.int .i64)).take (k * 1)) (by rfl) (HT.out.bh (by with_reducible exact B1.out)) (fun u hu => one_cell l u (List.mem_of_mem_take hu)) (by unfold maxLen; omega) (by omega) (Below.size (show BH wr _ by with_reducible exact B1.out)) ?_; intro v1 w1 ho1 hg1 ha1; have HO1 := Lib.hid ho1; have HB1 := Lib.hid (bh_own B1.out hg1 (fun q hq => by simp [Value.ownBlock] at hq; omega));  clear ho1 hg1 ha1)
              | (refine step_app _ (by rfl) _ _ _ (by rfl) wr.heap.size 3 i0 (.int .i64 0) 1 8 Tryz.underlying42 hi hz0 hz1 hz2 rfl (by decide) (.slice (some ⟨wr.heap.size, 0, none⟩) 0 0) 0 [] (by rfl) (own0 (by with_reducible exact E2.out) (Nat.le_refl _)) (some ⟨g, off, none⟩) k c ((l.map (Value.int .i64)).take (k * 1)) (by rfl) (HT.out.bh (by with_reducible exact B2.out)) (fun u hu => one_cell l u (List.mem_of_mem_take hu)) (by unfold maxLen; omega) (by omega) (Below.size (show BH wr _ by with_reducible exact B2.out)) ?_; intro v1 w1 ho1 hg1 ha1; have HO1 := Lib.hid ho1; have HB1 := Lib.hid (bh_own B2.out hg1 (fun q hq => by simp [Value.ownBlock] at hq; omega)); have HC := Lib.hid ((hg1.block _ (heap_lt C2.out) (by simp [Value.ownBlock])).trans C2.out); clear ho1 hg1 ha1)
              | (refine step_app _ (by rfl) _ _ _ (by rfl) wr.heap.size 3 i0 (.int .i64 0) 1 8 Tryz.underlying42 hi hz0 hz1 hz2 rfl (by decide) (.slice (some ⟨wr.heap.size + 1, 0, none⟩) 0 0) 0 [] (by rfl) (own0 (by with_reducible exact E3.out) (Nat.le_succ _)) (some ⟨g, off, none⟩) k c ((l.map (Value.int .i64)).take (k * 1)) (by rfl) (HT.out.bh (by with_reducible exact B3.out)) (fun u hu => one_cell l u (List.mem_of_mem_take hu)) (by unfold maxLen; omega) (by omega) (Below.size (show BH wr _ by with_reducible exact B3.out)) ?_; intro v1 w1 ho1 hg1 ha1; have HO1 := Lib.hid ho1; have HB1 := Lib.hid (bh_own B3.out hg1 (fun q hq => by simp [Value.ownBlock] at hq; omega)); have HC := Lib.hid ((hg1.block _ (heap_lt C3.out) (by simp [Value.ownBlock])).trans C3.out); clear ho1 hg1 ha1))
          all_goals go_wp2_with (fail)
          all_goals
            go_ret
            exact insert_done HL.out HR.out hk HO3.out HB3.out
    · have hge : decide ((k : Int) < (L : Int)) = false := by rw [decide_eq_false_iff_not]; omega
      have hge2 : decide (k < L) = false := by rw [decide_eq_false_iff_not]; omega
      have hR : insI l n = l.take k ++ n :: l.drop k := by
        rw [insI_at l n k (by rw [HL.out]; omega) hlo.out (.inl (by rw [HL.out]; omega)), if_neg (by rw [HL.out]; exact fun e => hkl e.1)]
      have HR := Lib.hid hR
      have hkc : (k : Int) ≤ (c : Int) := by omega
      have hkL : (k : Int) ≤ (L : Int) := by omega
      have hk0 : (0 : Int) ≤ (k : Int) := by omega
      clear hR
      go_wp2_with (fail)
      have E1 : Hid ((wr.alloc (.cells #[] 3 (0, 0))).drew.heap[wr.heap.size]? = some (.cells #[] 3 (0, 0))) := Lib.hid (heap_alloc_new wr _)
      have B1 : Hid (BH wr (wr.alloc (.cells #[] 3 (0, 0))).drew) := Lib.hid (BH.trans (bh_alloc (BH.refl _) _) (BH.drew _))
      have E2 : Hid (((wr.alloc (.cells #[] 3 (0, 0))).alloc (.cells #[.int .i64 n] 3 (0, 0))).drew.heap[wr.heap.size]? = some (.cells #[] 3 (0, 0))) := Lib.hid ((Below.heap_alloc (wr.alloc (.cells #[] 3 (0, 0))) _ _ (by simp)).trans (heap_alloc_new wr _))
      have C2 : Hid (((wr.alloc (.cells #[] 3 (0, 0))).alloc (.cells #[.int .i64 n] 3 (0, 0))).drew.heap[wr.heap.size + 1]? = some (.cells #[.int .i64 n] 3 (0, 0))) := Lib.hid (by have h := heap_alloc_new (wr.alloc (.cells #[] 3 (0, 0))) (.cells #[.int .i64 n] 3 (0, 0)); rw [World.size_alloc] at h; exact h)
      have B2 : Hid (BH wr ((wr.alloc (.cells #[] 3 (0, 0))).alloc (.cells #[.int .i64 n] 3 (0, 0))).drew) := Lib.hid (BH.trans (bh_alloc (bh_alloc (BH.refl _) _) _) (BH.drew _))
      have E3 : Hid (((wr.alloc (.cells #[.int .i64 n] 3 (0, 0))).alloc (.cells #[] 3 (0, 0))).drew.heap[wr.heap.size + 1]? = some (.cells #[] 3 (0, 0))) := Lib.hid (by have h := heap_alloc_new (wr.alloc (.cells #[.int .i64 n] 3 (0, 0))) (.cells #[] 3 (0, 0)); rw [World.size_alloc] at h; exact h)
      have C3 : Hid (((wr.alloc (.cells #[.int .i64 n] 3 (0, 0))).alloc (.cells #[] 3 (0, 0))).drew.heap[wr.heap.size]? = some (.cells #[.int .i64 n] 3 (0, 0))) := Lib.hid ((Below.heap_alloc (wr.alloc (.cells #[.int .i64 n] 3 (0, 0))) _ _ (by simp)).trans (heap_alloc_new wr _))
      have B3 : Hid (BH wr ((wr.alloc (.cells #[.int .i64 n] 3 (0, 0))).alloc (.cells #[] 3 (0, 0))).drew) := Lib.hid (BH.trans (bh_alloc (bh_alloc (BH.refl _) _) _) (BH.drew _))
      have HT : Hid (Cel wr 1 A k c ((l.map (Value.int .i64)).take (k * 1))) := Lib.hid (by have := H.out.take (k := k) (by rw [HL.out]; omega); exact this)
      have HD : Hid (Cel wr 1 (if c = k then A else Option.map (fun x => x.add k) A) (L - k) (c - k) ((l.map (Value.int .i64)).drop k)) := Lib.hid (by have := H.out.drop (k := k) (by rw [HL.out]; omega); rw [HL.out] at this; rw [Nat.mul_one] at this; exact this)
      go_region_held3 (fun _ => True) (go_keep)
        (first
          | (refine step_app _ (by rfl) _ _ _ (by rfl) wr.heap.size 3 i0 (.int .i64 0) 1 8 Tryz.underlying42 hi hz0 hz1 hz2 rfl (by decide) v2 (0 + k + 1) ([] ++ ((l.map (Value.int .i64)).take (k * 1)) ++ [.int .i64 n]) (by rfl) HO2.out (if c = k then A else Option.map (fun x => x.add k) A) (L - k) (c - k) ((l.map (Value.int .i64)).drop k) (by rfl) (HD.out.bh HB2.out) (fun u hu => one_cell l u (List.mem_of_mem_drop hu)) (by unfold maxLen; omega) (by omega) (Below.size (show BH wr _ from HB2.out)) ?_; intro v3 w3 ho3 hg3 ha3; have HO3 := Lib.hid ho3; have HB3 := Lib.hid (bh_own HB2.out hg3 (fun q hq => (HO2.out.lt q hq).1)); clear ho3 hg3 ha3)
          | (refine step_app _ (by rfl) _ _ _ (by rfl) wr.heap.size 3 i0 (.int .i64 0) 1 8 Tryz.underlying42 hi hz0 hz1 hz2 rfl (by decide) v1 (0 + k) ([] ++ ((l.map (Value.int .i64)).take (k * 1))) (by rfl) (HO1.out.alloc _) (some ⟨w1.heap.size, 0, none⟩) 1 1 [.int .i64 n] (by rfl) (cel1 (heap_alloc_new w1 _)) (by intro u hu; simp at hu; subst hu; rfl) (by unfold maxLen; omega) (by omega) (Below.size (show BH wr _ from bh_alloc HB1.out _)) ?_; intro v2 w2 ho2 hg2 ha2; have HO2 := Lib.hid ho2; have HB2 := Lib.hid (bh_own (bh_alloc HB1.out _) hg2 (fun q hq => (HO1.out.lt q hq).1)); clear ho2 hg2 ha2)
          | (refine step_app _ (by rfl) _ _ _ (by rfl) wr.heap.size 3 i0 (.int .i64 0) 1 8 Tryz.underlying42 hi hz0 hz1 hz2 rfl (by decide) v1 (0 + k) ([] ++ ((l.map (Value.int .i64)).take (k * 1))) (by rfl) HO1.out (some ⟨wr.heap.size + 1, 0, none⟩) 1 1 [.int .i64 n] (by rfl) (cel1 HC.out) (by intro u hu; simp at hu; subst hu; rfl) (by unfold maxLen; omega) (by omega) (Below.size (show BH wr _ from HB1.out)) ?_; intro v2 w2 ho2 hg2 ha2; have HO2 := Lib.hid ho2; have HB2 := Lib.hid (bh_own HB1.out hg2 (fun q hq => (HO1.out.lt q hq).1)); clear ho2 hg2 ha2)
          | (refine step_app _ (by rfl) _ _ _ (by rfl) wr.heap.size 3 i0 (.int .i64 0) 1 8 Tryz.underlying42 hi hz0 hz1 hz2 rfl (by decide) v1 (0 + k) ([] ++ ((l.map (Value.int .i64)).take (k * 1))) (by rfl) HO1.out (some ⟨wr.heap.size, 0, none⟩) 1 1 [.int .i64 n] (by rfl) (cel1 HC.out) (by intro u hu; simp at hu; subst hu; rfl) (by unfold maxLen; omega) (by omega) (Below.size (show BH wr _ from HB1.out)) ?_; intro v2 w2 ho2 hg2 ha2; have HO2 := Lib.hid ho2; have HB2 := Lib.hid (bh_own HB1.out hg2 (fun q hq => (HO1.out.lt q hq).1)); clear ho2 hg2 ha2)
          | (refine step_app _ (by rfl) _ _ _ (by rfl) wr.heap.size 3 i0 (.int .i64 0) 1 8 Tryz.underlying42 hi hz0 hz1 hz2 rfl (by decide) (.slice (some ⟨wr.heap.size, 0, none⟩) 0 0) 0 [] (by rfl) (own0 (by with_reducible exact E1.out) (Nat.le_refl _)) A k c ((l.map (Value.int .i64)).take (k * 1)) (by rfl) (HT.out.bh (by with_reducible exact B1.out)) (fun u hu => one_cell l u (List.mem_of_mem_take hu)) (by unfold maxLen; omega) (by omega) (Below.size (show BH wr _ by with_reducible exact B1.out)) ?_; intro v1 w1 ho1 hg1 ha1; have HO1 := Lib.hid ho1; have HB1 := Lib.hid (bh_own B1.out hg1 (fun q hq => by simp [Value.ownBlock] at hq; omega));  clear ho1 hg1 ha1)
          | (refine step_app _ (by rfl) _ _ _ (by rfl) wr.heap.size 3 i0 (.int .i64 0) 1 8 Tryz.underlying42 hi hz0 hz1 hz2 rfl (by decide) (.slice (some ⟨wr.heap.size, 0, none⟩) 0 0) 0 [] (by rfl) (own0 (by with_reducible exact E2.out) (Nat.le_refl _)) A k c ((l.map (Value.int .i64)).take (k * 1)) (by rfl) (HT.out.bh (by with_reducible exact B2.out)) (fun u hu => one_cell l u (List.mem_of_mem_take hu)) (by unfold maxLen; omega) (by omega) (Below.size (show BH wr _ by with_reducible exact B2.out)) ?_; intro v1 w1 ho1 hg1 ha1; have HO1 := Lib.hid ho1; have HB1 := Lib.hid (bh_own B2.out hg1 (fun q hq => by simp [Value.ownBlock] at hq; omega)); have HC := Lib.hid ((hg1.block _ (heap_lt C2.out) (by simp [Value.ownBlock])).trans C2.out); clear ho1 hg1 ha1)
          | (refine step_app _ (by rfl) _ _ _ (by rfl) wr.heap.size 3 i0 (.int .i64 0) 1 8 Tryz.underlying42 hi hz0 hz1 hz2 rfl (by decide) (.slice (some ⟨wr.heap.size + 1, 0, none⟩) 0 0) 0 [] (by rfl) (own0 (by with_reducible exact E3.out) (Nat.le_succ _)) A k c ((l.map (Value.int .i64)).take (k * 1)) (by rfl) (HT.out.bh (by with_reducible exact B3.out)) (fun u hu => one_cell l u (List.mem_of_mem_take hu)) (by unfold maxLen; omega) (by omega) (Below.size (show BH wr _ by with_reducible exact B3.out)) ?_; intro v1 w1 ho1 hg1 ha1; have HO1 := Lib.hid ho1; have HB1 := Lib.hid (bh_own B3.out hg1 (fun q hq => by simp [Value.ownBlock] at hq; omega)); have HC := Lib.hid ((hg1.block _ (heap_lt C3.out) (by simp [Value.ownBlock])).trans C3.out); clear ho1 hg1 ha1))
      all_goals go_wp2_with (fail)
      all_goals
        go_ret
        exact insert_done HL.out HR.out hk HO3.out HB3.out
end Go.Proofs.YtpkiheenkpcebaaGreatDoor
namespace Go.Proofs.YtpkiheenkpcebaaGreatDoor
open Go.RowKit Sx

theorem binders_any (k o : Int) (i : Nat) (t : List UInt8) (A : Option Addr) (n c : Nat) (w : World) :
    Calls Tryz.prog 128 #[.agg #[.int .i64 k, .string ⟨t.toArray⟩, .int .i64 o, .slice A n c], .int .i64 (i : Int)] w fun e w' => e = .returned (.int .i64 (aroundB k i 0)) ∧ BH w w' := by
  obtain ⟨b0, b1, b2, b3⟩ := box4 w (.int .i64 k) (.string ⟨t.toArray⟩) (.int .i64 o) (.slice A n c) 34
  have B1 : BH w (w.alloc (.cells #[.int .i64 k, .string ⟨t.toArray⟩, .int .i64 o, .slice A n c] 34 (0, 0))) := (Below.refl _ _).alloc (Nat.le_refl _) _
  have HB := Lib.hid B1
  clear B1
  by_cases hk : k = 6
  · subst hk
    by_cases hi : i = 1
    · subst hi
      rw [show aroundB 6 1 0 = 1 from by simp [aroundB]]
      go_enter Tryz.func128, Tryz.ntmps128
      go_wp2_with (fail)
      go_ret
      exact ⟨rfl, HB.out⟩
    · have t1 : ((i : Int) == 1) = false := by rw [beq_eq_false_iff_ne]; omega
      rw [show aroundB 6 i 0 = 0 from by simp [aroundB, hi]]
      go_enter Tryz.func128, Tryz.ntmps128
      go_wp2_with (fail)
      go_ret
      exact ⟨rfl, HB.out⟩
  · have t1 : (k == 6) = false := by simp [hk]
    rw [show aroundB k i 0 = 0 from by simp [aroundB, hk]]
    go_enter Tryz.func128, Tryz.ntmps128
    go_wp2_with (fail)
    go_ret
    exact ⟨rfl, HB.out⟩
end Go.Proofs.YtpkiheenkpcebaaGreatDoor
namespace Go.Proofs.YtpkiheenkpcebaaGreatDoor
open Go.RowKit Sx

set_option maxHeartbeats 1000000 in
theorem isTypeKeyword_any (s : ByteArray) (w : World) {V : Bool} (hV : kwL.contains s.data.toList = V) :
    Calls Tryz.prog 120 #[.string s] w fun e w' => e = .returned (.bool V) ∧ w = w' := by
  subst hV
  have ext : ∀ l : List UInt8, s.data.toList = l → s = ⟨l.toArray⟩ := fun l h => by
    apply ByteArray.ext
    apply Array.ext'
    rw [h]
  by_cases h1 : s.data.toList = [65, 110, 121]
  · obtain rfl := ext _ h1
    clear ext
    go_enter Tryz.func120, Tryz.ntmps120
    go_wp2_with (fail)
    go_ret
    exact ⟨rfl, rfl⟩
  by_cases h2 : s.data.toList = [78, 101, 118, 101, 114]
  · obtain rfl := ext _ h2
    clear ext
    go_enter Tryz.func120, Tryz.ntmps120
    go_wp2_with (fail)
    go_ret
    exact ⟨rfl, rfl⟩
  by_cases h3 : s.data.toList = [116, 117, 112, 108, 101]
  · obtain rfl := ext _ h3
    clear ext
    go_enter Tryz.func120, Tryz.ntmps120
    go_wp2_with (fail)
    go_ret
    exact ⟨rfl, rfl⟩
  by_cases h4 : s.data.toList = [117, 110, 105, 111, 110]
  · obtain rfl := ext _ h4
    clear ext
    go_enter Tryz.func120, Tryz.ntmps120
    go_wp2_with (fail)
    go_ret
    exact ⟨rfl, rfl⟩
  by_cases h5 : s.data.toList = [101, 120, 105, 115, 116, 115]
  · obtain rfl := ext _ h5
    clear ext
    go_enter Tryz.func120, Tryz.ntmps120
    go_wp2_with (fail)
    go_ret
    exact ⟨rfl, rfl⟩
  rw [show kwL.contains s.data.toList = false by simp [kwL, h1, h2, h3, h4, h5]]
  rw [← ByteArray.toList_eq] at h1 h2 h3 h4 h5
  have q1 : (s.toList == [65, 110, 121]) = false := by simpa using h1
  have q2 : (s.toList == [78, 101, 118, 101, 114]) = false := by simpa using h2
  have q3 : (s.toList == [116, 117, 112, 108, 101]) = false := by simpa using h3
  have q4 : (s.toList == [117, 110, 105, 111, 110]) = false := by simpa using h4
  have q5 : (s.toList == [101, 120, 105, 115, 116, 115]) = false := by simpa using h5
  clear ext
  go_enter Tryz.func120, Tryz.ntmps120
  go_wp2_with (fail)
  go_ret
  exact ⟨rfl, rfl⟩
end Go.Proofs.YtpkiheenkpcebaaGreatDoor

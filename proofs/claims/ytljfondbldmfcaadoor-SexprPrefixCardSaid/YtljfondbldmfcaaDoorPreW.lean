/- tellaw1.SexprPrefix: the walk. No condition but the two tables. -/
import Derived.Test.YtljfondbldmfcaaDoorLaw
import Derived.Test.YtljfondbldmfcaaDoorFmt
import Derived.Test.YtljfondbldmfcaaDoorPok
import Derived.Test.YtljfondbldmfcaaDoorRt3
set_option linter.unusedVariables false
set_option linter.unusedSimpArgs false
namespace Go.Proofs.YtljfondbldmfcaaDoor
open Go.RowKit Sx

/-- how long one generated node's text is, and how many nodes it has -/
theorem fsize_ok {W T : List (List UInt8)} (f : Fo) : ∀ d, okF W T false d f → fsize f ≤ f.len * (5 ^ (d + 1)) := by
  induction f with
  | nil => intro d _; simp [fsize]
  | cons k t kids o rest ihk ihr =>
    intro d h
    obtain ⟨h1, h2⟩ := h
    have r1 := ihr d h2
    have hp : 1 ≤ 5 ^ (d + 1) := Nat.one_le_pow _ _ (by decide)
    have hk : fsize kids + 1 ≤ 5 ^ (d + 1) := by
      rcases h1 with ⟨_, rfl, _⟩ | ⟨_, _, _, hd, h4, hk⟩ | ⟨hb, _⟩ | ⟨hb, _⟩
      · simp [fsize]; exact hp
      · obtain ⟨d, rfl⟩ : ∃ d', d = d' + 1 := ⟨d - 1, by omega⟩
        have h1 := ihk d hk
        have h5 : kids.len * 5 ^ (d + 1) ≤ 4 * 5 ^ (d + 1) := Nat.mul_le_mul_right _ h4
        have hp' : 1 ≤ 5 ^ (d + 1) := Nat.one_le_pow _ _ (by decide)
        have e : 5 ^ (d + 1 + 1) = 5 ^ (d + 1) * 5 := Nat.pow_succ ..
        omega
      · cases hb
      · cases hb
    simp only [fsize, Fo.len, Nat.add_mul]
    omega

theorem node_text {W T : List (List UInt8)} (hW : ∀ u ∈ W, okW u = true) (hT : ∀ u ∈ T, okS u = true) {d : Nat} {k o : Int} {t : List UInt8} {kids : Fo} (hd : d ≤ 4) (h : okF W T false d (.one k t kids o)) :
    (fmtF false (.one k t kids o)).length ≤ 13311 ∧ (fmt1 k t (fmtF false kids)).length ≤ 13311 ∧ fsize kids ≤ 3125 ∧ fsize (.one k t kids o) ≤ 3125 ∧ 1 ≤ (fmt1 k t (fmtF false kids)).length := by
  have h1 := len_of_ok hW hT _ d false h
  have h2 := fsize_ok _ d h
  obtain ⟨h3, _⟩ := vF_of_ok hW hT _ d h
  have h4 := fmtF_cons_len false k t kids o .nil
  have h5 : 1 ≤ (fmt1 k t (fmtF false kids)).length := by
    rcases h3.1 with ⟨rfl, rfl, hw⟩ | ⟨rfl, rfl, hs⟩ | ⟨rfl, rfl, hk⟩
    · simp [okW] at hw
      simp only [fmt1, if_true]
      cases t with
      | nil => simp at hw
      | cons => simp
    · simp [fmt1, quoteB]
    · simp [fmt1]
  simp only [Fo.one, Fo.len, Nat.zero_add, Nat.one_mul, fsize] at h1 h2 h4 ⊢
  have e : d = 0 ∨ d = 1 ∨ d = 2 ∨ d = 3 ∨ d = 4 := by omega
  rcases e with rfl | rfl | rfl | rfl | rfl <;> simp only [lenB] at h1 <;> omega

theorem cells_new0 (w : World) (cs : List Value) (t : TypeId) : ∀ j u, cs[j]? = some u → (w.alloc (.cells cs.toArray t)).cell? ⟨w.heap.size, 0 + j, none⟩ = some u := by
  intro j u hu
  rw [Nat.zero_add, cell_of_row _ _ j _ _ _ (heap_alloc_new w _)]
  simpa using hu

/-- a string's letters, by a letter of its own -/
theorem str_of (l : List UInt8) : ∃ s : ByteArray, (⟨l.toArray⟩ : ByteArray) = s ∧ s.data.toList = l ∧ s.size = l.length := ⟨_, rfl, rfl, by show l.toArray.size = _; simp⟩

set_option maxHeartbeats 4000000 in
set_option maxRecDepth 100000 in
theorem prefix_walk (a0 : Option Addr) (len0 cap0 : Nat) (z0 : List Int) (a1 : Option Addr) (len1 cap1 : Nat) (z1 : List Int) (cut : Int) (w : World)
    (hl0 : len0 ≤ maxLen) (hI0 : Ints w a0 len0 z0) (hl1 : len1 ≤ maxLen) (hI1 : Ints w a1 len1 z1) (W T : List (List UInt8)) (hW : ∀ u ∈ W, okW u = true) (hT : ∀ u ∈ T, okS u = true)
    (gw ow cw gs ot cs : Nat) (tW : TabW w 2 16 W gw ow cw) (tT : TabW w 1 6 T gs ot cs) :
    Calls Tryd.prog 9 #[.slice a0 len0 cap0, .slice a1 len1 cap1, .int .i64 cut] w fun e w' => e = .returned (.bool true) ∧ Below w.heap.size w w' := by
  have HI0 := Lib.hid hI0
  have HI1 := Lib.hid hI1
  have HW := Lib.hid hW
  have HT := Lib.hid hT
  have TW := Lib.hid tW
  have TT := Lib.hid tT
  clear hI0 hI1 hW hT tW tT
  go_enter Tryd.func9, Tryd.ntmps9
  go_wp2_with (fail)
  refine (new_any _ _ _ _).mono ?_
  rintro e1 w1 ⟨rfl, rfl⟩
  go_wp2_with (fail)
  refine (any_false 3 _ _ _ _ _ _ _ _ _ _ _ _ _ _ (gen_new (Below.refl _ _) hl0 HI0.out TW.out TT.out) (by decide)).mono ?_
  rintro e2 w2 ⟨k, o, t, kids, A, c, ys, rfl, hc, hr, hk, hok, hG, hgb⟩
  have hB2 : Below w.heap.size w w2 := below_gb_of ((Below.refl _ _).alloc (Nat.le_refl _) _) hgb (Nat.le_refl _)
  clear hgb hG
  go_wp2_with (fail)
  obtain ⟨n1, n2, n3, n4, n5⟩ := node_text HW.out HT.out (by decide) hok
  have hl1' : (fmt1 3 [] (fmtF false (.one k t kids o))).length = (fmtF false (.one k t kids o)).length + 2 := by simp [fmt1]
  have B2 : Below w2.heap.size w2 (w2.alloc (.cells #[.int .i64 k, .string ⟨t.toArray⟩, .slice A kids.len c, .int .i64 o] 39)) := (Below.refl _ _).alloc (Nat.le_refl _) _
  refine (format_any _ 3 0 [] (.one k t kids o) (some ⟨w2.heap.size, 0, none⟩) 1 [.int .i64 k, .string ⟨t.toArray⟩, .slice A kids.len c, .int .i64 o] (fun _ => True) _ (Nat.le_refl _) (by omega) (Nat.le_refl _)
    (fun _ => ⟨w2.heap.size, 0, rfl, trivial, by simp, cells_new0 w2 [.int .i64 k, .string ⟨t.toArray⟩, .slice A kids.len c, .int .i64 o] 39⟩)
    (rowOf.one hc (hr.keep B2.size fun x hx hl => ⟨B2.block x hl, trivial⟩) (hk.keep B2.size (fun x hx hl => ⟨B2.block x hl, trivial⟩) _)) (by omega)).mono ?_
  rintro e3 w3 ⟨rfl, hb3⟩
  obtain ⟨s, hs0, hs, hsz⟩ := str_of (fmt1 3 [] (fmtF false (.one k t kids o)))
  rw [hs0]
  clear hs0
  rw [hl1'] at hsz
  have hB3 : Below w.heap.size w w3 := hB2.trans ((B2.trans (hb3.mono (by simp))).mono hB2.size)
  have Hs := Lib.hid hs
  have Hok := Lib.hid hok
  clear hs hok hc hr hk hb3 B2 n2 n3 n4 n5 hl1'
  have hs1 : s.size ≤ 13313 := by omega
  have hs2 : 2 ≤ s.size := by omega
  clear hsz n1
  go_wp2_with (fail)
  refine (new_any _ _ _ _).mono ?_
  rintro e4 w4 ⟨rfl, rfl⟩
  go_wp2_with (fail)
  refine (any_false 3 _ _ _ _ _ _ _ _ _ _ _ _ _ _ (gen_new hB3 hl1 HI1.out TW.out TT.out) (by decide)).mono ?_
  rintro e5 w5 ⟨k', o', t', kids', A', c', ys', rfl, hc', hr', hk', hok', hG', hgb'⟩
  have hB5 : Below w.heap.size w w5 := below_gb_of (hB3.alloc hB3.size _) hgb' hB3.size
  clear hgb' hG'
  go_wp2_with (fail)
  obtain ⟨n1, n2, n3, n4, n5⟩ := node_text HW.out HT.out (by decide) hok'
  refine (format_any _ k' o' t' kids' A' c' ys' _ _ (Nat.le_refl _) (by omega) hc' hr' hk' (by omega)).mono ?_
  rintro e6 w6 ⟨rfl, hb6⟩
  obtain ⟨s2, hs20, hs2l, hs2z⟩ := str_of (fmt1 k' t' (fmtF false kids'))
  rw [hs20]
  clear hs20
  have hB6 : Below w.heap.size w w6 := hB5.trans (hb6.mono hB5.size)
  have Hs2 := Lib.hid hs2l
  have Hok2 := Lib.hid hok'
  clear hs2l hok' hc' hr' hk' hb6
  have hs21 : s2.size ≤ 13311 := by omega
  clear n1 n2 n3 n4 n5 hs2z
  obtain ⟨r0, r1⟩ := modI_bounds cut ((s.size : Int) - 1) (by omega)
  go_wp2_with (fail)
  refine (mod_any cut ((s.size : Int) - 1) _ (by omega) (by omega)).mono ?_
  rintro e7 w7 ⟨rfl, rfl⟩
  obtain ⟨x, hx⟩ := Int.eq_ofNat_of_zero_le r0
  rw [hx] at r1 ⊢
  clear hx r0
  have hx1 : (1 : Int) + (x : Int) ≤ (s.size : Int) := by omega
  go_wp2_with (fail)
  obtain ⟨hv, hdp⟩ := vF_of_ok HW.out HT.out _ 3 Hok.out
  obtain ⟨hv2, hdp2⟩ := vF_of_ok HW.out HT.out _ 3 Hok2.out
  have hFl : (fmtF false (.one k t kids o)).length + 2 = s.size := by
    have := congrArg List.length Hs.out
    simp [fmt1] at this
    omega
  obtain ⟨bad, hbad⟩ := parse_cut (.one k t kids o) x hv (by omega) (by omega) (by omega)
  have hex : (s.extract 0 (1 + x)).data.toList = 40 :: (fmtF false (.one k t kids o)).take x := by
    rw [extract_eq]
    show ((s.data.toList.drop 0).take (1 + x - 0)) = _
    rw [Hs.out, List.drop_zero, show 1 + x - 0 = x + 1 from by omega]
    simp only [fmt1, show ¬ ((3 : Int) = 1) from by decide, show ¬ ((3 : Int) = 2) from by decide, if_false, List.take_succ_cons]
    rw [List.take_append_of_le_length (by omega)]
  have hexs : (s.extract 0 (1 + x)).size ≤ maxLen := by
    have : (s.extract 0 (1 + x)).size ≤ s.size := by rw [ByteArray.size_extract]; omega
    unfold maxLen; omega
  refine (parse_bad _ _ 2 bad _ hex hexs hbad).mono ?_
  rintro e8 w8 ⟨rfl, hb8⟩
  clear hex hexs hbad
  have hF8 := heap_alloc_new w8 (.cells #[.int .i64 2, .int .i64 (bad : Int)] 25 (0, 0))
  have hB8 : Below w.heap.size w (w8.alloc (.cells #[.int .i64 2, .int .i64 (bad : Int)] 25 (0, 0))) := (hB6.trans (hb8.mono hB6.size)).alloc (by have := hB6.size; have := hb8.size; omega) _
  have hs3 : (s.size : Int) ≤ 8388608 := by omega
  have hs4 : (s2.size : Int) ≤ 8388608 := by omega
  have hs5 : ((s ++ ByteArray.mk #[32]).size : Int) ≤ 8388608 := by rw [ByteArray.size_append]; have : (ByteArray.mk #[32]).size = 1 := rfl; omega
  have hs6 : ((ByteArray.mk #[32]).size : Int) ≤ 8388608 := by decide
  go_wp2_with (fail)
  obtain ⟨g1, g2, o1, q, htwo⟩ := parse_two (.one k t kids o) k' t' kids' o' hv hv2 (by omega) (by omega) (by have := congrArg List.length Hs.out; have h2 := congrArg List.length Hs2.out; simp at this h2; omega)
  have hlen1 : (fmt1 3 [] (fmtF false (.one k t kids o))).length = s.size := by have := congrArg List.length Hs.out; simpa using this.symm
  rw [hlen1] at htwo
  have hcat : (s ++ ByteArray.mk #[32] ++ s2).data.toList = fmt1 3 [] (fmtF false (.one k t kids o)) ++ (32 :: fmt1 k' t' (fmtF false kids')) := by
    simp [Hs.out, Hs2.out]
  have hcats : (s ++ ByteArray.mk #[32] ++ s2).size ≤ maxLen := by
    simp only [ByteArray.size_append]
    have : (ByteArray.mk #[32]).size = 1 := rfl
    unfold maxLen; omega
  refine (parse_ok _ _ _ q _ hcat hcats htwo).mono ?_
  rintro e9 w9 ⟨A9, c9, ys9, rfl, hc9, hr9, hx9, hb9⟩
  clear hcat hcats htwo
  have hF9 := heap_alloc_new w9 (.cells #[.int .i64 0, .int .i64 0] 25 (0, 0))
  have hs8 := hB8.size
  have hs9 := hb9.size
  have hB9 : Below w.heap.size w (w9.alloc (.cells #[.int .i64 0, .int .i64 0] 25 (0, 0))) := (hB8.trans (hb9.mono (by simpa using hs8))).alloc (by omega) _
  obtain ⟨A1, c1, ys1, zs1, rfl, _, _, _, hx2⟩ := hx9
  obtain ⟨A2, c2, ys2, zs2, rfl, _, _, _, _⟩ := hx2
  obtain ⟨g9, off9, rfl, _, hlt9, hcell9⟩ := hr9 (by simp [Fo.len])
  have a7 := hcell9 7 _ rfl
  clear hcell9 hr9
  have hl9 : (Fo.cons 3 [] g1 o1 (.cons k' t' g2 ((s.size + 1 : Nat) : Int) .nil)).len = 2 := rfl
  rw [hl9] at hc9 ⊢
  clear hl9
  go_wp2_with (fail)
  refine (check_any _).mono ?_
  rintro e10 w10 ⟨rfl, hb10⟩
  have hf8 := (hb10.block w8.heap.size (by simp at hs9 ⊢; omega)).trans ((Below.heap_alloc w9 _ _ (by simp at hs9; omega)).trans ((hb9.block _ (by simp)).trans hF8))
  have hf9 := (hb10.block w9.heap.size (by simp)).trans hF9
  obtain ⟨f0, f1, _, _⟩ := row2 hf8
  obtain ⟨f2, f3, _, _⟩ := row2 hf9
  have a7' := (World.cell?_of_block (a := ⟨g9, off9 + 7, none⟩) ((hb10.block g9 (by simp; omega)).trans (Below.heap_alloc w9 _ _ hlt9))).trans a7
  clear a7
  go_wp2_with (fail)
  go_ret
  exact ⟨rfl, hB9.trans (hb10.mono hB9.size)⟩
end Go.Proofs.YtljfondbldmfcaaDoor

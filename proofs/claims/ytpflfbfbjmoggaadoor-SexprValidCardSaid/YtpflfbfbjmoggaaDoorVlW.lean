/- tellaw1.SexprValid: the walk. No condition but the two tables. -/
import Derived.Test.YtpflfbfbjmoggaaDoorRtW
import Derived.Test.YtpflfbfbjmoggaaDoorAnyB
import Derived.Test.YtpflfbfbjmoggaaDoorVlr
set_option linter.unusedVariables false
set_option linter.unusedSimpArgs false
namespace Go.Proofs.YtpflfbfbjmoggaaDoor
open Go.RowKit Sx

theorem fsize_okV {W T : List (List UInt8)} {bad : Bool} (f : Fo) : ∀ d, okF W T bad d f → fsize f ≤ f.len * (5 ^ (d + 1)) := by
  induction f with
  | nil => intro d _; simp [fsize]
  | cons k t kids o rest ihk ihr =>
    intro d h
    obtain ⟨h1, h2⟩ := h
    have r1 := ihr d h2
    have hp : 1 ≤ 5 ^ d := Nat.one_le_pow _ _ (by decide)
    have e : 5 ^ (d + 1) = 5 ^ d * 5 := Nat.pow_succ ..
    have hk : fsize kids + 1 ≤ 5 ^ (d + 1) := by
      rcases h1 with ⟨_, rfl, _⟩ | ⟨_, _, _, hd, h4, hk⟩ | ⟨_, _, _, _, _, u, _, rfl⟩ | ⟨_, _, _, rfl⟩
      · simp [fsize]; omega
      · obtain ⟨d, rfl⟩ : ∃ d', d = d' + 1 := ⟨d - 1, by omega⟩
        have h1 := ihk d hk
        have h5 : kids.len * 5 ^ (d + 1) ≤ 4 * 5 ^ (d + 1) := Nat.mul_le_mul_right _ h4
        omega
      · simp [fsize, Fo.one]; omega
      · simp [fsize]; omega
    simp only [fsize, Fo.len, Nat.add_mul]
    omega

/-- the node's block, and where its children lie: elsewhere -/
def NBlk (X : World) (g : Nat) (ty : TypeId) (k o : Int) (t : List UInt8) (kids : Fo) (A : Option Addr) (c : Nat) : Prop :=
  X.heap[g]? = some (.cells #[.int .i64 k, .string ⟨t.toArray⟩, .slice A kids.len c, .int .i64 o] ty (0, 0)) ∧ kids.len ≤ c ∧ ∃ ys, readsAt X (fun x => x ≠ g) A kids.len ys ∧ rowOf X (fun x => x ≠ g) kids ys
theorem NBlk.nd {X : World} {g : Nat} {ty : TypeId} {k o : Int} {t : List UInt8} {kids : Fo} {A : Option Addr} {c : Nat} (h : NBlk X g ty k o t kids A c) : ∃ ys, NdT X kids A c ys := by
  obtain ⟨_, hc, ys, h1, h2⟩ := h
  exact ⟨ys, NdT.of hc h1 h2 (Below.refl _ _)⟩

/-- the node set anew, and the row of its only child behind it -/
def wrapW (wr : World) (g : Nat) (k o : Int) (t : List UInt8) (kids : Fo) (A : Option Addr) (c : Nat) : World :=
  (((((wr.setCell ⟨g, 0, none⟩ (.int .i64 3)).setCell ⟨g, 1, none⟩ (.string ⟨#[]⟩)).setCell ⟨g, 2, none⟩ (.slice (some ⟨wr.heap.size, 0, none⟩) 1 1)).setCell ⟨g, 3, none⟩ (.int .i64 0)).alloc (.cells #[.int .i64 k, .string ⟨t.toArray⟩, .slice A kids.len c, .int .i64 o] 39))

/-- one list more round the node -/
theorem wrap_step {wr : World} {g : Nat} {k o : Int} {t : List UInt8} {kids : Fo} {A : Option Addr} {c : Nat} (h : NBlk wr g 39 k o t kids A c) :
    NBlk (wrapW wr g k o t kids A c) g 39 3 0 [] (.one k t kids o) (some ⟨wr.heap.size, 0, none⟩) 1 := by
  obtain ⟨hb, hc, ys, h1, h2⟩ := h
  have hlt := heap_lt hb
  unfold wrapW
  obtain ⟨w3, hw3⟩ : ∃ w3, ((((wr.setCell ⟨g, 0, none⟩ (.int .i64 3)).setCell ⟨g, 1, none⟩ (.string ⟨#[]⟩)).setCell ⟨g, 2, none⟩ (.slice (some ⟨wr.heap.size, 0, none⟩) 1 1)).setCell ⟨g, 3, none⟩ (.int .i64 0)) = w3 := ⟨_, rfl⟩
  have hs3 : w3.heap.size = wr.heap.size := by rw [← hw3]; simp [size_set]
  have hfar : ∀ x, x ≠ g → w3.heap[x]? = wr.heap[x]? := fun x hx => by rw [← hw3]; exact far4 hx _ _ _ _
  have hset : w3.heap[g]? = some (.cells #[.int .i64 3, .string ⟨#[]⟩, .slice (some ⟨wr.heap.size, 0, none⟩) 1 1, .int .i64 0] 39 (0, 0)) := by rw [← hw3]; exact set4 hb _ _ _ _
  rw [hw3]
  obtain ⟨w4, hw4⟩ : ∃ w4, w3.alloc (.cells #[.int .i64 k, .string ⟨t.toArray⟩, .slice A kids.len c, .int .i64 o] 39) = w4 := ⟨_, rfl⟩
  have hN := heap_alloc_new w3 (.cells #[.int .i64 k, .string ⟨t.toArray⟩, .slice A kids.len c, .int .i64 o] 39)
  have hold : ∀ x, x < w3.heap.size → w4.heap[x]? = w3.heap[x]? := fun x hx => by rw [← hw4]; exact Below.heap_alloc w3 _ x hx
  have hs4 : w4.heap.size = wr.heap.size + 1 := by rw [← hw4]; simp [hs3]
  rw [hw4, hs3] at hN
  rw [hw4]
  refine ⟨(hold g (by omega)).trans hset, Nat.le_refl _, [.int .i64 k, .string ⟨t.toArray⟩, .slice A kids.len c, .int .i64 o], ?_, ?_⟩
  · intro _
    refine ⟨wr.heap.size, 0, rfl, by omega, by omega, fun j u hu => ?_⟩
    rw [Nat.zero_add, cell_of_row _ _ j _ _ _ hN]
    simpa using hu
  · have hk : ∀ x, x ≠ g → x < wr.heap.size → w4.heap[x]? = wr.heap[x]? ∧ x ≠ g := fun x hx hl => ⟨(hold x (by omega)).trans (hfar x hx), hx⟩
    exact rowOf.one hc (h1.keep (by omega) hk) (h2.keep (by omega) hk _)

/-- what the loop holds -/
def LR (w : World) (g : Nat) (F0 : Fo) (j : Nat) (X : World) : Prop :=
  ∃ (k o : Int) (t : List UInt8) (kids : Fo) (A : Option Addr) (c : Nat), Fo.one k t kids o = wrapF j F0 ∧ NBlk X g 39 k o t kids A c ∧ Below w.heap.size w X
theorem LR.step {w wr : World} {g j : Nat} {F0 : Fo} {k o : Int} {t : List UInt8} {kids : Fo} {A : Option Addr} {c : Nat} (hg : w.heap.size ≤ g) (he : Fo.one k t kids o = wrapF j F0) (hn : NBlk wr g 39 k o t kids A c) (hb : Below w.heap.size w wr) :
    LR w g F0 (j + 1) (wrapW wr g k o t kids A c) := by
  refine ⟨3, 0, [], .one k t kids o, _, 1, by rw [he]; rfl, wrap_step hn, ?_⟩
  unfold wrapW
  refine Below.alloc ?_ (by simp [size_set]; exact hb.size) _
  refine Below.setCell ?_ hg _
  refine Below.setCell ?_ hg _
  refine Below.setCell ?_ hg _
  refine Below.setCell ?_ hg _
  exact hb

/-- all that is known of the node once the loop has ended -/
theorem LR.facts {w X : World} {g j d : Nat} {F0 : Fo} {W T : List (List UInt8)} (hW : ∀ u ∈ W, okW u = true) (hT : ∀ u ∈ T, okS u = true) (h0 : okF W T true d F0) (hd : d ≤ 4) (hl : F0.len = 1) (hj : j ≤ 42) (h : LR w g F0 j X) :
    ∃ (k o : Int) (t : List UInt8) (kids : Fo) (A : Option Addr) (c : Nat) (ys : List Value), X.heap[g]? = some (.cells #[.int .i64 k, .string ⟨t.toArray⟩, .slice A kids.len c, .int .i64 o] 39 (0, 0)) ∧ NdT X kids A c ys ∧ Below w.heap.size w X ∧
      fsize kids ≤ 3200 ∧ okS t = true ∧ allS kids ∧ (valid1 40 k t kids = true → vF (.one k t kids o) ∧ dep (.one k t kids o) ≤ 40 ∧ (fmt1 k t (fmtF false kids)).length ≤ 200000) := by
  obtain ⟨k, o, t, kids, A, c, he, hn, hb⟩ := h
  obtain ⟨ys, hnd⟩ := hn.nd
  have hs0 := fsize_okV _ d h0
  have h5 : 5 ^ (d + 1) ≤ 5 ^ 5 := Nat.pow_le_pow_right (by decide) (by omega)
  rw [hl, Nat.one_mul] at hs0
  have hs1 := wrapF_size j F0
  have hsz : fsize kids ≤ 3200 := by
    rw [← he] at hs1
    simp only [Fo.one, fsize] at hs1
    omega
  have hall := wrapF_allS j F0 (allS_of_ok hW hT _ d h0)
  rw [← he] at hall
  refine ⟨k, o, t, kids, A, c, ys, hn.1, hnd, hb, hsz, hall.1, hall.2.1, fun hv => ?_⟩
  rw [← validF_one 40 k t kids o] at hv
  obtain ⟨a1, a2⟩ := vF_of_valid _ _ hv hall
  have a3 := len_of_vF _ false a1
  have a4 := fmtF_cons_len false k t kids o .nil
  simp only [Fo.one, fsize] at a3 a4
  exact ⟨a1, a2, by omega⟩

set_option maxHeartbeats 8000000 in
set_option maxRecDepth 100000 in
theorem valid_walk (a0 : Option Addr) (len0 cap0 : Nat) (z0 : List Int) (D : Int) (w : World)
    (hl0 : len0 ≤ maxLen) (hI0 : Ints w a0 len0 z0) (W T : List (List UInt8)) (hW : ∀ u ∈ W, okW u = true) (hT : ∀ u ∈ T, okS u = true)
    (gw ow cw gs ot cs : Nat) (tW : TabW w 2 16 W gw ow cw) (tT : TabW w 1 6 T gs ot cs) :
    Calls Tryd.prog 5 #[.slice a0 len0 cap0, .int .i64 D] w fun e w' => e = .returned (.bool true) ∧ Below w.heap.size w w' := by
  have HI0 := Lib.hid hI0
  have TW := Lib.hid tW
  have TT := Lib.hid tT
  have HW := Lib.hid hW
  have HT := Lib.hid hT
  clear hI0 hW hT tW tT
  go_enter Tryd.func5, Tryd.ntmps5
  go_wp2_with (fail)
  refine (new_any _ _ _ _).mono ?_
  rintro e1 w1 ⟨rfl, rfl⟩
  go_wp2_with (fail)
  refine (any_true 3 _ _ _ _ _ _ _ _ _ _ _ _ _ _ (gen_new (Below.refl _ _) hl0 HI0.out TW.out TT.out) (by decide)).mono ?_
  rintro e2 w2 ⟨k, o, t, kids, A, c, ys, rfl, hc, hr, hk, hok, hG, hgb⟩
  have hB2 : Below w.heap.size w w2 := below_gb_of ((Below.refl _ _).alloc (Nat.le_refl _) _) hgb (Nat.le_refl _)
  have hOK := Lib.hid hok
  have hN5 := heap_alloc_new w2 (.cells #[.int .i64 k, .string ⟨t.toArray⟩, .slice A kids.len c, .int .i64 o] 39)
  have B5 : Below w2.heap.size w2 (w2.alloc (.cells #[.int .i64 k, .string ⟨t.toArray⟩, .slice A kids.len c, .int .i64 o] 39)) := (Below.refl _ _).alloc (Nat.le_refl _) _
  have hLR : LR w w2.heap.size (.one k t kids o) 0 (w2.alloc (.cells #[.int .i64 k, .string ⟨t.toArray⟩, .slice A kids.len c, .int .i64 o] 39)) :=
    ⟨k, o, t, kids, A, c, rfl, ⟨hN5, hc, ys, hr.keep B5.size fun x _ hl => ⟨B5.block x hl, by omega⟩, hk.keep B5.size (fun x _ hl => ⟨B5.block x hl, by omega⟩) _⟩, hB2.trans (B5.mono hB2.size)⟩
  have HLR := Lib.hid hLR
  have hgw : w.heap.size ≤ w2.heap.size := hB2.size
  clear hgb hG hok hN5 B5 hLR hc hr hk hB2
  obtain ⟨M, hM0, hM1⟩ : ∃ M : Nat, (M : Int) = modI D 42 ∧ M < 42 := by
    obtain ⟨h1, h2⟩ := modI_bounds D 42 (by decide)
    exact ⟨(modI D 42).toNat, by omega, by omega⟩
  have hmo : ∀ X, Calls Tryd.prog 21 #[.int .i64 D, .int .i64 42] X fun e w' => e = .returned (.int .i64 (M : Int)) ∧ X = w' := fun X => by
    rw [hM0]; exact mod_any D 42 X (by decide) (by decide)
  have Hmo := Lib.hid hmo
  clear hmo hM0
  go_wp2_with (fail)
  obtain ⟨g5, hg5⟩ : ∃ g5, w2.heap.size = g5 := ⟨_, rfl⟩
  rw [hg5] at HLR hgw ⊢
  clear hg5
  go_loopw [6] (fun iv wr => ∃ j : Nat, iv = .int .i64 (j : Int) ∧ j ≤ M ∧ LR w g5 (.one k t kids o) j wr) (fun iv _ => M - (match iv with | .int _ n => n.toNat | _ => 0))
  case atStart => exact ⟨0, rfl, Nat.zero_le _, HLR.out⟩
  case round =>
    obtain ⟨j, rfl, hj, hlr⟩ := hrel
    have HL := Lib.hid hlr
    clear hlr HLR
    by_cases hlt : j < M
    · obtain ⟨k1, o1, t1, kids1, A1, c1, he, hn, hb⟩ := HL.out
      have tlt : decide ((j : Int) < (M : Int)) = true := by simp; omega
      obtain ⟨d0, d1, d2, d3, y0, y1, y2, y3⟩ := row4 hn.1
      have hglt := heap_lt hn.1
      have HE := Lib.hid he
      have HN := Lib.hid hn
      have HB := Lib.hid hb
      clear he hn hb
      have hne : ¬ g5 = wr.heap.size := by omega
      have hne2 : ¬ wr.heap.size = g5 := by omega
      go_wp2_with (fail)
      refine (Hmo.out _).mono ?_
      rintro e w' ⟨rfl, rfl⟩
      go_wp2_with (fail)
      exact ⟨⟨j + 1, rfl, hlt, LR.step hgw HE.out HN.out HB.out⟩, by simp; omega⟩
    · have tlt : decide (j < M) = false := by simp; omega
      go_wp2_with (fail)
      refine (Hmo.out _).mono ?_
      rintro e w' ⟨rfl, rfl⟩
      obtain ⟨k, o, t, kids, A, c, ys, hN5, hNd, hB5, hsz, hoS, hall, hvd⟩ := HL.out.facts HW.out HT.out hOK.out (by decide) rfl (by omega)
      obtain ⟨W5, rfl⟩ : ∃ W5 : World, W5 = wr := ⟨_, rfl⟩
      obtain ⟨d0, d1, d2, d3, y0, y1, y2, y3⟩ := row4 hN5
      have hglt := heap_lt hN5
      have HNd := Lib.hid hNd
      have HB5 := Lib.hid hB5
      have HoS := Lib.hid hoS
      have Hall := Lib.hid hall
      have Hvd := Lib.hid hvd
      have HN5 := Lib.hid hN5
      clear hNd hB5 hoS hall hvd hN5 HL Hmo HI0 TW TT HW HT hOK
      go_wp2_with (fail)
      refine (node_any _ k o t kids A c ys _ _ (Nat.le_refl _) (by omega) HNd.out.1 HNd.out.2.1 HNd.out.2.2).mono ?_
      rintro e3 w3 ⟨A', c', ys', rfl, hc3, hr3, hk3, hb3⟩
      have hp3 : PW W5 w3 := hb3
      have hbx := heap_alloc_new w3 (.cells #[.int .i64 k, .string ⟨t.toArray⟩, .slice A' kids.len c', .int .i64 o] 31)
      have B7 : Below w3.heap.size w3 (w3.alloc (.cells #[.int .i64 k, .string ⟨t.toArray⟩, .slice A' kids.len c', .int .i64 o] 31)) := (Below.refl _ _).alloc (Nat.le_refl _) _
      have hn7 : NdT (w3.alloc (.cells #[.int .i64 k, .string ⟨t.toArray⟩, .slice A' kids.len c', .int .i64 o] 31)) kids A' c' ys' := NdT.of hc3 hr3 hk3 B7
      have HQ := Lib.hid (And.intro hbx (And.intro hn7 (PWtrans hp3 (show PW w3 _ from B7))))
      clear hbx B7 hn7 hp3 hb3 hc3 hr3 hk3
      go_upto_region 7 with (fail)
      refine gen_wp _ (fun X => X.heap[w3.heap.size]? = some (.cells #[.int .i64 k, .string ⟨t.toArray⟩, .slice A' kids.len c', .int .i64 o] 31 (0, 0)) ∧ NdT X kids A' c' ys' ∧ PW W5 X) HQ.out ?_
      rintro W7 ⟨hN7, hNd7, hP7⟩
      obtain ⟨g7, hg7⟩ : ∃ g7, w3.heap.size = g7 := ⟨_, rfl⟩
      rw [hg7] at hN7 ⊢
      clear hg7 HQ d0 d1 d2 d3 y0 y1 y2 y3
      obtain ⟨d0, d1, d2, d3, y0, y1, y2, y3⟩ := row4 hN7
      obtain ⟨e0, e1, e2, e3, x0, x1, x2, x3⟩ := row4 ((hP7.block g5 hglt).trans HN5.out)
      have HNd7 := Lib.hid hNd7
      have HP7 := Lib.hid hP7
      have HZ := Lib.hid (HB5.out.trans (Below.mono hP7 HB5.out.size))
      have HNd5 := Lib.hid (HNd.out.pw hP7)
      clear hNd7 hP7 HB5 HNd HN5 hglt
      -- the callees, in whatever world behind W7
      have hCk : ∀ X, PW W7 X → Calls Tryd.prog 14 #[] X fun e u => e = .returned (.bool true) ∧ PW W7 u := fun X hX => (check_any X).mono fun e u ⟨h1, h2⟩ => ⟨h1, Below.trans hX (h2.mono hX.size)⟩
      have hVa : ∀ {b : Bool}, valid1 40 k t kids = b → ∀ X, PW W7 X → Calls Tryd.prog 22 #[.agg #[.int .i64 k, .string ⟨t.toArray⟩, .slice A' kids.len c', .int .i64 o]] X fun e u => e = .returned (.bool b) ∧ PW W7 u := by
        intro b hb X hX
        have hnd := HNd7.out.pw hX
        refine (valid_any k o t kids A' c' ys' _ X (by omega) hnd.2.1 hnd.2.2 HoS.out Hall.out hb).mono ?_
        rintro e u ⟨rfl, h⟩
        exact ⟨rfl, Below.trans hX (h.mono hX.size)⟩
      have hNv : ∀ {b : Bool}, valid1 40 k t kids = b → ∀ X, PW W7 X → Calls Tryd.prog 23 #[.agg #[.int .i64 k, .string ⟨t.toArray⟩, .slice A kids.len c, .int .i64 o]] X fun e u => e = .returned (.bool b) ∧ PW W7 u := by
        intro b hb X hX
        have hnd := HNd5.out.pw hX
        refine (nodeValid_any k o t kids A c ys _ X (by omega) hnd.2.1 hnd.2.2 HoS.out Hall.out hb).mono ?_
        rintro e u ⟨rfl, h⟩
        exact ⟨rfl, Below.trans hX (h.mono hX.size)⟩
      have KS : ∀ X, PW W7 X → X.cell? ⟨g7, 0, none⟩ = some (.int .i64 k) ∧ X.cell? ⟨g7, 1, none⟩ = some (.string ⟨t.toArray⟩) ∧ X.cell? ⟨g7, 2, none⟩ = some (.slice A' kids.len c') ∧ X.cell? ⟨g7, 3, none⟩ = some (.int .i64 o) ∧
          X.cell? ⟨g5, 0, none⟩ = some (.int .i64 k) ∧ X.cell? ⟨g5, 1, none⟩ = some (.string ⟨t.toArray⟩) ∧ X.cell? ⟨g5, 2, none⟩ = some (.slice A kids.len c) ∧ X.cell? ⟨g5, 3, none⟩ = some (.int .i64 o) :=
        fun X h => ⟨h.cell d0, h.cell d1, h.cell d2, h.cell d3, h.cell e0, h.cell e1, h.cell e2, h.cell e3⟩
      have HCk := Lib.hid hCk
      have HK := Lib.hid KS
      clear hCk KS
      cases hv : valid1 40 k t kids with
      | true =>
        have HVa := Lib.hid (hVa hv)
        have HNv := Lib.hid (hNv hv)
        have hvd := Lib.hid (Hvd.out hv)
        clear hVa hNv hv
        obtain ⟨s, hs0⟩ : ∃ s : ByteArray, (⟨(fmt1 k t (fmtF false kids)).toArray⟩ : ByteArray) = s := ⟨_, rfl⟩
        have Hs0 := Lib.hid hs0
        have hFm : ∀ X, PW W7 X → Calls Tryd.prog 19 #[.agg #[.int .i64 k, .string ⟨t.toArray⟩, .slice A kids.len c, .int .i64 o]] X fun e u => e = .returned (.string s) ∧ PW W7 u := by
          intro X hX
          have hnd := HNd5.out.pw hX
          refine (format_any _ k o t kids A c ys _ X (Nat.le_refl _) (by omega) hnd.1 hnd.2.1 hnd.2.2 (by have := hvd.out.2.2; omega)).mono ?_
          rintro e u ⟨rfl, hb⟩
          exact ⟨by rw [hs0], Below.trans hX (hb.mono hX.size)⟩
        have HFm := Lib.hid hFm
        clear hs0 hFm
        go_wp2_with (fail)
        refine (format_yes k o t kids A' c' ys' _ _ (by omega) HNd7.out.2.1 HNd7.out.2.2 hvd.out.1 hvd.out.2.1 (by have := hvd.out.2.2; omega)).mono ?_
        rintro e4 w4 ⟨rfl, hb4⟩
        rw [Hs0.out]
        have HPe := Lib.hid (show PW W7 w4 from hb4)
        obtain ⟨x0, x1, x2, x3, x4, x5, x6, x7⟩ := HK.out _ hb4
        clear hb4 d0 d1 d2 d3 y0 y1 y2 y3 e0 e1 e2 e3
        go_wp2_with (fail)
        go_region_held3 (fun w' => w'.cell? ⟨g7, 0, none⟩ = some (.int .i64 k) ∧ w'.cell? ⟨g7, 1, none⟩ = some (.string ⟨t.toArray⟩) ∧ w'.cell? ⟨g7, 2, none⟩ = some (.slice A' kids.len c') ∧ w'.cell? ⟨g7, 3, none⟩ = some (.int .i64 o) ∧
            w'.cell? ⟨g5, 0, none⟩ = some (.int .i64 k) ∧ w'.cell? ⟨g5, 1, none⟩ = some (.string ⟨t.toArray⟩) ∧ w'.cell? ⟨g5, 2, none⟩ = some (.slice A kids.len c) ∧ w'.cell? ⟨g5, 3, none⟩ = some (.int .i64 o)) (go_keep)
          (first
            | (go_at_call 22; refine (HVa.out _ HPn.out).mono ?_; rintro e u3 ⟨rfl, hpu⟩; have HPz := Lib.hid hpu; obtain ⟨x0, x1, x2, x3, x4, x5, x6, x7⟩ := HK.out _ hpu; clear hpu)
            | (go_at_call 23; refine (HNv.out _ HPv.out).mono ?_; rintro e u3 ⟨rfl, hpu⟩; have HPz := Lib.hid hpu; obtain ⟨x0, x1, x2, x3, x4, x5, x6, x7⟩ := HK.out _ hpu; clear hpu)
            | (go_at_call 22; refine (HVa.out _ HPu.out).mono ?_; rintro e u2 ⟨rfl, hpu⟩; have HPv := Lib.hid hpu; obtain ⟨x0, x1, x2, x3, x4, x5, x6, x7⟩ := HK.out _ hpu; clear hpu)
            | (go_at_call 23; refine (HNv.out _ HPu.out).mono ?_; rintro e u2 ⟨rfl, hpu⟩; have HPn := Lib.hid hpu; obtain ⟨x0, x1, x2, x3, x4, x5, x6, x7⟩ := HK.out _ hpu; clear hpu)
            | (go_at_call 14; refine (HCk.out _ (PWtrans HPe.out (PW.drew _))).mono ?_; rintro e u ⟨rfl, hpu⟩; have HPu := Lib.hid hpu; obtain ⟨x0, x1, x2, x3, x4, x5, x6, x7⟩ := HK.out _ hpu; clear hpu))
        all_goals
          go_wp2_with (fail)
          refine (HNv.out _ HPz.out).mono ?_
          rintro e5 w5 ⟨rfl, hp5⟩
          have HP5 := Lib.hid hp5
          obtain ⟨f0, f1, f2, f3, f4, f5, f6, f7⟩ := HK.out _ hp5
          clear hp5
          go_wp2_with (go_at_call 19; refine (HFm.out _ HP5.out).mono ?_; rintro e6 w6 ⟨rfl, hp6⟩; have HP6 := Lib.hid hp6; clear hp6)
          go_ret
          exact ⟨rfl, HZ.out.trans (Below.mono HP6.out HZ.out.size)⟩
      | false =>
        have HVa := Lib.hid (hVa hv)
        have HNv := Lib.hid (hNv hv)
        have Hv := Lib.hid hv
        clear hVa hNv hv
        go_wp2_with (fail)
        refine (format_no k o t kids A' c' ys' _ _ (by omega) HNd7.out.2.1 HNd7.out.2.2 HoS.out Hall.out Hv.out).mono ?_
        rintro e4 w4 ⟨rfl, hb4⟩
        have HPe := Lib.hid (show PW W7 w4 from hb4)
        obtain ⟨x0, x1, x2, x3, x4, x5, x6, x7⟩ := HK.out _ hb4
        clear hb4 d0 d1 d2 d3 y0 y1 y2 y3 e0 e1 e2 e3
        go_wp2_with (fail)
        go_region_held3 (fun w' => w'.cell? ⟨g7, 0, none⟩ = some (.int .i64 k) ∧ w'.cell? ⟨g7, 1, none⟩ = some (.string ⟨t.toArray⟩) ∧ w'.cell? ⟨g7, 2, none⟩ = some (.slice A' kids.len c') ∧ w'.cell? ⟨g7, 3, none⟩ = some (.int .i64 o) ∧
            w'.cell? ⟨g5, 0, none⟩ = some (.int .i64 k) ∧ w'.cell? ⟨g5, 1, none⟩ = some (.string ⟨t.toArray⟩) ∧ w'.cell? ⟨g5, 2, none⟩ = some (.slice A kids.len c) ∧ w'.cell? ⟨g5, 3, none⟩ = some (.int .i64 o)) (go_keep)
          (first
            | (go_at_call 22; refine (HVa.out _ HPn.out).mono ?_; rintro e u3 ⟨rfl, hpu⟩; have HPz := Lib.hid hpu; obtain ⟨x0, x1, x2, x3, x4, x5, x6, x7⟩ := HK.out _ hpu; clear hpu)
            | (go_at_call 23; refine (HNv.out _ HPv.out).mono ?_; rintro e u3 ⟨rfl, hpu⟩; have HPz := Lib.hid hpu; obtain ⟨x0, x1, x2, x3, x4, x5, x6, x7⟩ := HK.out _ hpu; clear hpu)
            | (go_at_call 22; refine (HVa.out _ HPu.out).mono ?_; rintro e u2 ⟨rfl, hpu⟩; have HPv := Lib.hid hpu; obtain ⟨x0, x1, x2, x3, x4, x5, x6, x7⟩ := HK.out _ hpu; clear hpu)
            | (go_at_call 23; refine (HNv.out _ HPu.out).mono ?_; rintro e u2 ⟨rfl, hpu⟩; have HPn := Lib.hid hpu; obtain ⟨x0, x1, x2, x3, x4, x5, x6, x7⟩ := HK.out _ hpu; clear hpu)
            | (go_at_call 14; refine (HCk.out _ (PWtrans HPe.out (PW.drew _))).mono ?_; rintro e u ⟨rfl, hpu⟩; have HPu := Lib.hid hpu; obtain ⟨x0, x1, x2, x3, x4, x5, x6, x7⟩ := HK.out _ hpu; clear hpu))
        all_goals
          go_wp2_with (fail)
          refine (HNv.out _ HPz.out).mono ?_
          rintro e5 w5 ⟨rfl, hp5⟩
          have HP5 := Lib.hid hp5
          obtain ⟨f0, f1, f2, f3, f4, f5, f6, f7⟩ := HK.out _ hp5
          clear hp5
          go_wp2_with (fail)
          go_ret
          exact ⟨rfl, HZ.out.trans (Below.mono HP5.out HZ.out.size)⟩
end Go.Proofs.YtpflfbfbjmoggaaDoor

/- (*Hierarchy).Supertype. No condition but bounded sizes. Made by mksu4.py out of XSu3. (*Hierarchy).IsAncestor. No condition but bounded sizes. -/
import Derived.Test.YtpkiheenkpcebaaGreatDoorQah
import Derived.Test.YtpkiheenkpcebaaGreatDoorMaq
import Derived.Deep.LoopGhost
import Derived.Deep.CutBlock
set_option linter.unusedVariables false
set_option linter.unusedSimpArgs false
namespace Go.Proofs.YtpkiheenkpcebaaGreatDoor
open Go.RowKit Sx

def su7V (p b gN : Nat) (N0 N1 : Nat) (nm t : List UInt8) (e : De) (A : Option Addr) (c : Nat) (F : Option Addr) (x : Nat) (s : Tm) (z : Bool) (m : SuG) (j : Nat) (v : Value) (w : World) : Prop :=
  match j with
  | 0 => v = .pointer (some ⟨p, 0, none⟩)
  | 1 => v = .string ⟨nm.toArray⟩
  | 2 => v = .pointer (some ⟨p, 0, none⟩)
  | 3 => v = .pointer (some ⟨p, 0, none⟩)
  | 4 => v = .pointer (some ⟨p, 1, none⟩)
  | 5 => v = .map (some b)
  | 6 => v = .pointer (some ⟨gN, 1, none⟩)
  | 7 => v = .string ⟨t.toArray⟩
  | 8 => v = .agg #[.string ⟨e.name.toArray⟩, .int .i64 e.arity, .int .i64 e.super.k, .string ⟨e.super.t.toArray⟩, .int .i64 e.super.o, .slice A e.super.kids.len c, .bool e.conc, .slice F e.fields.length x]
  | 9 => m.cl = 1 ∧ v = .tuple #[.agg #[.int .i64 s.k, .string ⟨s.t.toArray⟩, .int .i64 s.o, .slice m.A s.kids.len m.c], .bool z] ∧ KS w (suS N0 N1 m) s.kids m.A m.c
  | 10 => m.cl = 1 ∧ v = .tuple #[.agg #[.int .i64 s.k, .string ⟨s.t.toArray⟩, .int .i64 s.o, .slice m.A s.kids.len m.c], .bool z]
  | 11 => m.cl = 1 ∧ v = .agg #[.int .i64 s.k, .string ⟨s.t.toArray⟩, .int .i64 s.o, .slice m.A s.kids.len m.c]
  | 12 => v = .bool z
  | 13 => 1 ≤ m.al ∧ v = .pointer (some ⟨m.g, 0, none⟩)
  | 14 => m.al = 2
  | _ => v = .bool z
theorem su7V_T {X : World} {p b gN : Nat} {N0 N1 : Nat} {nm t : List UInt8} {e : De} {A : Option Addr} {c : Nat} {F : Option Addr} {x : Nat} {s : Tm} {z : Bool} (m m' : SuG) (j : Nat) (v : Value) (w w' : World) (h : su7V p b gN N0 N1 nm t e A c F x s z m j v w) (hT : suT X s m w m' w') : su7V p b gN N0 N1 nm t e A c F x s z m' j v w' := by
  have hT' := hT
  obtain ⟨hI, hsz, hcl, hal, hg, _, _⟩ := hT
  have h2 := hI.2.2.2.2.1
  unfold su7V at *
  split at h
  all_goals first
    | exact h
    | (obtain ⟨e1, e2, e3⟩ := h; obtain ⟨c1, c2, c3⟩ := hcl e1; refine ⟨c1, by rw [c2, c3]; exact e2, ?_⟩; rw [c2, c3]; exact e3.keep hsz fun y hy hl => suS_T hT' hy hl)
    | (obtain ⟨e1, e2⟩ := h; obtain ⟨c1, c2, c3⟩ := hcl e1; exact ⟨c1, by rw [c2, c3]; exact e2⟩)
    | (obtain ⟨e1, e2⟩ := h; exact ⟨by omega, by rw [hg e1]; exact e2⟩)
    | omega
def su7Z (j : Nat) (m : SuG) : Prop := (j = 9 → m.cl = 0) ∧ (j = 13 → m.al = 0) ∧ (j = 14 → m.al ≤ 1)

set_option maxHeartbeats 16000000 in
set_option maxRecDepth 100000 in
theorem hSupertype (V : Int) (B p b : Nat) (Q : Nat → Prop) (v : Value) (l : List (List UInt8 × Value)) (ds : List De) (nm : List UInt8) (k o : Int) (t : List UInt8) (kids : Fo) (A0 : Option Addr) (c0 : Nat) (w : World) (H : Hier w B p b Q v l ds) (W : WF ds) (hC : ChB ds 10)
    (hV0 : 0 ≤ V) (hV1 : V ≤ 1152921504606846976) (hK : KT w kids A0 c0) (hcl : closed1 k o kids V = true) (hsz : fsize kids ≤ 1099511627776) (ht : t.length ≤ 1048576) :
    Calls Tryz.prog 35 #[.pointer (some ⟨p, 0, none⟩), .agg #[.int .i64 k, .string ⟨t.toArray⟩, .int .i64 o, .slice A0 kids.len c0], .string ⟨nm.toArray⟩] w (ScP w.heap.size (supT ds ⟨k, t, kids, o⟩ nm) w) := by
  have HN : Hid (w.heap.size ≤ w.heap.size) := Lib.hid (Nat.le_refl _)
  by_cases hk2 : k = 2
  case neg =>
    have t1 : (k == 2) = false := by simpa using hk2
    have e1 := heap_alloc_new w (.cells #[.int .i64 k, .string ⟨t.toArray⟩, .int .i64 o, .slice A0 kids.len c0] 34)
    have f1 := bh_alloc (BH.refl w) (.cells #[.int .i64 k, .string ⟨t.toArray⟩, .int .i64 o, .slice A0 kids.len c0] 34)
    have e2 := heap_alloc_new (w.alloc (.cells #[.int .i64 k, .string ⟨t.toArray⟩, .int .i64 o, .slice A0 kids.len c0] 34)) (.cells #[.int .i64 0, .string ⟨#[]⟩, .int .i64 0, .slice none 0 0] 34)
    have e1' := (Below.heap_alloc (w.alloc (.cells #[.int .i64 k, .string ⟨t.toArray⟩, .int .i64 o, .slice A0 kids.len c0] 34)) (.cells #[.int .i64 0, .string ⟨#[]⟩, .int .i64 0, .slice none 0 0] 34) w.heap.size (by simp)).trans e1
    rw [World.size_alloc] at e2
    obtain ⟨r0, r1, r2, r3, _⟩ := row4 e1'
    obtain ⟨b0, b1, b2, b3, y0, y1, y2, y3⟩ := row4 e2
    rw [show supT ds ⟨k, t, kids, o⟩ nm = none from by rw [supT, if_pos hk2]]
    clear e1 f1 e2 e1' H W hC hK hcl hsz ht
    go_enter Tryz.func35, Tryz.ntmps35
    go_wp2_with (fail)
    refine bodyPost_ret (v := .tuple #[.agg #[.int .i64 0, .string ⟨#[]⟩, .int .i64 0, .slice none 0 0], .bool false]) (by simp [results, Tryz.results35, go_sem, b0, b1, b2, b3]) rfl ?_
    exact ⟨none, 0, rfl, ⟨Nat.le_refl _, [], reads_nil _ _, rfl⟩, bh_alloc (bh_alloc (BH.refl w) _) _⟩
  case pos =>
    subst hk2
    have e1 := heap_alloc_new w (.cells #[.int .i64 2, .string ⟨t.toArray⟩, .int .i64 o, .slice A0 kids.len c0] 34)
    have f1 := bh_alloc (BH.refl w) (.cells #[.int .i64 2, .string ⟨t.toArray⟩, .int .i64 o, .slice A0 kids.len c0] 34)
    have e2 := heap_alloc_new (w.alloc (.cells #[.int .i64 2, .string ⟨t.toArray⟩, .int .i64 o, .slice A0 kids.len c0] 34)) (.cells #[.int .i64 0, .string ⟨#[]⟩, .int .i64 0, .slice none 0 0] 34)
    have f2 := bh_alloc f1 (.cells #[.int .i64 0, .string ⟨#[]⟩, .int .i64 0, .slice none 0 0] 34)
    have e1' := (Below.heap_alloc (w.alloc (.cells #[.int .i64 2, .string ⟨t.toArray⟩, .int .i64 o, .slice A0 kids.len c0] 34)) (.cells #[.int .i64 0, .string ⟨#[]⟩, .int .i64 0, .slice none 0 0] 34) w.heap.size (by simp)).trans e1
    rw [World.size_alloc] at e2
    obtain ⟨r0, r1, r2, r3, _⟩ := row4 e1'
    obtain ⟨b0, b1, b2, b3, y0, y1, y2, y3⟩ := row4 e2
    have HE0 := Lib.hid (And.intro e1' (And.intro e2 f2))
    have hne : ¬ t = nm → ¬ (⟨t.toArray⟩ : ByteArray) = ⟨nm.toArray⟩ := fun h => tba_ne h
    by_cases htn : t = nm
    · subst htn
      rw [show supT ds ⟨2, t, kids, o⟩ t = some ⟨2, t, kids, o⟩ from by rw [supT, if_neg (by simp), if_pos rfl]]
      have hcp := Lib.hid (hcopy_any V 2 o t kids A0 c0 _ hV0 hV1 hsz (hK.below f2) hcl)
      clear hne e1 f1 e2 f2 e1' H W hC hK hcl hsz ht
      go_enter Tryz.func35, Tryz.ntmps35
      go_wp2_with (fail)
      refine hcp.out.mono ?_
      rintro e9 u2 ⟨A2, c2, rfl, k2, b9⟩
      have HR2 := Lib.hid (And.intro ((Below.block b9 _ (heap_lt HE0.out.2.1)).trans HE0.out.2.1) (And.intro (BH.trans HE0.out.2.2 b9) k2))
      clear k2 b9 b0 b1 b2 b3 y0 y1 y2 y3
      obtain ⟨b0, b1, b2, b3, y0, y1, y2, y3⟩ := row4 HR2.out.1
      go_wp2_with (fail)
      obtain ⟨m0, m1, m2, m3, _⟩ := row4 (s4 HR2.out.1 (.int .i64 2) (.string ⟨t.toArray⟩) (.int .i64 o) (.slice A2 kids.len c2))
      refine bodyPost_ret (v := .tuple #[.agg #[.int .i64 2, .string ⟨t.toArray⟩, .int .i64 o, .slice A2 kids.len c2], .bool true]) (by simp [results, Tryz.results35, go_sem, m0, m1, m2, m3]) rfl ?_
      exact ScP.out (N := w.heap.size + 1) (res := some ⟨2, t, kids, o⟩) HN.out (Nat.le_succ _) HR2.out.2.1 (HR2.out.2.2.keep (Nat.le_refl _) fun q hq _ => ⟨rfl, .inr (by rcases hq with hq | hq; exact hq.elim; simp at hq; omega), by rcases hq with hq | hq; exact hq.elim; simp at hq; omega⟩)
    · have hne' := hne htn
      have HTn := Lib.hid htn
      have hDc := Lib.hid (hDeclares B p b Q v l ds 2 o t A0 kids.len c0 _ (H.bh f2) ht)
      have HK := Lib.hid hK
      have HH := Lib.hid H
      have HWF := Lib.hid (And.intro W (And.intro hC (And.intro hsz ht)))
      obtain ⟨dc, hdc⟩ : ∃ dc, dcB ds t kids.len = dc := ⟨_, rfl⟩
      rw [hdc] at hDc
      have HDc := Lib.hid hdc
      have hsup0 : supT ds ⟨2, t, kids, o⟩ nm = match findD ds t with | none => none | some d => if (kids.len : Int) = d.arity then (supR nm d (chn ds 100 d)).map fun s => insT s kids else none := by
        rw [supT, if_neg (by simp), if_neg htn]
        rfl
      have HSup := Lib.hid hsup0
      obtain ⟨z0, hz0⟩ : ∃ z0, supT ds ⟨2, t, kids, o⟩ nm = z0 := ⟨_, rfl⟩
      rw [hz0] at HSup
      rw [hz0]
      clear hne htn e1 f1 e2 f2 e1' H W hC hK hcl hsz ht hdc hsup0 hz0
      go_enter Tryz.func35, Tryz.ntmps35
      go_wp2_with (fail)
      · rename (t == nm) = true => h
        exact absurd (by simpa using h) HTn.out
      refine hDc.out.mono ?_
      rintro e9 u1 ⟨rfl, hb1⟩
      have HE1 := Lib.hid (And.intro ((Below.block hb1 _ (heap_lt HE0.out.1)).trans HE0.out.1) (And.intro ((Below.block hb1 _ (heap_lt HE0.out.2.1)).trans HE0.out.2.1) (BH.trans HE0.out.2.2 hb1)))
      clear hb1 r0 r1 r2 r3 b0 b1 b2 b3 y0 y1 y2 y3 HE0 hDc
      cases dc with
      | false =>
        obtain ⟨b0, b1, b2, b3, y0, y1, y2, y3⟩ := row4 HE1.out.2.1
        have hz : z0 = none := by
          have hd := HDc.out
          rw [dcB] at hd
          rw [HSup.out]
          cases hf : findD ds t with
          | none => rfl
          | some d =>
            rw [hf] at hd
            simp only at hd ⊢
            rw [if_neg (by simpa using hd)]
        subst hz
        go_wp2_with (fail)
        obtain ⟨m0, m1, m2, m3, _⟩ := row4 (s4 HE1.out.2.1 (.int .i64 0) (.string ⟨#[]⟩) (.int .i64 0) (.slice none 0 0))
        refine bodyPost_ret (v := .tuple #[.agg #[.int .i64 0, .string ⟨#[]⟩, .int .i64 0, .slice none 0 0], .bool false]) (by simp [results, Tryz.results35, go_sem, m0, m1, m2, m3]) rfl ?_
        exact ScP.out (N := w.heap.size + 1) (res := none) HN.out (Nat.le_succ _) HE1.out.2.2 ⟨Nat.le_refl _, [], reads_nil _ _, rfl⟩
      | true =>
      obtain ⟨d, hfd, hda⟩ : ∃ d, findD ds t = some d ∧ (kids.len : Int) = d.arity := by
        have hd := HDc.out
        rw [dcB] at hd
        cases hf : findD ds t with
        | none => rw [hf] at hd; cases hd
        | some d => rw [hf] at hd; exact ⟨d, rfl, by simpa using hd⟩
      obtain ⟨r, hcr, hrl⟩ := HWF.out.2.1 d (findD_mem hfd)
      have hz : z0 = (supR nm d r).map fun s => insT s kids := by
        rw [HSup.out, hfd]
        simp only
        rw [if_pos hda, chn_of hcr 100 (by omega)]
      obtain ⟨Ae, ce, Fe, xe, hlk, hke, hfe2⟩ := HH.out.find (s := t) HWF.out.2.2.2 hfd
      have HL := Lib.hid hlk
      obtain ⟨s5, hs5⟩ : ∃ s5, supR nm d r = s5 := ⟨_, rfl⟩
      have HS : Hid (∀ X, BH w X → Calls Tryz.prog 69 #[.pointer (some ⟨p, 0, none⟩), .string ⟨nm.toArray⟩, .agg #[.string ⟨d.name.toArray⟩, .int .i64 d.arity, .int .i64 d.super.k, .string ⟨d.super.t.toArray⟩, .int .i64 d.super.o, .slice Ae d.super.kids.len ce, .bool d.conc, .slice Fe d.fields.length xe]] X (ScP w.heap.size s5 X)) := Lib.hid fun X hX => by
        have h := hSuperCalled w B p b Q v l ds nm HH.out HWF.out.1 r d Ae Fe ce xe X hcr hrl (findD_mem hfd) hX (hke.bh hX)
        rw [hs5] at h
        exact h
      have hLv : ∀ s, s5 = some s → Lv ds d.arity 12582912 nm s := fun s h => supR_ok HWF.out.1 hcr (HWF.out.1 d (findD_mem hfd)) hrl (by rw [hs5, h])
      have HLv := Lib.hid hLv
      have HSt := Lib.hid (HWF.out.1 d (findD_mem hfd))
      rw [hs5] at hz
      subst hz
      have HBk := Lib.hid HH.out.blk
      obtain ⟨S, hS⟩ : ∃ S, resT s5 = S := ⟨_, rfl⟩
      obtain ⟨z, hz⟩ : ∃ z, s5.isSome = z := ⟨_, rfl⟩
      have HSz := Lib.hid (And.intro hS hz)
      clear hlk hke hfe2 hs5 hfd hcr hrl hda hLv hS hz
      go_upto_region 7 with (fail)
      obtain ⟨X, hX⟩ : ∃ X, u1 = X := ⟨_, rfl⟩
      obtain ⟨gN, hgN⟩ : ∃ gN, w.heap.size = gN := ⟨_, rfl⟩
      have HgN := Lib.hid hgN
      rw [hX, hgN] at HE1
      rw [hX, hgN]
      have HE := Lib.hid (And.intro HE1.out.1 (And.intro HE1.out.2.1 (And.intro HE1.out.2.2 (show gN + 2 ≤ X.heap.size by have := heap_lt HE1.out.2.1; omega))))
      have HB : Hid (BH w w) := Lib.hid (BH.refl w)
      clear hX hgN HE1
      obtain ⟨RR, hRR⟩ : ∃ RR : Value → World → Prop, RR = (fun s8 wx => Hid (∃ (g8 : Nat) (A : Option Addr) (c : Nat), s8 = .pointer (some ⟨g8, 0, none⟩) ∧ BH X wx ∧ X.heap.size ≤ g8 ∧ wx.heap[g8]? = some (.cells #[.int .i64 S.k, .string ⟨S.t.toArray⟩, .int .i64 S.o, .slice A S.kids.len c] 34 (0, 0)) ∧ KS wx (fun y => y < w.heap.size ∨ X.heap.size ≤ y) S.kids A c)) := ⟨_, rfl⟩
      have HRR := Lib.hid hRR
      clear hRR
      go_cut [8, 9] (fun s8 s9 wx => RR s8 wx ∧ s9 = .bool z)
      case first =>
        refine wp_region_ghost (by kernel_rfl) (su7V p b gN w.heap.size X.heap.size nm t d Ae ce Fe xe S z) (suI X S) (suT X S) su7Z ⟨0, 0, 0, none, 0⟩ ⟨below_drew X, fun h => absurd h (by show ¬ (0 : Nat) = 1; decide), fun h => absurd h (by show ¬ (0 : Nat) = 2; decide), fun h => absurd h (by show ¬ 1 ≤ (0 : Nat); decide), Nat.zero_le _, fun h => absurd h (by show ¬ (0 : Nat) = 2; decide)⟩ (fun _ => ⟨fun _ => rfl, fun _ => rfl, fun _ => Nat.zero_le _⟩) (fun _ _ _ _ _ h => h.1) su7V_T (by kernel_rfl) ?_ ?_
        · refine ⟨?_, ?_, ?_, ?_, ?_, ?_, ?_, ?_, ?_, ?_, ?_, ?_, ?_, ?_, ?_, ?_, trivial⟩
          · intro m a W hI _ hF hD
            have h := same_of hF 0 (by kernel_rfl)
            go_simp
            exact ⟨_, rfl, m, rfl, su_same hI, fun _ _ h => h⟩
          · intro m a W hI _ hF hD
            have h := same_of hF 2 (by kernel_rfl)
            go_simp
            exact ⟨_, rfl, m, rfl, su_same hI, fun _ _ h => h⟩
          · intro m a W hI _ hF hD
            have h := same_of hF 0 (by kernel_rfl)
            go_simp
            exact ⟨_, rfl, m, rfl, su_same hI, fun _ _ h => h⟩
          · intro m a W hI _ hF hD
            have h : a.tmps[28]?.getD undef = .pointer (some ⟨p, 0, none⟩) := dep_of hD 2 28 (by kernel_rfl) rfl rfl
            go_simp
            exact ⟨_, rfl, m, rfl, su_same hI, fun _ _ h => h⟩
          · intro m a W hI _ hF hD
            have h : a.tmps[29]?.getD undef = .pointer (some ⟨p, 0, none⟩) := dep_of hD 3 29 (by kernel_rfl) rfl rfl
            go_simp
            exact ⟨_, rfl, m, rfl, su_same hI, fun _ _ h => h⟩
          · intro m a W hI _ hF hD
            have h : a.tmps[30]?.getD undef = .pointer (some ⟨p, 1, none⟩) := dep_of hD 4 30 (by kernel_rfl) rfl rfl
            have hbw := BH.trans HB.out (BH.trans HE.out.2.2.1 hI.1)
            obtain ⟨s0, s1, _⟩ := row2 ((Below.block hbw _ (heap_lt HBk.out)).trans HBk.out)
            clear hbw
            go_simp
            exact ⟨_, rfl, m, rfl, su_same hI, fun _ _ h => h⟩
          · intro m a W hI _ hF hD
            have h := same_of hF 4 (by kernel_rfl)
            go_simp
            exact ⟨_, rfl, m, rfl, su_same hI, fun _ _ h => h⟩
          · intro m a W hI _ hF hD
            have h : a.tmps[32]?.getD undef = .pointer (some ⟨gN, 1, none⟩) := dep_of hD 6 32 (by kernel_rfl) rfl rfl
            obtain ⟨r0, r1, r2, r3, _⟩ := row4 ((Below.block hI.1 _ (heap_lt HE.out.1)).trans HE.out.1)
            go_simp
            exact ⟨_, rfl, m, rfl, su_same hI, fun _ _ h => h⟩
          · intro m a W hI _ hF hD
            have h : a.tmps[31]?.getD undef = .map (some b) := dep_of hD 5 31 (by kernel_rfl) rfl rfl
            have h' : a.tmps[33]?.getD undef = .string ⟨t.toArray⟩ := dep_of hD 7 33 (by kernel_rfl) rfl rfl
            have hrun := HL.out W (BH.trans HB.out (BH.trans HE.out.2.2.1 hI.1))
            go_simp
            exact ⟨_, rfl, m, rfl, su_same hI, fun _ _ h => h⟩
          · intro m a W hI hZ hF hD
            obtain ⟨al, g, cl, A, c⟩ := m
            obtain rfl : cl = 0 := hZ.1 rfl
            have h : a.tmps[26]?.getD undef = .pointer (some ⟨p, 0, none⟩) := dep_of hD 0 26 (by kernel_rfl) rfl rfl
            have h' : a.tmps[27]?.getD undef = .string ⟨nm.toArray⟩ := dep_of hD 1 27 (by kernel_rfl) rfl rfl
            have h'' : a.tmps[34]?.getD undef = .agg #[.string ⟨d.name.toArray⟩, .int .i64 d.arity, .int .i64 d.super.k, .string ⟨d.super.t.toArray⟩, .int .i64 d.super.o, .slice Ae d.super.kids.len ce, .bool d.conc, .slice Fe d.fields.length xe] := dep_of hD 8 34 (by kernel_rfl) rfl rfl
            have HC := Lib.hid (HS.out W (BH.trans HB.out (BH.trans HE.out.2.2.1 hI.1)))
            have HI := Lib.hid hI
            clear hI hZ hF hD
            go_simp
            refine HC.out.mono ?_
            rintro r u ⟨A', c', rfl, k1, hbu⟩
            rw [HSz.out.1, HSz.out.2]
            rw [HSz.out.1] at k1
            obtain ⟨i1, i2, i3, i4, i5, i6⟩ := HI.out
            simp only at i2 i3 i4 i5 i6
            have hsu := Below.size hbu
            have hsX := Below.size i1
            refine ⟨_, rfl, ⟨al, g, 1, A', c'⟩, ⟨rfl, rfl, k1.keep (Nat.le_refl _) fun y hy _ => ⟨rfl, ?_, fun h => ?_⟩⟩, ⟨⟨BH.trans i1 hbu, fun h => (Below.block hbu _ (i4 (by simp only at h; omega)).2).trans (i2 h), fun h => ?_, fun h => ⟨(i4 h).1, Nat.lt_of_lt_of_le (i4 h).2 hsu⟩, i5, fun _ => rfl⟩, hsu, fun h => absurd h (by show ¬ (0 : Nat) = 1; decide), Nat.le_refl _, fun _ => rfl, fun h1 h2 => by simp only at h1 h2; omega, fun y hy _ => Below.block hbu y hy⟩, fun j hj hz => ⟨fun e => absurd e hj, hz.2.1, hz.2.2⟩⟩
            · rcases hy with hy | hy
              · exact .inl hy
              · exact .inr (by omega)
            · have h4 := i4 h
              have h5 := HE.out.2.2.2
              have h6 := HN.out
              have h7 := HgN.out
              show ¬ y = g
              omega
            · exfalso
              have := i6 h
              omega
          · intro m a W hI _ hF hD
            obtain ⟨e1, h, _⟩ : m.cl = 1 ∧ a.tmps[35]?.getD undef = .tuple #[.agg #[.int .i64 S.k, .string ⟨S.t.toArray⟩, .int .i64 S.o, .slice m.A S.kids.len m.c], .bool z] ∧ KS W (suS w.heap.size X.heap.size m) S.kids m.A m.c := dep_of hD 9 35 (by kernel_rfl) rfl rfl
            have H1 := Lib.hid e1
            clear e1
            go_simp
            exact ⟨_, rfl, m, ⟨H1.out, rfl⟩, su_same hI, fun _ _ h => h⟩
          · intro m a W hI _ hF hD
            obtain ⟨e1, h⟩ : m.cl = 1 ∧ a.tmps[25]?.getD undef = .tuple #[.agg #[.int .i64 S.k, .string ⟨S.t.toArray⟩, .int .i64 S.o, .slice m.A S.kids.len m.c], .bool z] := dep_of hD 10 25 (by kernel_rfl) rfl rfl
            have H1 := Lib.hid e1
            clear e1
            go_simp
            exact ⟨_, rfl, m, ⟨H1.out, rfl⟩, su_same hI, fun _ _ h => h⟩
          · intro m a W hI _ hF hD
            obtain ⟨e1, h⟩ : m.cl = 1 ∧ a.tmps[25]?.getD undef = .tuple #[.agg #[.int .i64 S.k, .string ⟨S.t.toArray⟩, .int .i64 S.o, .slice m.A S.kids.len m.c], .bool z] := dep_of hD 10 25 (by kernel_rfl) rfl rfl
            clear e1
            go_simp
            exact ⟨_, rfl, m, rfl, su_same hI, fun _ _ h => h⟩
          · intro m a W hI hZ hF hD
            have HI := Lib.hid (And.intro hI hZ)
            clear hI hZ hF hD
            go_simp
            obtain ⟨hI, hZ⟩ := HI.out
            obtain ⟨al, g, cl, A, c⟩ := m
            obtain rfl : al = 0 := hZ.2.1 rfl
            obtain ⟨i1, i2, i3, i4, i5, i6⟩ := hI
            have hb := bh_alloc (BH.refl W) (.cells #[.int .i64 0, .string ⟨#[]⟩, .int .i64 0, .slice none 0 0] 34)
            exact ⟨_, rfl, ⟨1, W.heap.size, cl, A, c⟩, ⟨Nat.le_refl _, rfl⟩, ⟨⟨BH.trans i1 hb, fun _ => heap_alloc_new W _, fun h => absurd h (by show ¬ (1 : Nat) = 2; decide), fun _ => ⟨Below.size i1, by simp⟩, by show (1 : Nat) ≤ 2; decide, fun h => absurd h (by show ¬ (1 : Nat) = 2; decide)⟩, by simp, fun h => ⟨h, rfl, rfl⟩, Nat.zero_le _, fun h => absurd h (by show ¬ 1 ≤ (0 : Nat); decide), fun _ _ => Nat.le_refl _, fun y hy _ => Below.block hb y hy⟩, fun j hj hz => ⟨hz.1, fun e => absurd e hj, fun _ => Nat.le_refl _⟩⟩
          · intro m a W hI hZ hF hD
            obtain ⟨al, g, cl, A, c⟩ := m
            obtain ⟨e1, h8⟩ : 1 ≤ al ∧ a.tmps[8]?.getD undef = .pointer (some ⟨g, 0, none⟩) := dep_of hD 13 8 (by kernel_rfl) rfl rfl
            obtain ⟨e2, h34⟩ : cl = 1 ∧ a.tmps[36]?.getD undef = .agg #[.int .i64 S.k, .string ⟨S.t.toArray⟩, .int .i64 S.o, .slice A S.kids.len c] := dep_of hD 11 36 (by kernel_rfl) rfl rfl
            have hz2 : al ≤ 1 := hZ.2.2 rfl
            obtain rfl : al = 1 := by omega
            obtain ⟨i1, i2, i3, i4, i5, i6⟩ := hI
            have hblk := i2 rfl
            have hg := i4 (Nat.le_refl _)
            simp only at hblk hg
            obtain ⟨h0, h1, h2, h3, z0, z1, z2, z3⟩ := row4 hblk
            have hfin := s4 hblk (.int .i64 S.k) (.string ⟨S.t.toArray⟩) (.int .i64 S.o) (.slice A S.kids.len c)
            have hbs := below_gb_of (BH.refl X) (s4_gb (gb_below i1 (some g)) hg.1 (.int .i64 S.k) (.string ⟨S.t.toArray⟩) (.int .i64 S.o) (.slice A S.kids.len c)) hg.1
            have HFin := Lib.hid (And.intro hfin (And.intro hbs hg))
            have HE2 := Lib.hid e2
            clear hfin hbs hblk hD hF i1 i2 i3 i4 i5 i6 hg hZ e1 e2 hz2
            go_simp
            exact ⟨.bool true, ⟨2, g, cl, A, c⟩, rfl, ⟨⟨HFin.out.2.1, fun h => absurd h (by show ¬ (2 : Nat) = 1; decide), fun _ => HFin.out.1, fun _ => ⟨HFin.out.2.2.1, by simp [size_set]; exact HFin.out.2.2.2⟩, Nat.le_refl _, fun _ => HE2.out⟩, by simp [size_set], fun h => ⟨h, rfl, rfl⟩, by show (1 : Nat) ≤ 2; decide, fun _ => rfl, fun h => absurd h (by show ¬ (1 : Nat) = 0; decide), fun y hy hne => s4_far (hne (Nat.le_refl _)) _ _ _ _⟩, fun j hj hz => ⟨hz.1, fun e => absurd (hz.2.1 e) (by show ¬ (1 : Nat) = 0; decide), fun e => absurd e hj⟩⟩
          · intro m a W hI _ hF hD
            have h : a.tmps[37]?.getD undef = .bool z := dep_of hD 12 37 (by kernel_rfl) rfl rfl
            go_simp
            exact ⟨_, rfl, m, rfl, su_same hI, fun _ _ h => h⟩
        · intro m a W hI hF hN hall
          obtain ⟨e1, h8⟩ : 1 ≤ m.al ∧ a.tmps[8]?.getD undef = .pointer (some ⟨m.g, 0, none⟩) := all_of hall 13 8 rfl rfl
          have h9 : a.tmps[9]?.getD undef = .bool z := all_of hall 15 9 rfl rfl
          obtain ⟨_, hm2⟩ : ∃ v : Value, m.al = 2 := hN 14 _ rfl rfl
          obtain ⟨e2, _, k2⟩ : m.cl = 1 ∧ a.tmps[35]?.getD undef = .tuple #[.agg #[.int .i64 S.k, .string ⟨S.t.toArray⟩, .int .i64 S.o, .slice m.A S.kids.len m.c], .bool z] ∧ KS W (suS w.heap.size X.heap.size m) S.kids m.A m.c := all_of hall 9 35 rfl rfl
          have HR : RR (a.tmps.getD 8 undef) W := by
            rw [Array.getD_eq_getD_getElem?, h8, HRR.out]
            exact Lib.hid ⟨m.g, m.A, m.c, rfl, hI.1, (hI.2.2.2.1 e1).1, hI.2.2.1 hm2, k2.keep (Nat.le_refl _) fun y hy _ => ⟨rfl, hy.1⟩⟩
          have HRW := Lib.hid (And.intro h9 HR)
          have HA := Lib.hid (Frm.act hF)
          clear h8 h9 e1 e2 k2 hm2 HR hF hI hN hall
          simp only [Exit.inBlock, Exit.then]
          apply_assumption
          refine Met.intro ?_
          go_step
          (repeat apply Exists.intro)
          refine ⟨?rela, ?eqa⟩
          case eqa => exact HA.out.trans rfl
          exact ⟨HRW.out.2, (Array.getD_eq_getD_getElem? ..).trans HRW.out.1⟩
      case rest =>
        obtain ⟨hRR, rfl⟩ := hcut
        rw [HRR.out] at hRR
        obtain ⟨g8, A, c, rfl, q1, q2, q3, q4⟩ := hRR.out
        have HQ := Lib.hid (And.intro q1 (And.intro q2 (And.intro q3 q4)))
        have hr := (Below.block q1 _ (heap_lt HE.out.2.1)).trans HE.out.2.1
        have hd8 := (Below.block q1 _ (heap_lt HE.out.1)).trans HE.out.1
        have HR := Lib.hid hr
        have HBw := Lib.hid (BH.trans HE.out.2.2.1 q1)
        obtain ⟨b0, b1, b2, b3, y0, y1, y2, y3⟩ := row4 hr
        obtain ⟨s0, s1, s2, s3, _⟩ := row4 q3
        obtain ⟨r0, r1, r2, r3, _⟩ := row4 hd8
        clear q1 q2 q3 q4 hRR hr hd8 HRR
        cases s5 with
        | none =>
          obtain ⟨_, rfl⟩ := HSz.out
          go_wp2_with (fail)
          obtain ⟨m0, m1, m2, m3, _⟩ := row4 (s4 HR.out (.int .i64 0) (.string ⟨#[]⟩) (.int .i64 0) (.slice none 0 0))
          refine bodyPost_ret (v := .tuple #[.agg #[.int .i64 0, .string ⟨#[]⟩, .int .i64 0, .slice none 0 0], .bool false]) (by simp [results, Tryz.results35, go_sem, m0, m1, m2, m3]) rfl ?_
          exact ScP.out (N := gN + 1) (res := none) HN.out (by have := HgN.out; omega) HBw.out ⟨Nat.le_refl _, [], reads_nil _ _, rfl⟩
        | some s =>
          obtain ⟨hS, hz⟩ := HSz.out
          have hz' : true = z := hz
          have hS' : s = S := hS
          subst hz' hS'
          clear hS hz HSz
          have hlv := HLv.out s rfl
          have hI := instantiate_any 3 s.k s.o s.t s.kids A c kids A0 c0 wc (by decide) (by decide) (by have := hlv.size; omega) (wid_of_size (by have := hlv.size; omega)) HWF.out.2.2.1 HQ.out.2.2.2.kt (HK.out.below HBw.out) (closed1_mono HSt.out.g.2.1 hlv.closed1)
          have HI := Lib.hid hI
          clear hI hlv
          go_wp2_with (fail)
          refine HI.out.mono ?_
          rintro e9 u2 ⟨A2, c2, rfl, k2, b9⟩
          have HR2 := Lib.hid (And.intro ((Below.block b9 _ (heap_lt HR.out)).trans HR.out) (And.intro (BH.trans HBw.out b9) (And.intro k2 (And.intro (Below.size HBw.out) (heap_lt HR.out)))))
          clear k2 b9 b0 b1 b2 b3 y0 y1 y2 y3 s0 s1 s2 s3 r0 r1 r2 r3
          obtain ⟨y, hy⟩ : ∃ y, rep1 (Gi kids) shi s.k s.t s.o s.kids 0 = y := ⟨_, rfl⟩
          rw [hy] at HR2 ⊢
          have Hy := Lib.hid hy
          clear hy
          obtain ⟨b0, b1, b2, b3, y0, y1, y2, y3⟩ := row4 HR2.out.1
          go_wp2_with (fail)
          obtain ⟨m0, m1, m2, m3, _⟩ := row4 (s4 HR2.out.1 (.int .i64 y.k) (.string ⟨y.t.toArray⟩) (.int .i64 y.o) (.slice A2 y.kids.len c2))
          refine bodyPost_ret (v := .tuple #[.agg #[.int .i64 y.k, .string ⟨y.t.toArray⟩, .int .i64 y.o, .slice A2 y.kids.len c2], .bool true]) (by simp [results, Tryz.results35, go_sem, m0, m1, m2, m3]) rfl ?_
          have hgN := HgN.out
          have hsz := HR2.out.2.2.2
          have hfin := ScP.out (N := gN + 1) (res := some y) HN.out (by omega) HR2.out.2.1 (HR2.out.2.2.1.keep (Nat.le_refl _) fun q hq _ => ⟨rfl, .inr (by rcases hq with hq | hq; exact hq.elim; omega), by rcases hq with hq | hq; exact hq.elim; omega⟩)
          rw [show (some s : Option Tm).map (fun s => insT s kids) = some y from congrArg some Hy.out]
          exact hfin
end Go.Proofs.YtpkiheenkpcebaaGreatDoor
namespace Go.Proofs.YtpkiheenkpcebaaGreatDoor
open Go.RowKit Sx

def zeroDe : De := ⟨[], 0, ⟨0, [], .nil, 0⟩, false, []⟩
/-- the eight values of a declaration -/
abbrev agD (e : De) (A : Option Addr) (c : Nat) (F : Option Addr) (x : Nat) : Array Value := #[.string ⟨e.name.toArray⟩, .int .i64 e.arity, .int .i64 e.super.k, .string ⟨e.super.t.toArray⟩, .int .i64 e.super.o, .slice A e.super.kids.len c, .bool e.conc, .slice F e.fields.length x]
/-- a look-up that says whether there is one -/
theorem Hier.find2 {w : World} {B p b : Nat} {Q : Nat → Prop} {v : Value} {l : List (List UInt8 × Value)} {ds : List De} (h : Hier w B p b Q v l ds) {s : List UInt8} (hs : s.length ≤ 1048576) :
    ∃ (d : De) (A : Option Addr) (c : Nat) (F : Option Addr) (x : Nat), d = (findD ds s).getD zeroDe ∧ (∀ W, BH w W → (Instr.lookup 75 (.map (some b)) (.string ⟨s.toArray⟩) true).run Tryz.prog W = .ok (.tuple #[.agg #[.string ⟨d.name.toArray⟩, .int .i64 d.arity, .int .i64 d.super.k, .string ⟨d.super.t.toArray⟩, .int .i64 d.super.o, .slice A d.super.kids.len c, .bool d.conc, .slice F d.fields.length x], .bool (findD ds s).isSome]) W) := by
  cases hd : findD ds s with
  | none =>
    refine ⟨zeroDe, none, 0, none, 0, rfl, fun W hb => ?_⟩
    have hl2 := MapL.look (P := Tryz.prog) (t := 75) (h.bh hb).map Tryz.underlying9 Tryz.underlying75 (zeroDecl W) (s := s) (by unfold maxLen; omega) true
    rw [h.none' hd] at hl2
    exact hl2
  | some d =>
    obtain ⟨_, u, hu, A1, c1, F1, x1, rfl, hk1, hf1⟩ := h.some' hd
    refine ⟨d, A1, c1, F1, x1, rfl, fun W hb => ?_⟩
    have hl2 := MapL.look (P := Tryz.prog) (t := 75) (h.bh hb).map Tryz.underlying9 Tryz.underlying75 (zeroDecl W) (s := s) (by unfold maxLen; omega) true
    rw [hu] at hl2
    exact hl2

def iaV (p b g7 : Nat) (t : List UInt8) (e : De) (A : Option Addr) (c : Nat) (F : Option Addr) (x : Nat) (_ : Nat) (j : Nat) (v : Value) (_ : World) : Prop :=
  match j with
  | 0 => v = .pointer (some ⟨p, 0, none⟩)
  | 1 => v = .pointer (some ⟨p, 0, none⟩)
  | 2 => v = .pointer (some ⟨p, 1, none⟩)
  | 3 => v = .map (some b)
  | 4 => v = .pointer (some ⟨g7, 2, none⟩)
  | 5 => v = .pointer (some ⟨g7, 3, none⟩)
  | 6 => v = .string ⟨t.toArray⟩
  | _ => v = .agg #[.string ⟨e.name.toArray⟩, .int .i64 e.arity, .int .i64 e.super.k, .string ⟨e.super.t.toArray⟩, .int .i64 e.super.o, .slice A e.super.kids.len c, .bool e.conc, .slice F e.fields.length x]

def iaI (wr : World) (_ : Nat) (W : World) : Prop := BH wr W
def iaT (wr : World) (_ : Nat) (_ : World) (_ : Nat) (W : World) : Prop := BH wr W
def iaZ (_ : Nat) (_ : Nat) : Prop := True
set_option maxHeartbeats 16000000 in
set_option maxRecDepth 100000 in
theorem hIsAnc (B p b : Nat) (Q : Nat → Prop) (v : Value) (l : List (List UInt8 × Value)) (ds : List De) (nm of_ : List UInt8) (w : World) (H : Hier w B p b Q v l ds) (W0 : WF ds) (hC : ChB ds 10) (hof : of_.length ≤ 1048576) :
    Calls Tryz.prog 30 #[.pointer (some ⟨p, 0, none⟩), .string ⟨nm.toArray⟩, .string ⟨of_.toArray⟩] w fun e w' => e = .returned (.bool (ancB ds nm of_)) ∧ BH w w' := by
  obtain ⟨d, A, c, F, x, hd, hlk⟩ := H.find2 (s := of_) hof
  obtain ⟨fnd, hfnd⟩ : ∃ fnd, (findD ds of_).isSome = fnd := ⟨_, rfl⟩
  rw [hfnd] at hlk
  obtain ⟨r, hr, hrl, hz⟩ : ∃ r, Ch ds d r ∧ r.length ≤ 10 ∧ ancB ds nm of_ = (fnd && (((d :: r).any fun e => decide (e.name = nm)) || decide (nm = sAny))) := by
    cases hf : findD ds of_ with
    | none =>
      rw [hf] at hd hfnd
      exact ⟨[], by rw [hd]; exact .top (by decide), by simp, by rw [ancB, hf, ← hfnd]; rfl⟩
    | some d' =>
      rw [hf] at hd hfnd
      obtain rfl : d = d' := hd
      obtain ⟨r, h1, h2⟩ := hC d (findD_mem hf)
      exact ⟨r, h1, h2, by rw [ancB, hf, ← hfnd]; simp only; rw [chn_of h1 100 (by omega)]; simp [Bool.or_comm]⟩
  obtain ⟨Z, hZ⟩ : ∃ Z, ancB ds nm of_ = Z := ⟨_, rfl⟩
  rw [hZ]
  rw [hZ] at hz
  have HZ := Lib.hid hz
  have HCh := Lib.hid (And.intro hr hrl)
  have hrun := hlk w (BH.refl w)
  have HH := Lib.hid H
  have HWF := Lib.hid W0
  obtain ⟨s0, s1, _⟩ := row2 H.blk
  have hb0 := bh_alloc (BH.refl w) (.cells #[.string ⟨d.name.toArray⟩, .int .i64 d.arity, .int .i64 d.super.k, .string ⟨d.super.t.toArray⟩, .int .i64 d.super.o, .slice A d.super.kids.len c, .bool d.conc, .slice F d.fields.length x] 37)
  have hn0 := heap_alloc_new w (.cells #[.string ⟨d.name.toArray⟩, .int .i64 d.arity, .int .i64 d.super.k, .string ⟨d.super.t.toArray⟩, .int .i64 d.super.o, .slice A d.super.kids.len c, .bool d.conc, .slice F d.fields.length x] 37)
  have HN0 := Lib.hid (And.intro hn0 hb0)
  have HIn : Hid (d ∈ ds ∨ d = zeroDe) := Lib.hid (by
    rw [hd]
    cases hf : findD ds of_ with
    | none => exact .inr rfl
    | some d' => exact .inl (findD_mem hf))
  clear hz hr hrl hlk H W0 hC hd hfnd hZ hb0 hn0
  go_enter Tryz.func30, Tryz.ntmps30
  go_wp2_with (fail)
  clear hrun s0 s1
  go_loopg [] r.length (fun k wr => ∃ (e : De) (r' : List De) (A : Option Addr) (c : Nat) (F : Option Addr) (x : Nat), r'.length = k ∧ Hid (wr.heap[w.heap.size]? = some (.cells #[.string ⟨e.name.toArray⟩, .int .i64 e.arity, .int .i64 e.super.k, .string ⟨e.super.t.toArray⟩, .int .i64 e.super.o, .slice A e.super.kids.len c, .bool e.conc, .slice F e.fields.length x] 37 (0, 0)) ∧ BH w wr ∧ Ch ds e r' ∧ Z = (fnd && (((e :: r').any fun e => decide (e.name = nm)) || decide (nm = sAny))) ∧ (e ∈ ds ∨ e = zeroDe)))
  case atStart => exact ⟨d, r, A, c, F, x, rfl, Lib.hid ⟨HN0.out.1, HN0.out.2, HCh.out.1, HZ.out, HIn.out⟩⟩
  case round =>
    obtain ⟨e, r', A, c, F, x, hk, hR⟩ := hrel
    obtain ⟨q1, q2, q3, q4, q5⟩ := hR.out
    obtain ⟨⟨r0, r1, r2, r3, r4, r5, r6, r7⟩, y0, y1, y2, y3, y4, y5, y6, y7⟩ := row8 q1
    have HQ := Lib.hid (And.intro q1 (And.intro q2 (And.intro q3 (And.intro q4 q5))))
    have HK := Lib.hid hk
    clear q1 q2 q3 q4 q5 hR hk
    by_cases hn : e.name = nm
    · subst hn
      cases fnd with
      | false =>
        go_wp2_with (fail)
        go_ret
        exact ⟨by rw [HQ.out.2.2.2.1]; rfl, HQ.out.2.1⟩
      | true =>
        go_wp2_with (fail)
        go_ret
        exact ⟨by rw [HQ.out.2.2.2.1]; simp, HQ.out.2.1⟩
    · have t1 := tba_ne hn
      have t2 : (e.name == nm) = false := by simpa using hn
      have HNe := Lib.hid hn
      by_cases hk2 : e.super.k = 2
      · obtain ⟨e1, r1', hr1, hfe, hce⟩ : ∃ e1 r1', r' = e1 :: r1' ∧ findD ds e.super.t = some e1 ∧ Ch ds e1 r1' := by
          have h := HQ.out.2.2.1
          cases h with
          | top h => exact absurd hk2 h
          | up h1 h2 h3 => exact ⟨_, _, rfl, h2, h3⟩
        have hts : e.super.t.length ≤ 1048576 := by
          rcases HQ.out.2.2.2.2 with h | h
          · exact (HWF.out _ h).g.2.2.2.1
          · rw [h]; decide
        obtain ⟨A1, c1, F1, x1, hlk, hke, hfe2⟩ := HH.out.find (s := e.super.t) hts hfe
        have HL := Lib.hid hlk
        have HX := Lib.hid (And.intro hr1 hce)
        have HMem := Lib.hid (findD_mem hfe)
        obtain ⟨K, hK⟩ : ∃ K, e.super.k = K := ⟨_, rfl⟩
        have tk : (e.super.k == 2) = true := by simpa using hk2
        clear hlk hke hfe2 hfe hr1 hce hn
        obtain ⟨RR, hRR⟩ : ∃ RR : World → Prop, RR = (fun W => Hid (W.heap[w.heap.size]? = some (.cells #[.string ⟨e1.name.toArray⟩, .int .i64 e1.arity, .int .i64 e1.super.k, .string ⟨e1.super.t.toArray⟩, .int .i64 e1.super.o, .slice A1 e1.super.kids.len c1, .bool e1.conc, .slice F1 e1.fields.length x1] 37 (0, 0)) ∧ BH w W)) := ⟨_, rfl⟩
        have HRR := Lib.hid hRR
        clear hRR r0 r1 r2 r3 r4 r5 r6 r7 y0 y1 y2 y3 y4 y5 y6 y7
        obtain ⟨⟨r0, r1, r2, r3, r4, r5, r6, r7⟩, y0, y1, y2, y3, y4, y5, y6, y7⟩ := row8 HQ.out.1
        go_upto_block 1 with (fail)
        go_cut [] (fun wx => RR wx)
        case first =>
          go_upto_region 3 with (fail)
          refine wp_region_last (γ := Nat) (by kernel_rfl) (iaV p b w.heap.size e.super.t e1 A1 c1 F1 x1) (iaI wr) (iaT wr) iaZ (fun _ W => RR W) 0 8 _ rfl (below_drew wr) (fun _ => trivial) (fun _ _ _ _ _ h => h) (fun _ _ _ _ _ _ h _ => h) (by kernel_rfl) ?_ ?_ ?_
          · refine ⟨?_, ?_, ?_, ?_, ?_, ?_, ?_, ?_, trivial⟩
            · intro m a W hI _ hF hD
              have h := same_of hF 0 (by kernel_rfl)
              go_simp
              exact ⟨_, rfl, m, rfl, hI, fun _ _ h => h⟩
            · intro m a W hI _ hF hD
              have h : a.tmps[28]?.getD undef = .pointer (some ⟨p, 0, none⟩) := dep_of hD 0 28 (by kernel_rfl) rfl rfl
              go_simp
              exact ⟨_, rfl, m, rfl, hI, fun _ _ h => h⟩
            · intro m a W hI _ hF hD
              have h : a.tmps[29]?.getD undef = .pointer (some ⟨p, 0, none⟩) := dep_of hD 1 29 (by kernel_rfl) rfl rfl
              go_simp
              exact ⟨_, rfl, m, rfl, hI, fun _ _ h => h⟩
            · intro m a W hI _ hF hD
              have h : a.tmps[30]?.getD undef = .pointer (some ⟨p, 1, none⟩) := dep_of hD 2 30 (by kernel_rfl) rfl rfl
              obtain ⟨s0, s1, _⟩ := row2 (HH.out.bh (BH.trans HQ.out.2.1 hI)).blk
              go_simp
              exact ⟨_, rfl, m, rfl, hI, fun _ _ h => h⟩
            · intro m a W hI _ hF hD
              have h := same_of hF 7 (by kernel_rfl)
              go_simp
              exact ⟨_, rfl, m, rfl, hI, fun _ _ h => h⟩
            · intro m a W hI _ hF hD
              have h : a.tmps[32]?.getD undef = .pointer (some ⟨w.heap.size, 2, none⟩) := dep_of hD 4 32 (by kernel_rfl) rfl rfl
              go_simp
              exact ⟨_, rfl, m, rfl, hI, fun _ _ h => h⟩
            · intro m a W hI _ hF hD
              have h : a.tmps[33]?.getD undef = .pointer (some ⟨w.heap.size, 3, none⟩) := dep_of hD 5 33 (by kernel_rfl) rfl rfl
              have l3 := BH.cell hI r3
              go_simp
              exact ⟨_, rfl, m, rfl, hI, fun _ _ h => h⟩
            · intro m a W hI _ hF hD
              have h : a.tmps[31]?.getD undef = .map (some b) := dep_of hD 3 31 (by kernel_rfl) rfl rfl
              have h' : a.tmps[34]?.getD undef = .string ⟨e.super.t.toArray⟩ := dep_of hD 6 34 (by kernel_rfl) rfl rfl
              have hrun := HL.out W (BH.trans HQ.out.2.1 hI)
              go_simp
              exact ⟨_, rfl, m, rfl, hI, fun _ _ h => h⟩
          · intro m a W hI hF hall
            have h7 := same_of hF 7 (by kernel_rfl)
            have h35 : a.tmps[35]?.getD undef = .agg #[.string ⟨e1.name.toArray⟩, .int .i64 e1.arity, .int .i64 e1.super.k, .string ⟨e1.super.t.toArray⟩, .int .i64 e1.super.o, .slice A1 e1.super.kids.len c1, .bool e1.conc, .slice F1 e1.fields.length x1] := all_of hall 7 35 rfl rfl
            have hblk := (Below.block hI _ (heap_lt HQ.out.1)).trans HQ.out.1
            obtain ⟨⟨l0, l1, l2, l3, l4, l5, l6, l7⟩, z0, z1, z2, z3, z4, z5, z6, z7⟩ := row8 hblk
            have hfin : RR ((((((((W.setCell ⟨w.heap.size, 0, none⟩ (.string ⟨e1.name.toArray⟩)).setCell ⟨w.heap.size, 1, none⟩ (.int .i64 e1.arity)).setCell ⟨w.heap.size, 2, none⟩ (.int .i64 e1.super.k)).setCell ⟨w.heap.size, 3, none⟩ (.string ⟨e1.super.t.toArray⟩)).setCell ⟨w.heap.size, 4, none⟩ (.int .i64 e1.super.o)).setCell ⟨w.heap.size, 5, none⟩ (.slice A1 e1.super.kids.len c1)).setCell ⟨w.heap.size, 6, none⟩ (.bool e1.conc)).setCell ⟨w.heap.size, 7, none⟩ (.slice F1 e1.fields.length x1)) := by
              rw [HRR.out]
              exact Lib.hid ⟨s8 hblk _ _ _ _ _ _ _ _, below_gb_of (BH.refl w) (s8_gb (gb_below (BH.trans HQ.out.2.1 hI) (some w.heap.size)) (Nat.le_refl _) _ _ _ _ _ _ _ _) (Nat.le_refl _)⟩
            have HFin := Lib.hid hfin
            clear hfin hblk hI hF hall
            go_simp
            exact HFin.out
          · intro a W hF hRW
            have HA := Lib.hid (Frm.act hF)
            have HRW := Lib.hid hRW
            clear hF hRW
            simp only [Exit.inBlock, Exit.then]
            apply_assumption
            refine Met.intro ?_
            go_step
            (repeat apply Exists.intro)
            refine ⟨?_, HA.out.trans rfl⟩
            exact HRW.out
        case rest =>
          have hRR := hcut
          rw [HRR.out] at hRR
          have HW := Lib.hid hRR.out
          clear hRR hcut
          go_wp2_with (fail)
          go_roundg r1'.length
          case measure => have := HK.out; rw [HX.out.1] at this; simp at this; omega
          case rel => exact ⟨e1, r1', A1, c1, F1, x1, rfl, Lib.hid ⟨HW.out.1, HW.out.2, HX.out.2, by rw [HQ.out.2.2.2.1, HX.out.1]; simp [HNe.out], .inl HMem.out⟩⟩
      · have tk : (e.super.k == 2) = false := by simpa using hk2
        have hr0 : r' = [] := by
          have h := HQ.out.2.2.1
          cases h with
          | top h => rfl
          | up h1 h2 h3 => exact absurd h1 hk2
        have HR0 := Lib.hid hr0
        clear hr0
        cases fnd with
        | false =>
          go_wp2_with (fail)
          go_ret
          exact ⟨by rw [HQ.out.2.2.2.1]; rfl, HQ.out.2.1⟩
        | true =>
          by_cases hA : nm = [65, 110, 121]
          · subst hA
            go_wp2_with (fail)
            go_ret
            exact ⟨by rw [HQ.out.2.2.2.1]; simp [sAny], HQ.out.2.1⟩
          · have t3 := tba_ne hA
            have t4 : (nm == [65, 110, 121]) = false := by simpa using hA
            have HNA := Lib.hid hA
            clear hA hn
            go_wp2_with (fail)
            go_ret
            exact ⟨by rw [HQ.out.2.2.2.1, HR0.out]; simp [sAny, HNe.out, HNA.out], HQ.out.2.1⟩
end Go.Proofs.YtpkiheenkpcebaaGreatDoor

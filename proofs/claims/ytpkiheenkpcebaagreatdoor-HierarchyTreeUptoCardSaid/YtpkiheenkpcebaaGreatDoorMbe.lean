/- telref1.validDecl, CheckDecl. No condition but bounded sizes. -/
import Derived.Test.YtpkiheenkpcebaaGreatDoorMbd
set_option linter.unusedVariables false
set_option linter.unusedSimpArgs false
namespace Go.Proofs.YtpkiheenkpcebaaGreatDoor.Sx
open Go.Lib
theorem lx_zero {a b : Int} (h : lx a b = 0) : a = 0 ∧ b = 0 := by
  unfold lx at h
  split at h
  · exact ⟨by assumption, h⟩
  · exact absurd h (by assumption)
theorem cI_zero {a b : Int} (h : compareInt a b = 0) : a = b := by
  unfold compareInt at h
  repeat' split at h
  all_goals first | omega | assumption
theorem cmp_any {k : Int} {t : List UInt8} {o : Int} {kids : Fo} (h : cmp1 k t o kids 0 [] 0 .nil = 0) : k = 0 ∧ t = [] ∧ o = 0 ∧ kids = .nil := by
  rw [cmp1] at h
  obtain ⟨h1, h⟩ := lx_zero h
  obtain ⟨h2, h⟩ := lx_zero h
  obtain ⟨h3, h⟩ := lx_zero h
  obtain ⟨h4, _⟩ := lx_zero h
  refine ⟨cI_zero h1, ?_, cI_zero h3, ?_⟩
  · cases t with
    | nil => rfl
    | cons a r => simp [compareBytes] at h2
  · have h5 := cI_zero h4
    cases kids with
    | nil => rfl
    | cons k t kids o r => simp only [Fo.len] at h5; omega
theorem vt_kind0 {t : List UInt8} {o : Int} {kids : Fo} {ar : Int} (h : vtB 0 t o kids ar = true) : t = [] ∧ o = 0 ∧ kids = .nil := by
  rw [vtB, Bool.and_eq_true] at h
  have h1 : validV 0 t o kids = 0 := by simpa using h.1
  rw [validV] at h1
  split at h1
  · omega
  · split at h1
    · rename_i h2
      rw [validT, Bool.and_eq_true] at h2
      have h3 := h2.1
      rw [vNode] at h3
      split at h3
      · cases h3
      · rename_i h4
        rw [if_pos (.inl rfl)] at h3
        have h5 : kids.len = 0 := by simpa using h3
        refine ⟨?_, ?_, ?_⟩
        · cases t with
          | nil => rfl
          | cons a r => exact absurd (.inl ⟨by simp, by omega⟩) h4
        · by_cases ho : o = 0
          · exact ho
          · exact absurd (.inr ⟨ho, by omega⟩) h4
        · cases kids with
          | nil => rfl
          | cons k t kids o r => simp only [Fo.len] at h5; omega
    · omega
theorem vs_two (t : List UInt8) (o : Int) (kids : Fo) (ar : Int) : vsB ⟨2, t, kids, o⟩ ar = vtB 2 t o kids ar := by
  show (((2 : Int) == 0 || (2 : Int) == 2) && vtB 2 t o kids ar) = _
  rw [show ((2 : Int) == 0 || (2 : Int) == 2) = true from rfl, Bool.true_and]
theorem vs_other {k : Int} (hk : k ≠ 2) (t : List UInt8) (o : Int) (kids : Fo) (ar : Int) : vsB ⟨k, t, kids, o⟩ ar = ((cmp1 k t o kids 0 [] 0 .nil == 0) && vtB k t o kids ar) := by
  rw [vsB]
  show (((k == 0) || (k == 2)) && vtB k t o kids ar) = _
  have h2 : (k == 2) = false := by simpa using hk
  rw [h2, Bool.or_false]
  by_cases h0 : k = 0
  · subst h0
    cases hv : vtB 0 t o kids ar with
    | false => simp
    | true =>
      obtain ⟨rfl, rfl, rfl⟩ := vt_kind0 hv
      rw [cmp1_self]
  · have h1 : (k == 0) = false := by simpa using h0
    have h3 : (cmp1 k t o kids 0 [] 0 .nil == 0) = false := by
      rw [beq_eq_false_iff_ne]
      exact fun h => h0 (cmp_any h).1
    rw [h1, h3]
theorem tn_eq (s : List UInt8) : tnB s = (identC s && !kwL.contains s) := by
  have h : validV 2 s 0 .nil = if tyB s then 0 else 2 := by
    rw [validV, if_neg (by decide)]
    have : validT 2 s 0 .nil = tyB s := by
      rw [validT, vNode, if_neg (by simp), if_neg (by omega), if_pos rfl]
      simp [validTL, plainL, Fo.len]
    rw [this]
  rw [tnB, h, tyB]
  cases identC s <;> cases kwL.contains s <;> rfl
end Go.Proofs.YtpkiheenkpcebaaGreatDoor.Sx
namespace Go.Proofs.YtpkiheenkpcebaaGreatDoor
open Go.RowKit Sx

/-- what the operations of the test on the super leave -/
def vdV (B0 : Nat) (b2 ca vt : Bool) (ar k o : Int) (t : List UInt8) (kids : Fo) (A : Option Addr) (c : Nat) (j : Nat) (v : Value) (w : World) : Prop :=
  match j with
  | 0 => v = .pointer (some ⟨B0, 2, none⟩)
  | 1 => v = .pointer (some ⟨B0, 2, none⟩)
  | 2 => v = .int .i64 k
  | 3 => v = .bool b2
  | 4 => v = .bool b2
  | 5 => v = if b2 then .pointer (some ⟨B0, 2, none⟩) else undef
  | 6 => v = if b2 then .agg #[.int .i64 k, .string ⟨t.toArray⟩, .int .i64 o, .slice A kids.len c] else undef
  | 7 => v = if b2 then .agg #[.int .i64 0, .string ⟨#[]⟩, .int .i64 0, .slice none 0 0] else undef
  | 8 => v = if b2 then .bool ca else undef
  | 9 => v = if b2 then .bool (!ca) else undef
  | 10 => v = .bool (b2 && !ca)
  | 11 => v = .bool (b2 && !ca)
  | 12 => v = if b2 && !ca then undef else .pointer (some ⟨B0, 2, none⟩)
  | 13 => v = if b2 && !ca then undef else .agg #[.int .i64 k, .string ⟨t.toArray⟩, .int .i64 o, .slice A kids.len c]
  | 14 => v = if b2 && !ca then undef else .pointer (some ⟨B0, 1, none⟩)
  | 15 => v = if b2 && !ca then undef else .int .i64 ar
  | 16 => v = if b2 && !ca then undef else .bool vt
  | 17 => v = if b2 && !ca then undef else .bool (!vt)
  | _ => v = .bool ((b2 && !ca) || !vt)
def vdWant (b2 ca : Bool) (i : Nat) : Bool := match i with | 5 | 6 | 7 | 8 | 9 => b2 | 12 | 13 | 14 | 15 | 16 | 17 => !(b2 && !ca) | _ => true
theorem vdV_bh {B0 : Nat} {b2 ca vt : Bool} {ar k o : Int} {t : List UInt8} {kids : Fo} {A : Option Addr} {c : Nat} (j : Nat) (v : Value) (w w' : World) (h : vdV B0 b2 ca vt ar k o t kids A c j v w) (hb : BH w w') : vdV B0 b2 ca vt ar k o t kids A c j v w' := by
  unfold vdV at *
  split at h <;> exact h

/-- what the operations of the test on a field leave -/
def vfV (B0 g off i M x : Nat) (id1 vt1 : Bool) (ar k o : Int) (n t : List UInt8) (kids : Fo) (A : Option Addr) (c : Nat) (j : Nat) (v : Value) (w : World) : Prop :=
  match j with
  | 0 => v = .pointer (some ⟨B0, 7, none⟩)
  | 1 => v = .slice (some ⟨g, off, none⟩) M x
  | 2 => v = .int .i64 (i : Int)
  | 3 => v = .pointer (some ⟨g, off + i * 5, none⟩)
  | 4 => v = .pointer (some ⟨g, off + i * 5, none⟩)
  | 5 => v = .string ⟨n.toArray⟩
  | 6 => v = .bool id1
  | 7 => v = .bool (!id1)
  | 8 => v = .bool (!id1)
  | 9 => v = if id1 then .pointer (some ⟨B0, 7, none⟩) else undef
  | 10 => v = if id1 then .slice (some ⟨g, off, none⟩) M x else undef
  | 11 => v = if id1 then .int .i64 (i : Int) else undef
  | 12 => v = if id1 then .pointer (some ⟨g, off + i * 5, none⟩) else undef
  | 13 => v = if id1 then .pointer (some ⟨g, off + i * 5 + 1, none⟩) else undef
  | 14 => v = if id1 then .agg #[.int .i64 k, .string ⟨t.toArray⟩, .int .i64 o, .slice A kids.len c] else undef
  | 15 => v = if id1 then .pointer (some ⟨B0, 1, none⟩) else undef
  | 16 => v = if id1 then .int .i64 ar else undef
  | 17 => v = if id1 then .bool vt1 else undef
  | 18 => v = if id1 then .bool (!vt1) else undef
  | _ => v = .bool (!id1 || !vt1)
def vfWant (id1 : Bool) (i : Nat) : Bool := match i with | 9 | 10 | 11 | 12 | 13 | 14 | 15 | 16 | 17 | 18 => id1 | _ => true
theorem vfV_bh {B0 g off i M x : Nat} {id1 vt1 : Bool} {ar k o : Int} {n t : List UInt8} {kids : Fo} {A : Option Addr} {c : Nat} (j : Nat) (v : Value) (w w' : World) (h : vfV B0 g off i M x id1 vt1 ar k o n t kids A c j v w) (hb : BH w w') : vfV B0 g off i M x id1 vt1 ar k o n t kids A c j v w' := by
  unfold vfV at *
  split at h <;> exact h

set_option maxHeartbeats 16000000 in
set_option maxRecDepth 100000 in
theorem rValidDecl (V : Int) (d : De) (A F : Option Addr) (c x : Nat) (w : World) (S : Nat → Prop) (hok : OkD V d) (hK : KT w d.super.kids A c) (hFl : FlS w S d.fields F x) :
    Calls Tryz.prog 99 #[.agg #[.string ⟨d.name.toArray⟩, .int .i64 d.arity, .int .i64 d.super.k, .string ⟨d.super.t.toArray⟩, .int .i64 d.super.o, .slice A d.super.kids.len c, .bool d.conc, .slice F d.fields.length x]] w fun e w' => e = .returned (.bool (vdB d)) ∧ BH w w' := by
  obtain ⟨n, ar, ⟨k, t, kids, o⟩, cc, fs⟩ := d
  obtain ⟨hn, ⟨hN, ht, hl, hcl⟩, hofs⟩ := hok
  simp only at hn hN ht hl hcl hofs hK hFl ⊢
  obtain ⟨id, hid⟩ : ∃ id, identC n = id := ⟨_, rfl⟩
  obtain ⟨kw, hkw⟩ : ∃ kw, kwL.contains n = kw := ⟨_, rfl⟩
  obtain ⟨vt, hvt⟩ : ∃ vt, vtB k t o kids ar = vt := ⟨_, rfl⟩
  obtain ⟨ca, hca⟩ : ∃ ca, (cmp1 k t o kids 0 [] 0 .nil == 0) = ca := ⟨_, rfl⟩
  obtain ⟨r, hr⟩ : ∃ r, avL ar fs [] = r := ⟨_, rfl⟩
  obtain ⟨M, hM⟩ : ∃ M, fs.length = M := ⟨_, rfl⟩
  have hvs : vsB ⟨k, t, kids, o⟩ ar = (if k = 2 then vt else (ca && vt)) := by
    by_cases h2 : k = 2
    · subst h2
      rw [vs_two, hvt, if_pos rfl]
    · rw [vs_other h2, hca, hvt, if_neg h2]
  have hV : vdB ⟨n, ar, ⟨k, t, kids, o⟩, cc, fs⟩ = ((id && !kw) && (decide (0 ≤ ar) && ((if k = 2 then vt else (ca && vt)) && (decide (M = 0) || (cc && r))))) := by
    rw [vdB]
    simp only [tn_eq, hid, hkw, hvs, hr, hM]
  obtain ⟨Z, hZ⟩ : ∃ Z, vdB ⟨n, ar, ⟨k, t, kids, o⟩, cc, fs⟩ = Z := ⟨_, rfl⟩
  rw [hZ] at hV ⊢
  rw [hM]
  have HZ := Lib.hid hV
  have HI : Hid (∀ X, Calls Tryz.prog 119 #[.string ⟨n.toArray⟩] X fun e u => e = .returned (.bool id) ∧ X = u) := Lib.hid fun X => by
    rw [← hid]
    exact rIdentC_any ⟨n.toArray⟩ X (by simp [ByteArray.size]; omega)
  have HW : Hid (∀ X, Calls Tryz.prog 120 #[.string ⟨n.toArray⟩] X fun e u => e = .returned (.bool kw) ∧ X = u) := Lib.hid fun X => by
    exact isTypeKeyword_any ⟨n.toArray⟩ X hkw
  have HP : Hid (∀ X, BH w X → Calls Tryz.prog 121 #[.agg #[.int .i64 k, .string ⟨t.toArray⟩, .int .i64 o, .slice A kids.len c], .int .i64 ar] X fun e u => e = .returned (.bool vt) ∧ BH X u) := Lib.hid fun X hX => by
    rw [← hvt]
    exact rValidPar k o t kids A c ar X hN (hK.below hX) ht hl
  have HE : Hid (∀ X, BH w X → Calls Tryz.prog 39 #[.agg #[.int .i64 k, .string ⟨t.toArray⟩, .int .i64 o, .slice A kids.len c], .agg #[.int .i64 0, .string ⟨#[]⟩, .int .i64 0, .slice none 0 0]] X fun e u => e = .returned (.bool ca) ∧ BH X u) := Lib.hid fun X hX => by
    rw [← hca]
    exact hTermEq k o 0 0 t [] kids .nil A none c 0 X (by omega) (by decide) (hK.below hX) (kt0 _)
  have e1 := heap_alloc_new w (.cells #[.string ⟨n.toArray⟩, .int .i64 ar, .int .i64 k, .string ⟨t.toArray⟩, .int .i64 o, .slice A kids.len c, .bool cc, .slice F M x] 37)
  have f1 := bh_alloc (BH.refl w) (.cells #[.string ⟨n.toArray⟩, .int .i64 ar, .int .i64 k, .string ⟨t.toArray⟩, .int .i64 o, .slice A kids.len c, .bool cc, .slice F M x] 37)
  have HF := Lib.hid (And.intro e1 f1)
  have HFl := Lib.hid hFl
  have HFF := Lib.hid hofs.2
  have HM := Lib.hid hM
  have HR := Lib.hid hr
  have hM2 : M ≤ 1048576 := by rw [← hM]; exact hofs.1
  obtain ⟨⟨r0, r1, r2, r3, r4, r5, r6, r7⟩, _⟩ := row8 e1
  clear hid hkw hvt hca hvs hV hZ hK ht hl hN e1 f1 hr hM hFl hofs hcl
  go_enter Tryz.func99, Tryz.ntmps99
  go_wp2_with (fail)
  refine (HI.out _).mono ?_
  rintro e u ⟨rfl, rfl⟩
  cases id with
  | false =>
    go_wp2_with (fail)
    go_ret
    exact ⟨by rw [HZ.out]; rfl, HF.out.2⟩
  | true =>
  go_wp2_with (fail)
  refine (HW.out _).mono ?_
  rintro e u ⟨rfl, rfl⟩
  cases kw with
  | true =>
    go_wp2_with (fail)
    go_ret
    exact ⟨by rw [HZ.out]; rfl, HF.out.2⟩
  | false =>
  by_cases ha : ar < 0
  · have t1 : decide (ar < 0) = true := by simpa using ha
    have t2 : decide (0 ≤ ar) = false := by rw [decide_eq_false_iff_not]; omega
    have T2 := Lib.hid t2
    go_wp2_with (fail)
    go_ret
    exact ⟨by rw [HZ.out, T2.out]; rfl, HF.out.2⟩
  have ta : decide (ar < 0) = false := by simpa using ha
  have TA := Lib.hid (show decide (0 ≤ ar) = true by rw [decide_eq_true_eq]; omega)
  have hcm : (cc = false ∧ 0 < M) ∨ (cc = true ∨ M = 0) := by
    cases cc
    · by_cases h : M = 0
      · exact .inr (.inr h)
      · exact .inl ⟨rfl, by omega⟩
    · exact .inr (.inl rfl)
  rcases hcm with ⟨rfl, hm⟩ | hcm
  · have t3 : decide ((0 : Int) < (M : Int)) = true := by rw [decide_eq_true_eq]; omega
    have t4 : decide (0 < M) = true := by simpa using hm
    have T5 := Lib.hid (show decide (M = 0) = false by rw [decide_eq_false_iff_not]; omega)
    go_wp2_with (fail)
    go_ret
    exact ⟨by rw [HZ.out, T5.out]; simp, HF.out.2⟩
  have HCM := Lib.hid (show (decide (M = 0) || (cc && r)) = r by
    rcases hcm with rfl | h0
    · cases hmz : decide (M = 0) with
      | false => rfl
      | true =>
        have h0 : M = 0 := by simpa using hmz
        have : fs = [] := List.eq_nil_of_length_eq_zero (by rw [HM.out, h0])
        rw [← HR.out, this]
        rfl
    · have : fs = [] := List.eq_nil_of_length_eq_zero (by rw [HM.out, h0])
      rw [← HR.out, this, h0]
      cases cc <;> rfl)
  have T3 : Hid (cc = false → (decide ((0 : Int) < (M : Int)) = false ∧ decide (0 < M) = false)) := Lib.hid fun h => by
    rcases hcm with h' | h'
    · rw [h] at h'; cases h'
    · exact ⟨by rw [decide_eq_false_iff_not]; omega, by rw [decide_eq_false_iff_not]; omega⟩
  obtain ⟨g, hg⟩ : ∃ g, (if k = 2 then vt else (ca && vt)) = g := ⟨_, rfl⟩
  have HZg : Hid (Z = (g && r)) := Lib.hid (by rw [HZ.out, TA.out, hg, HCM.out]; rfl)
  have HG := Lib.hid hg
  clear hcm ha hg
  cases cc
  all_goals
    (try (obtain ⟨t3, t4⟩ := T3.out rfl))
    go_upto_region 3 with (fail)
    refine gen_wp _ (fun X => X.heap[w.heap.size]? = some (.cells #[.string ⟨n.toArray⟩, .int .i64 ar, .int .i64 k, .string ⟨t.toArray⟩, .int .i64 o, .slice A kids.len c, _, .slice F M x] 37 (0, 0)) ∧ BH w X) HF.out ?_
    rintro X0 ⟨x1, x2⟩
    have HX := Lib.hid (And.intro x1 x2)
    clear r0 r1 r2 r3 r4 r5 r6 r7 x2
    obtain ⟨⟨r0, r1, r2, r3, r4, r5, r6, r7⟩, _⟩ := row8 x1
    clear x1
    go_cut [48] (fun s48 wx => s48 = .bool (!g) ∧ Hid (BH w wx ∧ wx.heap[w.heap.size]? = some (.cells #[.string ⟨n.toArray⟩, .int .i64 ar, .int .i64 k, .string ⟨t.toArray⟩, .int .i64 o, .slice A kids.len c, _, .slice F M x] 37 (0, 0))))
    case first =>
      obtain ⟨b2, hb2⟩ : ∃ b2, (k != 2) = b2 := ⟨_, rfl⟩
      have hgg : g = !((b2 && !ca) || !vt) := by
        rw [← HG.out, ← hb2]
        by_cases h2 : k = 2
        · rw [if_pos h2, h2]; simp
        · rw [if_neg h2, show (k != 2) = true by simp [bne, h2]]; cases ca <;> simp
      have HGG := Lib.hid hgg
      clear hgg
      refine wp_region_gfacts (by kernel_rfl) (vdV w.heap.size b2 ca vt ar k o t kids A c) vdV_bh (vdWant b2 ca) (by kernel_rfl) ?_ ?_
      · refine ⟨?_, ?_, ?_, ?_, ?_, ?_, ?_, ?_, ?_, ?_, ?_, ?_, ?_, ?_, ?_, ?_, ?_, ?_, ?_, trivial⟩
        · refine ⟨rfl, ?_⟩
          intro a W hI hF hD; have h := same_of hF 1 (by kernel_rfl); go_simp; exact ⟨_, rfl, rfl, BH.refl _⟩
        · refine ⟨rfl, ?_⟩
          intro a W hI hF hD; have h : a.tmps[30]?.getD undef = .pointer (some ⟨w.heap.size, 2, none⟩) := dep_of hD 0 30 (by kernel_rfl) rfl rfl; go_simp; exact ⟨_, rfl, rfl, BH.refl _⟩
        · refine ⟨rfl, ?_⟩
          intro a W hI hF hD; have h : a.tmps[31]?.getD undef = .pointer (some ⟨w.heap.size, 2, none⟩) := dep_of hD 1 31 (by kernel_rfl) rfl rfl; have l0 := BH.cell hI r0; have l1 := BH.cell hI r1; have l2 := BH.cell hI r2; have l3 := BH.cell hI r3; have l4 := BH.cell hI r4; have l5 := BH.cell hI r5; go_simp; exact ⟨_, rfl, rfl, BH.refl _⟩
        · refine ⟨rfl, ?_⟩
          intro a W hI hF hD; have h : a.tmps[32]?.getD undef = .int .i64 k := dep_of hD 2 32 (by kernel_rfl) rfl rfl; go_simp; exact ⟨_, rfl, rfl, BH.refl _⟩
        · refine ⟨rfl, ?_⟩
          intro a W hI hF hD; have h : a.tmps[33]?.getD undef = .bool b2 := dep_of hD 3 33 (by kernel_rfl) rfl rfl; go_simp; exact ⟨_, rfl, rfl, BH.refl _⟩
        · refine ⟨(fun v w h => by (have h' : v = .bool b2 := h; subst h'; cases b2 <;> rfl)), ?_⟩
          cases b2
          · intro W; rfl
          · intro a W hI hF hD; have h := same_of hF 1 (by kernel_rfl); go_simp; exact ⟨_, rfl, rfl, BH.refl _⟩
        · refine ⟨(fun v w h => by (have h' : v = .bool b2 := h; subst h'; cases b2 <;> rfl)), ?_⟩
          cases b2
          · intro W; rfl
          · intro a W hI hF hD; have h : a.tmps[35]?.getD undef = .pointer (some ⟨w.heap.size, 2, none⟩) := dep_of hD 5 35 (by kernel_rfl) rfl rfl; have l0 := BH.cell hI r0; have l1 := BH.cell hI r1; have l2 := BH.cell hI r2; have l3 := BH.cell hI r3; have l4 := BH.cell hI r4; have l5 := BH.cell hI r5; go_simp; exact ⟨_, rfl, rfl, BH.refl _⟩
        · refine ⟨(fun v w h => by (have h' : v = .bool b2 := h; subst h'; cases b2 <;> rfl)), ?_⟩
          cases b2
          · intro W; rfl
          · intro a W hI hF hD; go_simp; refine (anyC W).mono ?_; rintro e u ⟨rfl, hb⟩; exact ⟨_, rfl, rfl, hb⟩
        · refine ⟨(fun v w h => by (have h' : v = .bool b2 := h; subst h'; cases b2 <;> rfl)), ?_⟩
          cases b2
          · intro W; rfl
          · intro a W hI hF hD; have h : a.tmps[36]?.getD undef = .agg #[.int .i64 k, .string ⟨t.toArray⟩, .int .i64 o, .slice A kids.len c] := dep_of hD 6 36 (by kernel_rfl) rfl rfl; have h' : a.tmps[37]?.getD undef = .agg #[.int .i64 0, .string ⟨#[]⟩, .int .i64 0, .slice none 0 0] := dep_of hD 7 37 (by kernel_rfl) rfl rfl; go_simp; refine (HE.out W (BH.trans HX.out.2 hI)).mono ?_; rintro e u ⟨rfl, hb⟩; exact ⟨_, rfl, rfl, hb⟩
        · refine ⟨(fun v w h => by (have h' : v = .bool b2 := h; subst h'; cases b2 <;> rfl)), ?_⟩
          cases b2
          · intro W; rfl
          · intro a W hI hF hD; have h : a.tmps[38]?.getD undef = .bool ca := dep_of hD 8 38 (by kernel_rfl) rfl rfl; go_simp; exact ⟨_, rfl, rfl, BH.refl _⟩
        · refine ⟨rfl, ?_⟩
          cases b2
          all_goals
            intro a W hI hF hD; have h : a.tmps[34]?.getD undef = .bool _ := dep_of hD 4 34 (by kernel_rfl) rfl rfl; (try (have h' : a.tmps[39]?.getD undef = .bool _ := dep_of hD 9 39 (by kernel_rfl) rfl rfl)); go_simp; exact ⟨_, rfl, rfl, BH.refl _⟩
        · refine ⟨rfl, ?_⟩
          intro a W hI hF hD; have h : a.tmps[40]?.getD undef = .bool (b2 && !ca) := dep_of hD 10 40 (by kernel_rfl) rfl rfl; go_simp; exact ⟨_, rfl, rfl, BH.refl _⟩
        · refine ⟨(fun v w h => by (have h' : v = .bool (b2 && !ca) := h; subst h'; cases b2 <;> cases ca <;> rfl)), ?_⟩
          cases b2
          all_goals cases ca
          all_goals first
            | (intro W; rfl)
            | (intro a W hI hF hD; have h := same_of hF 1 (by kernel_rfl); go_simp; exact ⟨_, rfl, rfl, BH.refl _⟩)
        · refine ⟨(fun v w h => by (have h' : v = .bool (b2 && !ca) := h; subst h'; cases b2 <;> cases ca <;> rfl)), ?_⟩
          cases b2
          all_goals cases ca
          all_goals first
            | (intro W; rfl)
            | (intro a W hI hF hD; have h : a.tmps[42]?.getD undef = .pointer (some ⟨w.heap.size, 2, none⟩) := dep_of hD 12 42 (by kernel_rfl) rfl rfl; have l0 := BH.cell hI r0; have l1 := BH.cell hI r1; have l2 := BH.cell hI r2; have l3 := BH.cell hI r3; have l4 := BH.cell hI r4; have l5 := BH.cell hI r5; go_simp; exact ⟨_, rfl, rfl, BH.refl _⟩)
        · refine ⟨(fun v w h => by (have h' : v = .bool (b2 && !ca) := h; subst h'; cases b2 <;> cases ca <;> rfl)), ?_⟩
          cases b2
          all_goals cases ca
          all_goals first
            | (intro W; rfl)
            | (intro a W hI hF hD; have h := same_of hF 1 (by kernel_rfl); go_simp; exact ⟨_, rfl, rfl, BH.refl _⟩)
        · refine ⟨(fun v w h => by (have h' : v = .bool (b2 && !ca) := h; subst h'; cases b2 <;> cases ca <;> rfl)), ?_⟩
          cases b2
          all_goals cases ca
          all_goals first
            | (intro W; rfl)
            | (intro a W hI hF hD; have h : a.tmps[44]?.getD undef = .pointer (some ⟨w.heap.size, 1, none⟩) := dep_of hD 14 44 (by kernel_rfl) rfl rfl; have l0 := BH.cell hI r0; have l1 := BH.cell hI r1; have l2 := BH.cell hI r2; have l3 := BH.cell hI r3; have l4 := BH.cell hI r4; have l5 := BH.cell hI r5; go_simp; exact ⟨_, rfl, rfl, BH.refl _⟩)
        · refine ⟨(fun v w h => by (have h' : v = .bool (b2 && !ca) := h; subst h'; cases b2 <;> cases ca <;> rfl)), ?_⟩
          cases b2
          all_goals cases ca
          all_goals first
            | (intro W; rfl)
            | (intro a W hI hF hD; have h : a.tmps[43]?.getD undef = .agg #[.int .i64 k, .string ⟨t.toArray⟩, .int .i64 o, .slice A kids.len c] := dep_of hD 13 43 (by kernel_rfl) rfl rfl; have h' : a.tmps[45]?.getD undef = .int .i64 ar := dep_of hD 15 45 (by kernel_rfl) rfl rfl; go_simp; refine (HP.out W (BH.trans HX.out.2 hI)).mono ?_; rintro e u ⟨rfl, hb⟩; exact ⟨_, rfl, rfl, hb⟩)
        · refine ⟨(fun v w h => by (have h' : v = .bool (b2 && !ca) := h; subst h'; cases b2 <;> cases ca <;> rfl)), ?_⟩
          cases b2
          all_goals cases ca
          all_goals first
            | (intro W; rfl)
            | (intro a W hI hF hD; have h : a.tmps[46]?.getD undef = .bool vt := dep_of hD 16 46 (by kernel_rfl) rfl rfl; go_simp; exact ⟨_, rfl, rfl, BH.refl _⟩)
        · refine ⟨rfl, ?_⟩
          cases b2
          all_goals cases ca
          all_goals
            intro a W hI hF hD; have h : a.tmps[41]?.getD undef = .bool _ := dep_of hD 11 41 (by kernel_rfl) rfl rfl; (try (have h' : a.tmps[47]?.getD undef = .bool (!vt) := dep_of hD 17 47 (by kernel_rfl) rfl rfl)); go_simp; exact ⟨_, rfl, rfl, BH.refl _⟩
      · intro a W hI hF hall
        have h48 : a.tmps[48]?.getD undef = .bool ((b2 && !ca) || !vt) := all_of hall 18 48 rfl rfl
        have HA := Lib.hid (Frm.act hF)
        have H48 := Lib.hid h48
        have HI2 := Lib.hid hI
        clear h48 hF hI hall hb2
        simp only [Exit.inBlock, Exit.then]
        apply_assumption
        refine Met.intro ?_
        go_step
        (repeat apply Exists.intro)
        refine ⟨?_, HA.out.trans rfl⟩
        refine ⟨(Array.getD_eq_getD_getElem? ..).trans (H48.out.trans ?_), Lib.hid ⟨BH.trans HX.out.2 HI2.out, (Below.block HI2.out _ (heap_lt HX.out.1)).trans HX.out.1⟩⟩
        rw [HGG.out, Bool.not_not]
    case rest =>
      obtain ⟨rfl, hC⟩ := hcut
      clear HX r0 r1 r2 r3 r4 r5 r6 r7
      cases g with
      | false =>
        go_wp2_with (fail)
        go_ret
        exact ⟨by rw [HZg.out]; rfl, hC.out.1⟩
      | true =>
      have hZr : Z = r := by rw [HZg.out]; rfl
      have HZr := Lib.hid hZr
      have hrow := hC.out.2
      obtain ⟨⟨r0, r1, r2, r3, r4, r5, r6, r7⟩, _⟩ := row8 hrow
      clear hZr hrow
      go_wp2_with (fail)
      go_loopw [3] (fun iv wr => ∃ i : Nat, iv = .int .i64 (i : Int) ∧ i ≤ M ∧ Hid (BH w wr ∧ wr.heap[w.heap.size]? = some (.cells #[.string ⟨n.toArray⟩, .int .i64 ar, .int .i64 k, .string ⟨t.toArray⟩, .int .i64 o, .slice A kids.len c, _, .slice F M x] 37 (0, 0)) ∧ Z = avL ar (fs.drop i) ((fs.take i).map Prod.fst))) (fun iv _ => M - (match iv with | .int _ n => n.toNat | _ => 0))
      · exact ⟨0, rfl, Nat.zero_le _, Lib.hid ⟨hC.out.1, hC.out.2, by rw [HZr.out, ← HR.out]; rfl⟩⟩
      · obtain ⟨i, rfl, hiM, hRd⟩ := hrel
        obtain ⟨x1, x2, x3⟩ := hRd.out
        clear r0 r1 r2 r3 r4 r5 r6 r7
        obtain ⟨⟨r0, r1, r2, r3, r4, r5, r6, r7⟩, _⟩ := row8 x2
        by_cases hlt : i < M
        · have hge : decide ((i : Int) < (M : Int)) = true := by rw [decide_eq_true_eq]; omega
          have hiL : (i : Int) < (M : Int) := by omega
          have hi0 : (0 : Int) ≤ (i : Int) := by omega
          have hi1 : wrap64 ((i : Int) + 1) = (i : Int) + 1 := wrap64_in (by omega) (by omega)
          obtain ⟨⟨n1, ⟨k1, t1, h1, j1⟩⟩, hy⟩ : ∃ f, fs[i]? = some f := ⟨_, List.getElem?_eq_getElem (by rw [HM.out]; exact hlt)⟩
          have hd : fs.drop i = (n1, ⟨k1, t1, h1, j1⟩) :: fs.drop (i + 1) := by
            obtain ⟨hl, he⟩ := List.getElem?_eq_some_iff.1 hy
            rw [List.drop_eq_getElem_cons hl, he]
          have htk : (fs.take (i + 1)).map Prod.fst = (fs.take i).map Prod.fst ++ [n1] := by rw [List.take_add_one, hy]; simp
          obtain ⟨hf1, hf2, hf3, hf4, hf5⟩ := HFF.out _ (List.mem_of_getElem? hy)
          simp only at hf1 hf2 hf3 hf4 hf5
          obtain ⟨g, off, A1, c1, rfl, _, hg, p0, p1, p2, p3, p4, hk1⟩ := (HFl.out.bh x1).at hy
          simp only at p0 p1 p2 p3 p4 hk1
          obtain ⟨id1, hid⟩ : ∃ id1, identC n1 = id1 := ⟨_, rfl⟩
          obtain ⟨vt1, hvt⟩ : ∃ vt1, vtB k1 t1 j1 h1 ar = vt1 := ⟨_, rfl⟩
          obtain ⟨sn, hsn⟩ : ∃ sn, ((fs.take i).map Prod.fst).contains n1 = sn := ⟨_, rfl⟩
          rw [hd, avL] at x3
          simp only [hid, hvt, hsn] at x3
          have HId : Hid (∀ X, Calls Tryz.prog 119 #[.string ⟨n1.toArray⟩] X fun e u => e = .returned (.bool id1) ∧ X = u) := Lib.hid fun X => by
            rw [← hid]
            exact rIdentC_any ⟨n1.toArray⟩ X (by simp [ByteArray.size]; omega)
          have HVt : Hid (∀ X, BH wr X → Calls Tryz.prog 121 #[.agg #[.int .i64 k1, .string ⟨t1.toArray⟩, .int .i64 j1, .slice A1 h1.len c1], .int .i64 ar] X fun e u => e = .returned (.bool vt1) ∧ BH X u) := Lib.hid fun X hX => by
            rw [← hvt]
            exact rValidPar k1 j1 t1 h1 A1 c1 ar X hf2 (hk1.kt.below hX) hf3 hf4
          have HX := Lib.hid (And.intro x1 (And.intro x2 x3))
          have HTk := Lib.hid htk
          have HSn := Lib.hid hsn
          have HY := Lib.hid hy
          clear hd htk hf1 hf2 hf3 hf4 hf5 x1 x2 x3 hg hk1 hid hvt hsn hRd hy
          go_upto_region 8 with (fail)
          go_cut [75] (fun s75 wx => ∃ z, s75 = .bool z ∧ Hid (z = (!id1 || !vt1) ∧ BH wr wx))
          case first =>
            refine wp_region_gfacts (by kernel_rfl) (vfV w.heap.size g off i M x id1 vt1 ar k1 j1 n1 t1 h1 A1 c1) vfV_bh (vfWant id1) (by kernel_rfl) ?_ ?_
            · refine ⟨?_, ?_, ?_, ?_, ?_, ?_, ?_, ?_, ?_, ?_, ?_, ?_, ?_, ?_, ?_, ?_, ?_, ?_, ?_, ?_, trivial⟩
              · refine ⟨rfl, ?_⟩
                intro a W hI hF hD; have h := same_of hF 1 (by kernel_rfl); go_simp; exact ⟨_, rfl, rfl, BH.refl _⟩
              · refine ⟨rfl, ?_⟩
                intro a W hI hF hD; have h : a.tmps[56]?.getD undef = .pointer (some ⟨w.heap.size, 7, none⟩) := dep_of hD 0 56 (by kernel_rfl) rfl rfl; have l7 := BH.cell hI r7; go_simp; exact ⟨_, rfl, rfl, BH.refl _⟩
              · refine ⟨rfl, ?_⟩
                intro a W hI hF hD; have h := same_of hF 3 (by kernel_rfl); go_simp; exact ⟨_, rfl, rfl, BH.refl _⟩
              · refine ⟨rfl, ?_⟩
                intro a W hI hF hD; have h : a.tmps[57]?.getD undef = .slice (some ⟨g, off, none⟩) M x := dep_of hD 1 57 (by kernel_rfl) rfl rfl; have h' : a.tmps[58]?.getD undef = .int .i64 (i : Int) := dep_of hD 2 58 (by kernel_rfl) rfl rfl; go_simp; exact ⟨_, rfl, rfl, BH.refl _⟩
              · refine ⟨rfl, ?_⟩
                intro a W hI hF hD; have h : a.tmps[59]?.getD undef = .pointer (some ⟨g, off + i * 5, none⟩) := dep_of hD 3 59 (by kernel_rfl) rfl rfl; go_simp; exact ⟨_, rfl, rfl, BH.refl _⟩
              · refine ⟨rfl, ?_⟩
                intro a W hI hF hD; have h : a.tmps[60]?.getD undef = .pointer (some ⟨g, off + i * 5, none⟩) := dep_of hD 4 60 (by kernel_rfl) rfl rfl; have l0 := BH.cell hI p0; go_simp; exact ⟨_, rfl, rfl, BH.refl _⟩
              · refine ⟨rfl, ?_⟩
                intro a W hI hF hD; have h : a.tmps[61]?.getD undef = .string ⟨n1.toArray⟩ := dep_of hD 5 61 (by kernel_rfl) rfl rfl; go_simp; refine (HId.out W).mono ?_; rintro e u ⟨rfl, rfl⟩; exact ⟨_, rfl, rfl, BH.refl _⟩
              · refine ⟨rfl, ?_⟩
                intro a W hI hF hD; have h : a.tmps[62]?.getD undef = .bool id1 := dep_of hD 6 62 (by kernel_rfl) rfl rfl; go_simp; exact ⟨_, rfl, rfl, BH.refl _⟩
              · refine ⟨rfl, ?_⟩
                intro a W hI hF hD; have h : a.tmps[63]?.getD undef = .bool (!id1) := dep_of hD 7 63 (by kernel_rfl) rfl rfl; go_simp; exact ⟨_, rfl, rfl, BH.refl _⟩
              · refine ⟨(fun v w h => by (have h' : v = .bool (!id1) := h; subst h'; cases id1 <;> rfl)), ?_⟩
                cases id1
                · intro W; rfl
                · intro a W hI hF hD; have h := same_of hF 1 (by kernel_rfl); go_simp; exact ⟨_, rfl, rfl, BH.refl _⟩
              · refine ⟨(fun v w h => by (have h' : v = .bool (!id1) := h; subst h'; cases id1 <;> rfl)), ?_⟩
                cases id1
                · intro W; rfl
                · intro a W hI hF hD; have h : a.tmps[65]?.getD undef = .pointer (some ⟨w.heap.size, 7, none⟩) := dep_of hD 9 65 (by kernel_rfl) rfl rfl; have l7 := BH.cell hI r7; go_simp; exact ⟨_, rfl, rfl, BH.refl _⟩
              · refine ⟨(fun v w h => by (have h' : v = .bool (!id1) := h; subst h'; cases id1 <;> rfl)), ?_⟩
                cases id1
                · intro W; rfl
                · intro a W hI hF hD; have h := same_of hF 3 (by kernel_rfl); go_simp; exact ⟨_, rfl, rfl, BH.refl _⟩
              · refine ⟨(fun v w h => by (have h' : v = .bool (!id1) := h; subst h'; cases id1 <;> rfl)), ?_⟩
                cases id1
                · intro W; rfl
                · intro a W hI hF hD; have h : a.tmps[66]?.getD undef = .slice (some ⟨g, off, none⟩) M x := dep_of hD 10 66 (by kernel_rfl) rfl rfl; have h' : a.tmps[67]?.getD undef = .int .i64 (i : Int) := dep_of hD 11 67 (by kernel_rfl) rfl rfl; go_simp; exact ⟨_, rfl, rfl, BH.refl _⟩
              · refine ⟨(fun v w h => by (have h' : v = .bool (!id1) := h; subst h'; cases id1 <;> rfl)), ?_⟩
                cases id1
                · intro W; rfl
                · intro a W hI hF hD; have h : a.tmps[68]?.getD undef = .pointer (some ⟨g, off + i * 5, none⟩) := dep_of hD 12 68 (by kernel_rfl) rfl rfl; go_simp; exact ⟨_, rfl, rfl, BH.refl _⟩
              · refine ⟨(fun v w h => by (have h' : v = .bool (!id1) := h; subst h'; cases id1 <;> rfl)), ?_⟩
                cases id1
                · intro W; rfl
                · intro a W hI hF hD; have h : a.tmps[69]?.getD undef = .pointer (some ⟨g, off + i * 5 + 1, none⟩) := dep_of hD 13 69 (by kernel_rfl) rfl rfl; have l1 := BH.cell hI p1; have l2 := BH.cell hI p2; have l3 := BH.cell hI p3; have l4 := BH.cell hI p4; go_simp; exact ⟨_, rfl, rfl, BH.refl _⟩
              · refine ⟨(fun v w h => by (have h' : v = .bool (!id1) := h; subst h'; cases id1 <;> rfl)), ?_⟩
                cases id1
                · intro W; rfl
                · intro a W hI hF hD; have h := same_of hF 1 (by kernel_rfl); go_simp; exact ⟨_, rfl, rfl, BH.refl _⟩
              · refine ⟨(fun v w h => by (have h' : v = .bool (!id1) := h; subst h'; cases id1 <;> rfl)), ?_⟩
                cases id1
                · intro W; rfl
                · intro a W hI hF hD; have h : a.tmps[71]?.getD undef = .pointer (some ⟨w.heap.size, 1, none⟩) := dep_of hD 15 71 (by kernel_rfl) rfl rfl; have l1 := BH.cell hI r1; go_simp; exact ⟨_, rfl, rfl, BH.refl _⟩
              · refine ⟨(fun v w h => by (have h' : v = .bool (!id1) := h; subst h'; cases id1 <;> rfl)), ?_⟩
                cases id1
                · intro W; rfl
                · intro a W hI hF hD; have h : a.tmps[70]?.getD undef = .agg #[.int .i64 k1, .string ⟨t1.toArray⟩, .int .i64 j1, .slice A1 h1.len c1] := dep_of hD 14 70 (by kernel_rfl) rfl rfl; have h' : a.tmps[72]?.getD undef = .int .i64 ar := dep_of hD 16 72 (by kernel_rfl) rfl rfl; go_simp; refine (HVt.out W hI).mono ?_; rintro e u ⟨rfl, hb⟩; exact ⟨_, rfl, rfl, hb⟩
              · refine ⟨(fun v w h => by (have h' : v = .bool (!id1) := h; subst h'; cases id1 <;> rfl)), ?_⟩
                cases id1
                · intro W; rfl
                · intro a W hI hF hD; have h : a.tmps[73]?.getD undef = .bool vt1 := dep_of hD 17 73 (by kernel_rfl) rfl rfl; go_simp; exact ⟨_, rfl, rfl, BH.refl _⟩
              · refine ⟨rfl, ?_⟩
                cases id1
                all_goals
                  intro a W hI hF hD; have h : a.tmps[64]?.getD undef = .bool _ := dep_of hD 8 64 (by kernel_rfl) rfl rfl; (try (have h' : a.tmps[74]?.getD undef = .bool (!vt1) := dep_of hD 18 74 (by kernel_rfl) rfl rfl)); go_simp; exact ⟨_, rfl, rfl, BH.refl _⟩
            · intro a W hI hF hall
              have h75 : a.tmps[75]?.getD undef = .bool (!id1 || !vt1) := all_of hall 19 75 rfl rfl
              have HA := Lib.hid (Frm.act hF)
              have H75 := Lib.hid h75
              have HI2 := Lib.hid hI
              clear h75 hF hI hall
              simp only [Exit.inBlock, Exit.then]
              apply_assumption
              refine Met.intro ?_
              go_step
              (repeat apply Exists.intro)
              refine ⟨?_, HA.out.trans rfl⟩
              exact ⟨_, (Array.getD_eq_getD_getElem? ..).trans H75.out, Lib.hid ⟨rfl, HI2.out⟩⟩
          case rest =>
            obtain ⟨z, rfl, hC8z⟩ := hcut
            have hC8 := Lib.hid hC8z.out.2
            have HX8 := Lib.hid (And.intro (BH.trans HX.out.1 hC8.out) (And.intro ((Below.block hC8.out _ (heap_lt HX.out.2.1)).trans HX.out.2.1) HX.out.2.2))
            clear r0 r1 r2 r3 r4 r5 r6 r7 p0 p1 p2 p3 p4
            cases id1 with
            | false =>
              obtain rfl : z = true := by rw [hC8z.out.1]; rfl
              go_wp2_with (fail)
              go_ret
              exact ⟨by rw [HX8.out.2.2]; rfl, HX8.out.1⟩
            | true =>
            cases vt1 with
            | false =>
              obtain rfl : z = true := by rw [hC8z.out.1]; rfl
              go_wp2_with (fail)
              go_ret
              exact ⟨by rw [HX8.out.2.2]; cases sn <;> rfl, HX8.out.1⟩
            | true =>
            obtain rfl : z = false := by rw [hC8z.out.1]; rfl
            have hZs : Z = (!sn && avL ar (fs.drop (i + 1)) ((fs.take i).map Prod.fst ++ [n1])) := by rw [HX8.out.2.2]; rfl
            have HZs := Lib.hid hZs
            clear hZs
            go_wp2_with (fail)
            obtain ⟨wo, hwo⟩ : ∃ wo : World, wo = wc := ⟨_, rfl⟩
            go_loopw [4] (fun iv wq => ∃ q : Nat, iv = .int .i64 (q : Int) ∧ q ≤ i ∧ Hid (BH w wq ∧ wq.heap[w.heap.size]? = some (.cells #[.string ⟨n.toArray⟩, .int .i64 ar, .int .i64 k, .string ⟨t.toArray⟩, .int .i64 o, .slice A kids.len c, _, .slice (some ⟨g, off, none⟩) M x] 37 (0, 0)) ∧ ∀ m, m < q → ∀ f, fs[m]? = some f → f.1 ≠ n1)) (fun iv _ => i - (match iv with | .int _ n => n.toNat | _ => 0))
            · exact ⟨0, rfl, Nat.zero_le _, Lib.hid ⟨HX8.out.1, HX8.out.2.1, fun m hm => absurd hm (Nat.not_lt_zero _)⟩⟩
            · obtain ⟨q, rfl, hqi, hQ⟩ := hrel
              obtain ⟨z1, z2, z3⟩ := hQ.out
              obtain ⟨⟨r0, r1, r2, r3, r4, r5, r6, r7⟩, _⟩ := row8 z2
              have hwi : wrap64 ((q : Int) + 1) = (q : Int) + 1 := wrap64_in (by omega) (by omega)
              by_cases hql : q < i
              · have hge2 : decide ((q : Int) < (i : Int)) = true := by rw [decide_eq_true_eq]; omega
                have hqL : (q : Int) < (M : Int) := by omega
                have hq0 : (0 : Int) ≤ (q : Int) := by omega
                obtain ⟨⟨n2, y2⟩, hy2⟩ : ∃ f, fs[q]? = some f := ⟨_, List.getElem?_eq_getElem (by rw [HM.out]; omega)⟩
                obtain ⟨g2, off2, A2, c2, e2, _, hg2, q0, _, _, _, _, _⟩ := (HFl.out.bh z1).at hy2
                cases e2
                obtain ⟨g3, off3, A3, c3, e3, _, hg3, q0', _, _, _, _, _⟩ := (HFl.out.bh z1).at HY.out
                cases e3
                have HZ1 := Lib.hid (And.intro z1 (And.intro z2 z3))
                have HY2 := Lib.hid hy2
                by_cases hnn : n2 = n1
                · subst hnn
                  have hsn : sn = true := by
                    rw [← HSn.out]
                    have hm : (n2, y2) ∈ fs.take i := List.mem_of_getElem? (i := q) (by rw [List.getElem?_take, if_pos hql]; exact hy2)
                    exact List.elem_eq_true_of_mem (List.mem_map.2 ⟨_, hm, rfl⟩)
                  have HS := Lib.hid hsn
                  clear z1 z2 z3 hg2 hg3 hQ hy2 hsn
                  go_upto_region 13 with (fail)
                  go_cut [93] (fun s93 wx => s93 = .bool true ∧ Hid (BH wr wx))
                  case first =>
                    go_quiet (fail)
                    go_wp2_with (fail)
                    go_meet
                    exact ⟨by simp, Lib.hid (below_drewN' (BH.refl _) _)⟩
                  case rest =>
                    obtain ⟨rfl, hCC⟩ := hcut
                    go_wp2_with (fail)
                    go_ret
                    exact ⟨by rw [HZs.out, HS.out]; rfl, BH.trans HZ1.out.1 hCC.out⟩
                · have t1 := tba_ne hnn
                  have t2 : (n2 == n1) = false := by simpa using hnn
                  have t4 : ((ByteArray.mk n2.toArray) == (ByteArray.mk n1.toArray)) = false := by
                    cases h : ((ByteArray.mk n2.toArray) == (ByteArray.mk n1.toArray)) with
                    | false => rfl
                    | true =>
                      have h' : (n2.toArray == n1.toArray) = true := h
                      exact absurd (congrArg ByteArray.mk (beq_iff_eq.1 h')) t1
                  have t6 : decide ((ByteArray.mk n2.toArray) = (ByteArray.mk n1.toArray)) = false := decide_eq_false t1
                  have hnx : ∀ m, m < q + 1 → ∀ f, fs[m]? = some f → f.1 ≠ n1 := fun m hm f hf => by
                    rcases Nat.lt_succ_iff_lt_or_eq.1 hm with h | h
                    · exact z3 m h f hf
                    · subst h; rw [hy2] at hf; cases hf; exact hnn
                  have HNx := Lib.hid hnx
                  clear z1 z2 z3 hg2 hg3 hQ hy2 hnx hnn
                  go_upto_region 13 with (fail)
                  go_cut [93] (fun s93 wx => s93 = .bool false ∧ Hid (BH wr wx))
                  case first =>
                    go_quiet (fail)
                    go_wp2_with (fail)
                    go_meet
                    exact ⟨by simp [t1, t2, t4, t6], Lib.hid (below_drewN' (BH.refl _) _)⟩
                  case rest =>
                    obtain ⟨rfl, hCC⟩ := hcut
                    have HYY := Lib.hid (And.intro (BH.trans HZ1.out.1 hCC.out) ((Below.block hCC.out _ (heap_lt HZ1.out.2.1)).trans HZ1.out.2.1))
                    clear q0 q0' r0 r1 r2 r3 r4 r5 r6 r7 t1 t2 t4 t6
                    go_wp2_with (fail)
                    exact ⟨⟨q + 1, rfl, by omega, Lib.hid ⟨HYY.out.1, HYY.out.2, HNx.out⟩⟩, by simp; omega⟩
              · have hge2 : decide ((q : Int) < (i : Int)) = false := by rw [decide_eq_false_iff_not]; omega
                have hge3 : decide (q < i) = false := by rw [decide_eq_false_iff_not]; omega
                have hqe : q = i := by omega
                have hsn : sn = false := by
                  rw [← HSn.out]
                  cases hc : ((fs.take i).map Prod.fst).contains n1 with
                  | false => rfl
                  | true =>
                    exfalso
                    obtain ⟨f, hf, hfe⟩ := List.mem_map.1 (List.mem_of_elem_eq_true hc)
                    obtain ⟨m, hm, hme⟩ := List.getElem_of_mem hf
                    have hml : m < i := by rw [List.length_take] at hm; omega
                    refine z3 m (by omega) f ?_ hfe
                    rw [← hme, List.getElem_take]
                    exact List.getElem?_eq_getElem _
                have HS := Lib.hid (And.intro hsn (And.intro z1 z2))
                clear z1 z2 z3 hQ hqe hsn
                go_wp2_with (fail)
                exact ⟨⟨i + 1, rfl, by omega, Lib.hid ⟨HS.out.2.1, HS.out.2.2, by rw [HTk.out, HZs.out, HS.out.1]; rfl⟩⟩, by simp; omega⟩
        · have hge : decide ((i : Int) < (M : Int)) = false := by rw [decide_eq_false_iff_not]; omega
          have hge2 : decide (i < M) = false := by rw [decide_eq_false_iff_not]; omega
          have hie : i = M := by omega
          have hz : Z = true := by
            rw [x3, List.drop_of_length_le (by rw [HM.out, hie]; exact Nat.le_refl _), avL]
          have Hz := Lib.hid (And.intro hz x1)
          clear hz hie x1 x2 x3 hRd
          go_wp2_with (fail)
          go_ret
          exact ⟨by rw [Hz.out.1]; rfl, Hz.out.2⟩
end Go.Proofs.YtpkiheenkpcebaaGreatDoor

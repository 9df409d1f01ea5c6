/- telref1's Declare. No condition but bounded sizes. -/
import Derived.Test.YtpkiheenkpcebaaGreatDoorMbf
set_option linter.unusedVariables false
set_option linter.unusedSimpArgs false
namespace Go.Proofs.YtpkiheenkpcebaaGreatDoor.Sx
theorem findD_app {ds : List De} {d : De} {t : List UInt8} (h : findD ds d.name = none) : findD (ds ++ [d]) t = if t = d.name then some d else findD ds t := by
  rw [findD, List.find?_append]
  by_cases ht : t = d.name
  · subst ht
    rw [show List.find? (fun x => decide (x.name = d.name)) ds = none from h, if_pos rfl]
    simp
  · rw [if_neg ht]
    cases hf : List.find? (fun x => decide (x.name = t)) ds with
    | some y => rw [findD, hf]; rfl
    | none =>
      rw [findD, hf]
      have : ¬ d.name = t := fun e => ht e.symm
      simp [this]
theorem dcB_app {ds : List De} {d : De} (h : findD ds d.name = none) (t : List UInt8) (N : Nat) : dcB (ds ++ [d]) t N = xfB ds d.name d.arity t N := by
  rw [dcB, findD_app h, xfB]
  by_cases ht : t = d.name
  · rw [if_pos ht, decide_eq_true ht]
    subst ht
    rw [dcB, h]
    simp
  · rw [if_neg ht, decide_eq_false ht]
    simp [dcB]
theorem ev1_app {ds : List De} {d : De} (h : findD ds d.name = none) (k : Int) (t : List UInt8) (kids : Fo) : ev1 (dcB (ds ++ [d])) k t kids = ev1 (xfB ds d.name d.arity) k t kids := by
  have : dcB (ds ++ [d]) = xfB ds d.name d.arity := funext fun t => funext fun N => dcB_app h t N
  rw [this]
end Go.Proofs.YtpkiheenkpcebaaGreatDoor.Sx
namespace Go.Proofs.YtpkiheenkpcebaaGreatDoor
open Go.RowKit Sx

/-- what the operations that make the extended hierarchy leave; the ghost says whether the append has been made -/
def exV (X : World) (S : Nat → Prop) (p : Nat) (ds : List De) (d : De) (A F : Option Addr) (c x L : Nat) (m : Nat) (j : Nat) (v : Value) (w : World) : Prop :=
  match j with
  | 0 => v = .pointer (some ⟨p, 0, none⟩)
  | 1 => ∃ A1 c1 xs, v = .slice A1 L c1 ∧ (m = 0 → w.ownsRow X.heap.size 37 8 (.slice A1 L c1) L xs ∧ DX w (fun y => S y ∧ y < X.heap.size) ds xs)
  | 2 => v = .agg #[.string ⟨d.name.toArray⟩, .int .i64 d.arity, .int .i64 d.super.k, .string ⟨d.super.t.toArray⟩, .int .i64 d.super.o, .slice A d.super.kids.len c, .bool d.conc, .slice F d.fields.length x]
  | 3 => ∃ g, v = .slice (some ⟨g, 0, none⟩) 1 1 ∧ (m = 0 → w.heap[g]? = some (.cells #[.string ⟨d.name.toArray⟩, .int .i64 d.arity, .int .i64 d.super.k, .string ⟨d.super.t.toArray⟩, .int .i64 d.super.o, .slice A d.super.kids.len c, .bool d.conc, .slice F d.fields.length x] 37 (0, 0)))
  | 4 => m = 1 ∧ ∃ A1 c1 xs, v = .slice A1 (L + 1) c1 ∧ w.ownsRow X.heap.size 37 8 (.slice A1 (L + 1) c1) (L + 1) xs ∧ DX w (fun y => S y ∧ y < X.heap.size) (ds ++ [d]) xs
  | 5 => m = 1 ∧ ∃ A1 c1 xs, v = .agg #[.slice A1 (L + 1) c1] ∧ w.ownsRow X.heap.size 37 8 (.slice A1 (L + 1) c1) (L + 1) xs ∧ DX w (fun y => S y ∧ y < X.heap.size) (ds ++ [d]) xs
  | _ => m = 1 ∧ ∃ A1 c1 xs g, v = .pointer (some ⟨g, 0, none⟩) ∧ X.heap.size ≤ g ∧ w.heap[g]? = some (.cells #[.slice A1 (L + 1) c1] 82 (0, 0)) ∧ (Value.slice A1 (L + 1) c1).ownBlock ≠ some g ∧ w.ownsRow X.heap.size 37 8 (.slice A1 (L + 1) c1) (L + 1) xs ∧ DX w (fun y => S y ∧ y < X.heap.size) (ds ++ [d]) xs
def exT (X : World) (m : Nat) (w : World) (m' : Nat) (w' : World) : Prop := BH X w' ∧ ((m' = m ∧ BH w w') ∨ (m = 0 ∧ m' = 1))
theorem own_bh {w w' : World} {b : Nat} {e : TypeId} {n k : Nat} {v : Value} {xs : List Value} (h : w.ownsRow b e n v k xs) (hb : BH w w') : w'.ownsRow b e n v k xs := h.kept (row := none) (gb_below hb none) (by
  cases hv : v.ownBlock with
  | none => exact .inl rfl
  | some x => exact .inr (by simp))
theorem exV_T {X : World} {S : Nat → Prop} {p : Nat} {ds : List De} {d : De} {A F : Option Addr} {c x L : Nat} (m m' : Nat) (j : Nat) (v : Value) (w w' : World) (h : exV X S p ds d A F c x L m j v w) (hT : exT X m w m' w') : exV X S p ds d A F c x L m' j v w' := by
  rcases hT.2 with ⟨rfl, hb⟩ | ⟨rfl, rfl⟩
  · unfold exV at *
    split at h
    all_goals first
      | exact h
      | (obtain ⟨A1, c1, xs, e, h1⟩ := h; exact ⟨A1, c1, xs, e, fun hm => ⟨own_bh (h1 hm).1 hb, (h1 hm).2.bh hb⟩⟩)
      | (obtain ⟨g, e, h1⟩ := h; exact ⟨g, e, fun hm => (Below.block hb _ (heap_lt (h1 hm))).trans (h1 hm)⟩)
      | (obtain ⟨hm, A1, c1, xs, e, h1, h2⟩ := h; exact ⟨hm, A1, c1, xs, e, own_bh h1 hb, h2.bh hb⟩)
      | (obtain ⟨hm, A1, c1, xs, g, e, h0, h1, h2, h3, h4⟩ := h; exact ⟨hm, A1, c1, xs, g, e, h0, (Below.block hb _ (heap_lt h1)).trans h1, h2, own_bh h3 hb, h4.bh hb⟩)
  · unfold exV at *
    split at h
    all_goals first
      | exact h
      | (obtain ⟨A1, c1, xs, e, h1⟩ := h; exact ⟨A1, c1, xs, e, fun hm => (by cases hm)⟩)
      | (obtain ⟨g, e, h1⟩ := h; exact ⟨g, e, fun hm => (by cases hm)⟩)
      | (obtain ⟨hm, _⟩ := h; cases hm)

theorem chE_err {ds : List De} {d : De} (h : chE d ≠ 0) : declE ds d = chE d ∧ declD ds d = ds := by
  have h1 : declE ds d = chE d := by
    rw [chE] at h ⊢
    rw [declE]
    by_cases hv : vdB d = false
    · rw [if_pos hv, if_pos hv]
    · rw [if_neg hv] at h ⊢
      rw [if_neg hv]
      by_cases h6 : 6 < d.arity ∨ 6 < d.fields.length
      · rw [if_pos h6, if_pos h6]
      · rw [if_neg h6] at h; exact absurd rfl h
  refine ⟨h1, ?_⟩
  rw [declD, if_neg (fun hh => h (h1.symm.trans hh.1))]
theorem chE_ok {ds : List De} {d : De} (h : chE d = 0) : declE ds d = match findD ds d.name with
  | some k => if deB k d = true then 0 else 6
  | none => if 60 ≤ ds.length then 8 else if (ev1 (dcB ds) d.super.k d.super.t d.super.kids && kfB ds d.name d.arity d.fields) = false then 5 else if concB ds d.super.t = true then 10 else 0 := by
  rw [chE] at h
  by_cases hv : vdB d = false
  · rw [if_pos hv] at h; cases h
  · rw [if_neg hv] at h
    by_cases h6 : 6 < d.arity ∨ 6 < d.fields.length
    · rw [if_pos h6] at h; cases h
    · rw [declE, if_neg hv, if_neg h6]
      rfl

theorem wp_rea {P : Program} {w : World} {o : Oper} {a : Act} {K : Act → World → Prop} {Q : Exit → Act → World → Prop} (hgd : o.guard = none) (s x : Operand) (t : TypeId)
    (ho : o.op = .call { callee := .builtin .append, args := #[s, x], argTypes := #[t, t] })
    (base : Nat) (e : TypeId) (i : TypeInfo) (z : Value) (size bytes : Nat) (ht : P.underlying t = some (.slice e)) (hi : P.info? e = some i) (hz : i.zero = some z)
    (hsize : i.size = size) (hby : i.bytes = bytes) (hzs : z.cells.size = size) (hsz : 0 < size) (v : Value) (n : Nat) (xs : List Value) (hs : a.eval s = v) (hown : w.ownsRow base e size v n xs)
    (A : Option Addr) (m c : Nat) (news : List Value) (hx : a.eval x = .slice A m c) (hr : Rea w size A m news) (h63 : n + m ≤ maxLen) (hbytes : (n + m) * bytes ≤ 140737488355328) (hbase : base ≤ w.heap.size)
    (h : ∀ v' w', w'.ownsRow base e size v' (n + m) (xs ++ news) → w.grownBy w' v.ownBlock → (v'.ownBlock = v.ownBlock ∨ v'.ownBlock = some w.heap.size) → K (a.put o.dst v') w') : o.wp P a w K Q := by
  have h2 := step_rea (P := P) (w := w) (ops := #[]) (K := K) (Q := Q) (E := True) hgd s x t ho base e i z size bytes ht hi hz hsize hby hzs hsz v n xs hs hown A m c news hx hr h63 hbytes hbase h
  rw [if_pos (by simp [Region.wanted, hgd])] at h2
  exact h2
theorem DcS.own2 {w : World} {S : Nat → Prop} {b0 n : Nat} {e : TypeId} {ds : List De} {xs : List Value} {A : Option Addr} {c : Nat} (hn : ds.length = n) (ho : w.ownsRow b0 e 8 (.slice A n c) n xs) (hr : DX w S ds xs) : DcS w (fun x => S x ∨ (Value.slice A n c).ownBlock = some x) ds A c := by
  subst hn
  obtain ⟨h1, h2, h3, h4, h5⟩ := Cel.of_own ho
  refine ⟨h2, xs, fun hp => ?_, DX.keep (Nat.le_refl _) (fun x hx _ => ⟨rfl, .inl hx⟩) _ _ hr⟩
  obtain ⟨g, off, e, hg, hc⟩ := h5 hp
  subst e
  exact ⟨g, off, rfl, .inr rfl, hg, hc⟩
theorem own_base {w : World} {b b' : Nat} {e : TypeId} {n k : Nat} {v : Value} {xs : List Value} (h : w.ownsRow b e n v k xs) (hb : b' ≤ b) : w.ownsRow b' e n v k xs := by
  obtain ⟨h1, h2⟩ := h
  refine ⟨h1, ?_⟩
  rcases h2 with h2 | ⟨g, cap, cur, q1, q2, q3⟩
  · exact .inl h2
  · exact .inr ⟨g, cap, cur, q1, Nat.le_trans hb q2, q3⟩
/-- what telref1's Declare answers and leaves -/
def RDP (S : Nat → Prop) (p : Nat) (ds : List De) (d : De) (w : World) (e : Ending) (w' : World) : Prop := e = .returned (.int .i64 (declE ds d)) ∧ RHier w' S p (declD ds d) ∧ w.grownBy w' (some p)
theorem RDP.same {S : Nat → Prop} {p : Nat} {ds : List De} {d : De} {w w' : World} {z : Int} (h1 : declE ds d = z) (h2 : declD ds d = ds) (h3 : RHier w' S p ds) (h4 : BH w w') : RDP S p ds d w (.returned (.int .i64 z)) w' :=
  ⟨by rw [h1], by rw [h2]; exact h3, gb_below h4 _⟩
theorem RDP.err {S : Nat → Prop} {p : Nat} {ds : List De} {d : De} {w w' : World} {z : Int} (h1 : declE ds d = z) (h0 : z ≠ 0) (h3 : RHier w' S p ds) (h4 : BH w w') : RDP S p ds d w (.returned (.int .i64 z)) w' :=
  RDP.same h1 (by rw [declD, if_neg (fun h => h0 (h1.symm.trans h.1))]) h3 h4

set_option maxHeartbeats 16000000 in
set_option maxRecDepth 100000 in
theorem rDeclare (V : Int) (S : Nat → Prop) (p : Nat) (ds : List De) (d : De) (A F : Option Addr) (c x : Nat) (w : World) (H : RHier w S p ds) (hds : ∀ d ∈ ds, OkD V d) (hok : OkD V d) (hlen : ds.length ≤ 1000) (hS : ∀ y, w.heap.size ≤ y → S y) (hK : KS w S d.super.kids A c) (hFl : FlS w S d.fields F x) :
    Calls Tryz.prog 25 #[.pointer (some ⟨p, 0, none⟩), .agg #[.string ⟨d.name.toArray⟩, .int .i64 d.arity, .int .i64 d.super.k, .string ⟨d.super.t.toArray⟩, .int .i64 d.super.o, .slice A d.super.kids.len c, .bool d.conc, .slice F d.fields.length x]] w (RDP S p ds d w) := by
  obtain ⟨n, ar, ⟨k, t, kids, o⟩, cc, fs⟩ := d
  simp only at hK hFl ⊢
  have hCk := fun X (hX : BH w X) => rCheckDecl V ⟨n, ar, ⟨k, t, kids, o⟩, cc, fs⟩ A F c x X S hok (hK.kt.below hX) (hFl.bh hX)
  obtain ⟨ce, hce⟩ : ∃ ce, chE ⟨n, ar, ⟨k, t, kids, o⟩, cc, fs⟩ = ce := ⟨_, rfl⟩
  simp only [hce] at hCk
  obtain ⟨M, hM⟩ : ∃ M, fs.length = M := ⟨_, rfl⟩
  obtain ⟨L, hL⟩ : ∃ L, ds.length = L := ⟨_, rfl⟩
  rw [hM] at hCk ⊢
  have hMl : M ≤ 1048576 := by rw [← hM]; exact hok.2.2.1
  have hn : n.length ≤ 1048576 := hok.1
  have HOk := Lib.hid hok
  have HCk := Lib.hid hCk
  have HM := Lib.hid hM
  have HL := Lib.hid hL
  have Hce := Lib.hid hce
  have HDs := Lib.hid hds
  have HS := Lib.hid hS
  have e1 := heap_alloc_new w (.cells #[.string ⟨n.toArray⟩, .int .i64 ar, .int .i64 k, .string ⟨t.toArray⟩, .int .i64 o, .slice A kids.len c, .bool cc, .slice F M x] 37)
  have f1 := bh_alloc (BH.refl w) (.cells #[.string ⟨n.toArray⟩, .int .i64 ar, .int .i64 k, .string ⟨t.toArray⟩, .int .i64 o, .slice A kids.len c, .bool cc, .slice F M x] 37)
  have HFF : Hid (∀ Y, BH (w.alloc (.cells #[.string ⟨n.toArray⟩, .int .i64 ar, .int .i64 k, .string ⟨t.toArray⟩, .int .i64 o, .slice A kids.len c, .bool cc, .slice F M x] 37)) Y → RHier Y S p ds ∧ Y.heap[w.heap.size]? = some (.cells #[.string ⟨n.toArray⟩, .int .i64 ar, .int .i64 k, .string ⟨t.toArray⟩, .int .i64 o, .slice A kids.len c, .bool cc, .slice F M x] 37 (0, 0)) ∧ KS Y S kids A c ∧ FlS Y S fs F x ∧ BH w Y) := Lib.hid fun Y hY => by
    have h1 := BH.trans f1 hY
    exact ⟨H.bh h1, (Below.block hY _ (heap_lt e1)).trans e1, hK.bh h1, hFl.bh h1, h1⟩
  obtain ⟨⟨r0, r1, r2, r3, r4, r5, r6, r7⟩, _⟩ := row8 e1
  have HF1 := Lib.hid f1
  clear hCk hce hM hL hds hok hS H hK hFl e1 f1
  go_enter Tryz.func25, Tryz.ntmps25
  go_wp2_with (fail)
  refine (HCk.out _ HF1.out).mono ?_
  rintro e u ⟨rfl, hb⟩
  have HB := Lib.hid hb
  clear hb r0 r1 r2 r3 r4 r5 r6 r7
  by_cases hc0 : ce = 0
  · subst hc0
    have HE := Lib.hid (chE_ok (ds := ds) Hce.out)
    obtain ⟨⟨r0, r1, r2, r3, r4, r5, r6, r7⟩, _⟩ := row8 (HFF.out u HB.out).2.1
    have hLk := rLookup_any S p ds n u (HFF.out u HB.out).1 (by omega)
    have HLk := Lib.hid hLk
    clear hLk
    go_wp2_with (fail)
    refine HLk.out.mono ?_
    rintro e u2 ⟨hb, hor⟩
    have HB2 := Lib.hid (BH.trans HB.out hb)
    clear hb r0 r1 r2 r3 r4 r5 r6 r7
    rcases hor with ⟨d1, A1, c1, F1, x1, hfd, rfl, hk1, hfl1⟩ | ⟨hfd, rfl⟩
    · have hok1 := HDs.out _ (List.mem_of_find?_eq_some hfd)
      obtain ⟨n1, ar1, ⟨k1, t1, f1s, o1⟩, q1, fs1⟩ := d1
      simp only at hk1 hfl1
      have eB := heap_alloc_new u2 (.cells #[.string ⟨n1.toArray⟩, .int .i64 ar1, .int .i64 k1, .string ⟨t1.toArray⟩, .int .i64 o1, .slice A1 f1s.len c1, .bool q1, .slice F1 fs1.length x1] 37)
      have fB := bh_alloc (BH.refl u2) (.cells #[.string ⟨n1.toArray⟩, .int .i64 ar1, .int .i64 k1, .string ⟨t1.toArray⟩, .int .i64 o1, .slice A1 f1s.len c1, .bool q1, .slice F1 fs1.length x1] 37)
      obtain ⟨⟨s0, s1, s2, s3, s4, s5, s6, s7⟩, _⟩ := row8 eB
      obtain ⟨⟨r0, r1, r2, r3, r4, r5, r6, r7⟩, _⟩ := row8 (HFF.out _ (BH.trans HB2.out fB)).2.1
      obtain ⟨q, hq⟩ : ∃ q, deB ⟨n1, ar1, ⟨k1, t1, f1s, o1⟩, q1, fs1⟩ ⟨n, ar, ⟨k, t, kids, o⟩, cc, fs⟩ = q := ⟨_, rfl⟩
      have hD := rDeclEq_any n1 n ar1 ar k1 k o1 o t1 t f1s kids q1 cc fs1 fs A1 A F1 F c1 c x1 x _ hok1.2.1.1 HOk.out.2.1.1 (hk1.kt.below fB) (HFF.out _ (BH.trans HB2.out fB)).2.2.1.kt _ _ (hfl1.bh fB) (HFF.out _ (BH.trans HB2.out fB)).2.2.2.1 (fun f hf => (hok1.2.2.2 f hf).2.1) (fun f hf => (HOk.out.2.2.2 f hf).2.1) hok1.2.2.1 HOk.out.2.2.1
      rw [hq, HM.out] at hD
      have HD := Lib.hid hD
      have HFB := Lib.hid (BH.trans HB2.out fB)
      have HQ := Lib.hid (And.intro hfd hq)
      clear hok1 hk1 hfl1 eB fB hq hD hfd
      go_wp2_with (fail)
      refine HD.out.mono ?_
      rintro e u3 ⟨rfl, hb⟩
      have HB3 := Lib.hid (BH.trans HFB.out hb)
      clear hb r0 r1 r2 r3 r4 r5 r6 r7 s0 s1 s2 s3 s4 s5 s6 s7
      have hdd : declD ds ⟨n, ar, ⟨k, t, kids, o⟩, cc, fs⟩ = ds := by rw [declD]; simp only [HQ.out.1]; simp
      have HDD := Lib.hid hdd
      clear hdd
      cases q with
      | true =>
        go_wp2_with (fail)
        go_ret
        exact RDP.same (by rw [HE.out]; simp only [HQ.out.1]; rw [if_pos HQ.out.2]) HDD.out (HFF.out _ HB3.out).1 (HFF.out _ HB3.out).2.2.2.2
      | false =>
        go_wp2_with (fail)
        go_ret
        exact RDP.same (by rw [HE.out]; simp only [HQ.out.1]; rw [if_neg (by rw [HQ.out.2]; simp)]) HDD.out (HFF.out _ HB3.out).1 (HFF.out _ HB3.out).2.2.2.2
    · have HNone := Lib.hid hfd
      have HE2 := Lib.hid (show declE ds ⟨n, ar, ⟨k, t, kids, o⟩, cc, fs⟩ = if 60 ≤ ds.length then 8 else if (ev1 (dcB ds) k t kids && kfB ds n ar fs) = false then 5 else if concB ds t = true then 10 else 0 by rw [HE.out]; simp only [hfd])
      have fB := bh_alloc (BH.refl u2) (.cells #[.string ⟨#[]⟩, .int .i64 0, .int .i64 0, .string ⟨#[]⟩, .int .i64 0, .slice none 0 0, .bool false, .slice none 0 0] 37)
      obtain ⟨A5, c5, h5, _, _⟩ := (HFF.out _ (BH.trans HB2.out fB)).1
      rw [HL.out] at h5
      have q0 := cell_of_row _ p 0 _ _ _ h5
      have HFB := Lib.hid (BH.trans HB2.out fB)
      clear hfd fB h5 HE
      by_cases h60 : 60 ≤ L
      · have t1 : decide ((60 : Int) ≤ (L : Int)) = true := by rw [decide_eq_true_eq]; omega
        have t2 : decide (60 ≤ L) = true := by simpa using h60
        have H60 := Lib.hid h60
        clear h60
        go_wp2_with (fail)
        go_ret
        exact RDP.err (by rw [HE2.out, if_pos (by rw [HL.out]; exact H60.out)]) (by decide) (HFF.out _ HFB.out).1 (HFF.out _ HFB.out).2.2.2.2
      · have t1 : decide ((60 : Int) ≤ (L : Int)) = false := by rw [decide_eq_false_iff_not]; omega
        have t2 : decide (60 ≤ L) = false := by simpa using h60
        have HE3 := Lib.hid (show declE ds ⟨n, ar, ⟨k, t, kids, o⟩, cc, fs⟩ = if (ev1 (dcB ds) k t kids && kfB ds n ar fs) = false then 5 else if concB ds t = true then 10 else 0 by rw [HE2.out, if_neg (by rw [HL.out]; exact h60)])
        clear h60
        go_upto_region 11 with (fail)
        refine gen_wp _ (fun X => BH (w.alloc (.cells #[.string ⟨n.toArray⟩, .int .i64 ar, .int .i64 k, .string ⟨t.toArray⟩, .int .i64 o, .slice A kids.len c, .bool cc, .slice F M x] 37)) X ∧ RHier X S p ds ∧ X.heap[w.heap.size]? = some (.cells #[.string ⟨n.toArray⟩, .int .i64 ar, .int .i64 k, .string ⟨t.toArray⟩, .int .i64 o, .slice A kids.len c, .bool cc, .slice F M x] 37 (0, 0))) ⟨HFB.out, (HFF.out _ HFB.out).1, (HFF.out _ HFB.out).2.1⟩ ?_
        rintro X ⟨x1, x2, x3⟩
        have HX := Lib.hid (And.intro x1 (And.intro x2 x3))
        clear q0 x1 x2 x3 t1 t2
        go_cut [8] (fun s8 wx => ∃ gE A1 c1 xs, s8 = .pointer (some ⟨gE, 0, none⟩) ∧ Hid (X.heap.size ≤ gE ∧ wx.heap[gE]? = some (.cells #[.slice A1 (L + 1) c1] 82 (0, 0)) ∧ (Value.slice A1 (L + 1) c1).ownBlock ≠ some gE ∧ wx.ownsRow X.heap.size 37 8 (.slice A1 (L + 1) c1) (L + 1) xs ∧ DX wx (fun y => S y ∧ y < X.heap.size) (ds ++ [(⟨n, ar, ⟨k, t, kids, o⟩, cc, fs⟩ : De)]) xs ∧ BH X wx))
        case first =>
          obtain ⟨i0, hi, hz0, hz1, hz2⟩ := info_parts infoDecl
          have hLb : L ≤ 1000 := by rw [← HL.out]; exact hlen
          have hks : KS X (fun y => S y ∧ y < X.heap.size) kids A c := (HFF.out X HX.out.1).2.2.1.keep (Nat.le_refl _) fun y hy hl => ⟨rfl, hy, hl⟩
          have hfs : FlS X (fun y => S y ∧ y < X.heap.size) fs F x := (HFF.out X HX.out.1).2.2.2.1.keep (Nat.le_refl _) fun y hy hl => ⟨rfl, hy, hl⟩
          have HKF := Lib.hid (And.intro hks hfs)
          have HRX : Hid (RHier X (fun y => S y ∧ y < X.heap.size) p ds) := Lib.hid (HX.out.2.1.keep (Nat.le_refl _) (fun y hy hl => ⟨rfl, hy, hl⟩) rfl (fun h => by obtain ⟨_, _, _, _, h2⟩ := HX.out.2.1; exact h2 h.1))
          clear hks hfs
          refine wp_region_ghost (by kernel_rfl) (exV X S p ds ⟨n, ar, ⟨k, t, kids, o⟩, cc, fs⟩ A F c x L) (fun (_ : Nat) W => BH X W) (exT X) (fun j m => j = 4 → m = 0) 0 (below_drew X) (fun _ _ => rfl) (fun _ _ _ _ _ h => h.1) exV_T (by kernel_rfl) ?_ ?_
          · refine ⟨?_, ?_, ?_, ?_, ?_, ?_, ?_, ?_, trivial⟩
            · intro m a W hI _ hF hD
              have h := same_of hF 0 (by kernel_rfl)
              go_simp
              exact ⟨_, rfl, m, rfl, ⟨hI, .inl ⟨rfl, BH.refl _⟩⟩, fun _ _ h => h⟩
            · intro m a W hI _ hF hD
              have h : a.tmps[34]?.getD undef = .pointer (some ⟨p, 0, none⟩) := dep_of hD 0 34 (by kernel_rfl) rfl rfl
              have hDc := rDecls_any (fun y => S y ∧ y < X.heap.size) p ds W (HRX.out.bh hI) (by omega)
              rw [HL.out] at hDc
              have HDc := Lib.hid hDc
              have hsz := Below.size hI
              clear hDc
              go_simp
              refine HDc.out.mono ?_
              rintro e u ⟨A1, c1, xs, rfl, h1, h2, h3⟩
              refine ⟨_, rfl, m, ⟨A1, c1, xs, rfl, fun _ => ⟨?_, ?_⟩⟩, ⟨BH.trans hI h3, .inl ⟨rfl, h3⟩⟩, fun _ _ h => h⟩
              · exact own_base h1 hsz
              · exact DX.keep (Nat.le_refl _) (fun y hy _ => ⟨rfl, hy.1⟩) _ _ h2
            · intro m a W hI _ hF hD
              have h := same_of hF 3 (by kernel_rfl)
              have hrow := (Below.block hI _ (heap_lt HX.out.2.2)).trans HX.out.2.2
              obtain ⟨⟨r0, r1, r2, r3, r4, r5, r6, r7⟩, _⟩ := row8 hrow
              clear hrow
              go_simp
              exact ⟨_, rfl, m, by show _ = _; rw [← HM.out], ⟨hI, .inl ⟨rfl, BH.refl _⟩⟩, fun _ _ h => h⟩
            · intro m a W hI _ hF hD
              have h : a.tmps[36]?.getD undef = .agg #[.string ⟨n.toArray⟩, .int .i64 ar, .int .i64 k, .string ⟨t.toArray⟩, .int .i64 o, .slice A kids.len c, .bool cc, .slice F fs.length x] := dep_of hD 2 36 (by kernel_rfl) rfl rfl
              have hn1 := heap_alloc_new W (.cells #[.string ⟨n.toArray⟩, .int .i64 ar, .int .i64 k, .string ⟨t.toArray⟩, .int .i64 o, .slice A kids.len c, .bool cc, .slice F fs.length x] 37)
              have hb1 := bh_alloc (BH.refl W) (.cells #[.string ⟨n.toArray⟩, .int .i64 ar, .int .i64 k, .string ⟨t.toArray⟩, .int .i64 o, .slice A kids.len c, .bool cc, .slice F fs.length x] 37)
              have hbX := bh_alloc hI (.cells #[.string ⟨n.toArray⟩, .int .i64 ar, .int .i64 k, .string ⟨t.toArray⟩, .int .i64 o, .slice A kids.len c, .bool cc, .slice F fs.length x] 37)
              have HN1 := Lib.hid (And.intro hn1 (And.intro hb1 hbX))
              clear hn1 hb1 hbX
              go_simp
              exact ⟨_, rfl, m, ⟨W.heap.size, rfl, fun _ => HN1.out.1⟩, ⟨HN1.out.2.2, .inl ⟨rfl, HN1.out.2.1⟩⟩, fun _ _ h => h⟩
            · intro m a W hI hZ hF hD
              obtain rfl : m = 0 := hZ rfl
              obtain ⟨A1, c1, xs, h35, h1⟩ : ∃ A1 c1 xs, a.tmps[35]?.getD undef = .slice A1 L c1 ∧ (0 = 0 → W.ownsRow X.heap.size 37 8 (.slice A1 L c1) L xs ∧ DX W (fun y => S y ∧ y < X.heap.size) ds xs) := dep_of hD 1 35 (by kernel_rfl) rfl rfl
              obtain ⟨g, h37, h2⟩ : ∃ g, a.tmps[37]?.getD undef = .slice (some ⟨g, 0, none⟩) 1 1 ∧ (0 = 0 → W.heap[g]? = some (.cells #[.string ⟨n.toArray⟩, .int .i64 ar, .int .i64 k, .string ⟨t.toArray⟩, .int .i64 o, .slice A kids.len c, .bool cc, .slice F fs.length x] 37 (0, 0))) := dep_of hD 3 37 (by kernel_rfl) rfl rfl
              obtain ⟨h1o, h1x⟩ := h1 rfl
              have h2b := h2 rfl
              refine wp_rea (by rfl) _ _ _ (by rfl) X.heap.size 37 i0 _ 8 112 Tryz.underlying25 hi hz0 hz1 hz2 rfl (by decide) (.slice A1 L c1) L xs (by show a.tmps.getD 35 undef = _; exact (Array.getD_eq_getD_getElem? ..).trans h35) h1o (some ⟨g, 0, none⟩) 1 1 (eight ⟨n, ar, ⟨k, t, kids, o⟩, cc, fs⟩ A c F x) (by show a.tmps.getD 37 undef = _; exact (Array.getD_eq_getD_getElem? ..).trans h37) (rea8 (d := ⟨n, ar, ⟨k, t, kids, o⟩, cc, fs⟩) h2b) (by unfold maxLen; omega) (by omega) (Below.size hI) ?_
              intro v1 w5 ho hg ha
              obtain ⟨A3, c3, rfl, _⟩ := own_shape ho
              refine ⟨_, rfl, 1, ⟨rfl, A3, c3, _, rfl, ho, ?_⟩, ⟨bh_own hI hg (fun q hq => (h1o.lt q hq).1), .inr ⟨rfl, rfl⟩⟩, fun j hj hz e => absurd e hj⟩
              have hkk : ∀ y, (S y ∧ y < X.heap.size) → y < W.heap.size → w5.heap[y]? = W.heap[y]? ∧ (S y ∧ y < X.heap.size) := fun y hy hyl => ⟨hg.block y hyl (fun e => by have := (h1o.lt y e.symm).1; have := hy.2; omega), hy⟩
              exact DX.keep hg.size hkk _ _ (DX.app (DX.single (d := ⟨n, ar, ⟨k, t, kids, o⟩, cc, fs⟩) (HKF.out.1.bh hI) (HKF.out.2.bh hI)) _ _ h1x)
            · intro m a W hI _ hF hD
              obtain ⟨hm, A1, c1, xs, h38, h1, h2⟩ : m = 1 ∧ ∃ A1 c1 xs, a.tmps[38]?.getD undef = .slice A1 (L + 1) c1 ∧ W.ownsRow X.heap.size 37 8 (.slice A1 (L + 1) c1) (L + 1) xs ∧ DX W (fun y => S y ∧ y < X.heap.size) (ds ++ [(⟨n, ar, ⟨k, t, kids, o⟩, cc, fs⟩ : De)]) xs := dep_of hD 4 38 (by kernel_rfl) rfl rfl
              have HN1 := Lib.hid (And.intro h1 h2)
              have HM1 := Lib.hid hm
              clear h1 h2 hm
              go_simp
              exact ⟨_, rfl, m, ⟨HM1.out, A1, c1, xs, rfl, HN1.out.1, HN1.out.2⟩, ⟨hI, .inl ⟨rfl, BH.refl _⟩⟩, fun _ _ h => h⟩
            · intro m a W hI _ hF hD
              obtain ⟨hm, A1, c1, xs, h39, h1, h2⟩ : m = 1 ∧ ∃ A1 c1 xs, a.tmps[39]?.getD undef = .agg #[.slice A1 (L + 1) c1] ∧ W.ownsRow X.heap.size 37 8 (.slice A1 (L + 1) c1) (L + 1) xs ∧ DX W (fun y => S y ∧ y < X.heap.size) (ds ++ [(⟨n, ar, ⟨k, t, kids, o⟩, cc, fs⟩ : De)]) xs := dep_of hD 5 39 (by kernel_rfl) rfl rfl
              have hn1 := heap_alloc_new W (.cells #[.slice A1 (L + 1) c1] 82)
              have hb1 := bh_alloc (BH.refl W) (.cells #[.slice A1 (L + 1) c1] 82)
              have hbX := bh_alloc hI (.cells #[.slice A1 (L + 1) c1] 82)
              have HN1 := Lib.hid (And.intro (own_bh h1 hb1) (And.intro (h2.bh hb1) (And.intro hn1 (And.intro hb1 hbX))))
              have HM1 := Lib.hid (And.intro hm (fun e => Nat.lt_irrefl _ (h1.lt W.heap.size e).2))
              have hsz := Below.size hI
              clear h1 h2 hm hn1 hb1 hbX
              go_simp
              obtain ⟨n1, n2, n3, n4, n5⟩ := HN1.out
              exact ⟨_, rfl, m, ⟨HM1.out.1, A1, c1, xs, W.heap.size, rfl, hsz, n3, HM1.out.2, n1, n2⟩, ⟨n5, .inl ⟨rfl, n4⟩⟩, fun _ _ h => h⟩
            · intro m a W hI _ hF hD
              obtain ⟨hm, A1, c1, xs, g, h40, h1⟩ : m = 1 ∧ ∃ A1 c1 xs g, a.tmps[40]?.getD undef = .pointer (some ⟨g, 0, none⟩) ∧ X.heap.size ≤ g ∧ W.heap[g]? = some (.cells #[.slice A1 (L + 1) c1] 82 (0, 0)) ∧ (Value.slice A1 (L + 1) c1).ownBlock ≠ some g ∧ W.ownsRow X.heap.size 37 8 (.slice A1 (L + 1) c1) (L + 1) xs ∧ DX W (fun y => S y ∧ y < X.heap.size) (ds ++ [(⟨n, ar, ⟨k, t, kids, o⟩, cc, fs⟩ : De)]) xs := dep_of hD 6 40 (by kernel_rfl) rfl rfl
              have HN1 := Lib.hid h1
              have HM1 := Lib.hid hm
              clear h1 hm
              go_simp
              exact ⟨_, rfl, m, ⟨HM1.out, A1, c1, xs, g, rfl, HN1.out⟩, ⟨hI, .inl ⟨rfl, BH.refl _⟩⟩, fun _ _ h => h⟩
          · intro m a W hI hF hN hall
            obtain ⟨hm, A1, c1, xs, g, h8, h1, h2, h3, h4, h5⟩ : m = 1 ∧ ∃ A1 c1 xs g, a.tmps[8]?.getD undef = .pointer (some ⟨g, 0, none⟩) ∧ X.heap.size ≤ g ∧ W.heap[g]? = some (.cells #[.slice A1 (L + 1) c1] 82 (0, 0)) ∧ (Value.slice A1 (L + 1) c1).ownBlock ≠ some g ∧ W.ownsRow X.heap.size 37 8 (.slice A1 (L + 1) c1) (L + 1) xs ∧ DX W (fun y => S y ∧ y < X.heap.size) (ds ++ [(⟨n, ar, ⟨k, t, kids, o⟩, cc, fs⟩ : De)]) xs := all_of hall 7 8 rfl rfl
            have HR := Lib.hid (And.intro h1 (And.intro h2 (And.intro h3 (And.intro h4 (And.intro h5 hI)))))
            have H8 := Lib.hid h8
            have HA := Lib.hid (Frm.act hF)
            clear hm h8 h1 h2 h3 h4 h5 hI hF hN hall
            simp only [Exit.inBlock, Exit.then]
            apply_assumption
            refine Met.intro ?_
            go_step
            (repeat apply Exists.intro)
            refine ⟨?_, HA.out.trans rfl⟩
            exact ⟨g, A1, c1, xs, (Array.getD_eq_getD_getElem? ..).trans H8.out, Lib.hid HR.out⟩
        case rest =>
          obtain ⟨gE, A1, c1, xs, rfl, hC⟩ := hcut
          obtain ⟨g1, g2, g3, g4, g5, g6⟩ := hC.out
          have hE1 : RHier wc (fun y => (S y ∧ y < X.heap.size) ∨ (Value.slice A1 (L + 1) c1).ownBlock = some y) gE (ds ++ [(⟨n, ar, ⟨k, t, kids, o⟩, cc, fs⟩ : De)]) := by
            refine ⟨A1, c1, ?_, ?_, ?_⟩
            · rw [List.length_append, HL.out]; exact g2
            · have := DcS.own2 (ds := ds ++ [(⟨n, ar, ⟨k, t, kids, o⟩, cc, fs⟩ : De)]) (by rw [List.length_append, HL.out]; rfl) g4 g5
              exact this
            · intro h
              rcases h with h | h
              · have := h.2; omega
              · exact g3 h
          have HFE : Hid (∀ Y, BH wc Y → RHier Y S p ds ∧ Y.heap[w.heap.size]? = some (.cells #[.string ⟨n.toArray⟩, .int .i64 ar, .int .i64 k, .string ⟨t.toArray⟩, .int .i64 o, .slice A kids.len c, .bool cc, .slice F M x] 37 (0, 0)) ∧ KS Y S kids A c ∧ FlS Y S fs F x ∧ BH w Y ∧ RHier Y (fun y => (S y ∧ y < X.heap.size) ∨ (Value.slice A1 (L + 1) c1).ownBlock = some y) gE (ds ++ [(⟨n, ar, ⟨k, t, kids, o⟩, cc, fs⟩ : De)])) := Lib.hid fun Y hY => by
            obtain ⟨a1, a2, a3, a4, a5⟩ := HFF.out Y (BH.trans HX.out.1 (BH.trans g6 hY))
            exact ⟨a1, a2, a3, a4, a5, hE1.bh hY⟩
          have hLb : L ≤ 1000 := by rw [← HL.out]; exact hlen
          have hLc : (ds ++ [(⟨n, ar, ⟨k, t, kids, o⟩, cc, fs⟩ : De)]).length ≤ 1048576 := by rw [List.length_append, HL.out]; simp; omega
          have HLc := Lib.hid hLc
          obtain ⟨kn, hkn⟩ : ∃ kn, ev1 (dcB ds) k t kids = kn := ⟨_, rfl⟩
          obtain ⟨_, ⟨hN, ht, hl, _⟩, hofs⟩ := HOk.out
          simp only at hN ht hl hofs
          have HKn : Hid (∀ Y, BH wc Y → Calls Tryz.prog 33 #[.pointer (some ⟨p, 0, none⟩), .agg #[.int .i64 k, .string ⟨t.toArray⟩, .int .i64 o, .slice A kids.len c]] Y fun e u => e = .returned (.bool kn) ∧ BH Y u) := Lib.hid fun Y hY => by
            rw [← hkn]
            exact rKnows_all S p ds (by omega) (fsize kids + 1) k o t kids A c Y (by omega) hN (HFE.out Y hY).2.2.1.kt ht hl (HFE.out Y hY).1
          have Hkn := Lib.hid hkn
          have HFF2 := Lib.hid hofs.2
          have HLk2 : Hid (∀ Y, BH wc Y → Calls Tryz.prog 27 #[.pointer (some ⟨p, 0, none⟩), .string ⟨t.toArray⟩] Y (LkP S ds t Y)) := Lib.hid fun Y hY => rLookup_any S p ds t Y (HFE.out Y hY).1 (by omega)
          obtain ⟨⟨r0, r1, r2, r3, r4, r5, r6, r7⟩, _⟩ := row8 (HFE.out wc (BH.refl _)).2.1
          clear g1 g2 g3 g4 g5 g6 hE1 hkn hN ht hl hofs hLc
          go_wp2_with (fail)
          refine (HKn.out _ (BH.refl _)).mono ?_
          rintro e u3 ⟨rfl, hb⟩
          have HB3 := Lib.hid hb
          clear hb r0 r1 r2 r3 r4 r5 r6 r7
          cases kn with
          | false =>
            go_wp2_with (fail)
            go_ret
            exact RDP.err (by rw [HE3.out, if_pos (by rw [Hkn.out]; rfl)]) (by decide) (HFE.out _ HB3.out).1 (HFE.out _ HB3.out).2.2.2.2.1
          | true =>
          have HE4 := Lib.hid (show declE ds ⟨n, ar, ⟨k, t, kids, o⟩, cc, fs⟩ = if kfB ds n ar fs = false then 5 else if concB ds t = true then 10 else 0 by rw [HE3.out, Hkn.out, Bool.true_and])
          obtain ⟨⟨r0, r1, r2, r3, r4, r5, r6, r7⟩, _⟩ := row8 (HFE.out u3 HB3.out).2.1
          go_wp2_with (fail)
          go_loopw [9] (fun iv wr => ∃ i : Nat, iv = .int .i64 (i : Int) ∧ i ≤ M ∧ Hid (BH wc wr ∧ kfB ds n ar fs = kfB ds n ar (fs.drop i))) (fun iv _ => M - (match iv with | .int _ n => n.toNat | _ => 0))
          case atStart => exact ⟨0, rfl, Nat.zero_le _, Lib.hid ⟨HB3.out, rfl⟩⟩
          case round =>
            obtain ⟨i, rfl, hiM, hR⟩ := hrel
            obtain ⟨x1, x2⟩ := hR.out
            clear r0 r1 r2 r3 r4 r5 r6 r7
            obtain ⟨⟨r0, r1, r2, r3, r4, r5, r6, r7⟩, _⟩ := row8 (HFE.out wr x1).2.1
            have hi1 : wrap64 ((i : Int) + 1) = (i : Int) + 1 := wrap64_in (by omega) (by omega)
            by_cases hlt : i < M
            · have hge : decide ((i : Int) < (M : Int)) = true := by rw [decide_eq_true_eq]; omega
              have hiL : (i : Int) < (M : Int) := by omega
              have hi0 : (0 : Int) ≤ (i : Int) := by omega
              obtain ⟨⟨n1, ⟨k1, t1, h1, j1⟩⟩, hy⟩ : ∃ f, fs[i]? = some f := ⟨_, List.getElem?_eq_getElem (by rw [HM.out]; exact hlt)⟩
              have hd : fs.drop i = (n1, ⟨k1, t1, h1, j1⟩) :: fs.drop (i + 1) := by
                obtain ⟨hl, he⟩ := List.getElem?_eq_some_iff.1 hy
                rw [List.drop_eq_getElem_cons hl, he]
              obtain ⟨hf1, hf2, hf3, hf4, hf5⟩ := HFF2.out _ (List.mem_of_getElem? hy)
              simp only at hf1 hf2 hf3 hf4 hf5
              obtain ⟨g, off, A2, c2, rfl, _, hg, p0, p1, p2, p3, p4, hk1⟩ := (HFE.out wr x1).2.2.2.1.at hy
              simp only at p0 p1 p2 p3 p4 hk1
              obtain ⟨z, hz⟩ : ∃ z, ev1 (xfB ds n ar) k1 t1 h1 = z := ⟨_, rfl⟩
              have hst : kfB ds n ar fs = (z && kfB ds n ar (fs.drop (i + 1))) := by rw [x2, hd, kfB, List.all_cons, ← hz]; rfl
              have hK2 := rKnows_all (fun y => (S y ∧ y < X.heap.size) ∨ (Value.slice A1 (L + 1) c1).ownBlock = some y) gE (ds ++ [(⟨n, ar, ⟨k, t, kids, o⟩, cc, fs⟩ : De)]) HLc.out (fsize h1 + 1) k1 j1 t1 h1 A2 c2 wr (by omega) hf2 hk1.kt hf3 hf4 (HFE.out wr x1).2.2.2.2.2
              rw [ev1_app (d := ⟨n, ar, ⟨k, t, kids, o⟩, cc, fs⟩) HNone.out, hz] at hK2
              have HK2 := Lib.hid hK2
              have HX1 := Lib.hid x1
              have HST := Lib.hid hst
              clear hd hf1 hf2 hf3 hf4 hf5 x1 x2 hg hk1 hz hst hK2 hR hy
              go_wp2_with (fail)
              refine HK2.out.mono ?_
              rintro e u4 ⟨rfl, hb⟩
              have HB4 := Lib.hid (BH.trans HX1.out hb)
              clear hb p0 p1 p2 p3 p4
              cases z with
              | false =>
                go_wp2_with (fail)
                go_ret
                exact RDP.err (by rw [HE4.out, if_pos (by rw [HST.out]; rfl)]) (by decide) (HFE.out _ HB4.out).1 (HFE.out _ HB4.out).2.2.2.2.1
              | true =>
                go_wp2_with (fail)
                exact ⟨⟨i + 1, rfl, by omega, Lib.hid ⟨HB4.out, by rw [HST.out]; rfl⟩⟩, by simp; omega⟩
            · have hge : decide ((i : Int) < (M : Int)) = false := by rw [decide_eq_false_iff_not]; omega
              have hge2 : decide (i < M) = false := by rw [decide_eq_false_iff_not]; omega
              have hie : i = M := by omega
              have hkf : kfB ds n ar fs = true := by
                rw [x2, List.drop_of_length_le (by rw [HM.out, hie]; exact Nat.le_refl _)]
                rfl
              have HE5 := Lib.hid (show declE ds ⟨n, ar, ⟨k, t, kids, o⟩, cc, fs⟩ = if concB ds t = true then 10 else 0 by rw [HE4.out, hkf]; rfl)
              have hL2 := HLk2.out wr x1
              have HL2 := Lib.hid hL2
              have HX1 := Lib.hid x1
              clear hkf hie x1 x2 hR hL2
              go_wp2_with (fail)
              refine HL2.out.mono ?_
              rintro e u4 ⟨hb, hor⟩
              have HB4 := Lib.hid (BH.trans HX1.out hb)
              clear hb r0 r1 r2 r3 r4 r5 r6 r7
              have hfin : Hid (∀ Y, BH wc Y → concB ds t = false → RDP S p ds ⟨n, ar, ⟨k, t, kids, o⟩, cc, fs⟩ w (.returned (.int .i64 0)) (Y.setCell ⟨p, 0, none⟩ (.slice A1 (L + 1) c1))) := Lib.hid fun Y hY hcf => by
                obtain ⟨g1, g2, g3, g4, g5, g6⟩ := hC.out
                have hz : declE ds ⟨n, ar, ⟨k, t, kids, o⟩, cc, fs⟩ = 0 := by rw [HE5.out, if_neg (by rw [hcf]; simp)]
                have hdd : declD ds ⟨n, ar, ⟨k, t, kids, o⟩, cc, fs⟩ = ds ++ [(⟨n, ar, ⟨k, t, kids, o⟩, cc, fs⟩ : De)] := by rw [declD, if_pos ⟨hz, HNone.out⟩]
                obtain ⟨⟨A9, c9, q9, _, q9n⟩, _, _, _, hbw, _⟩ := HFE.out Y hY
                have hnp : ∀ y, S y → y ≠ p := fun y hy e => q9n (e ▸ hy)
                refine ⟨by rw [hz], ?_, gb_setCell (g := p) (gb_below hbw _) (.inl rfl) _⟩
                rw [hdd]
                have h4 : Y.ownsRow X.heap.size 37 8 (.slice A1 (L + 1) c1) (L + 1) xs := own_bh g4 hY
                have h5 := DcS.own (ds := ds ++ [(⟨n, ar, ⟨k, t, kids, o⟩, cc, fs⟩ : De)]) (by rw [List.length_append, HL.out]; rfl) h4 (g5.bh hY)
                refine ⟨A1, c1, ?_, ?_, q9n⟩
                · have := heap_set (i := 0) q9 (.slice A1 (L + 1) c1)
                  rw [List.length_append, HL.out]
                  exact this
                · have hXw : w.heap.size ≤ X.heap.size := Below.size (HFF.out X HX.out.1).2.2.2.2
                  refine h5.keep (by simp [size_set]) fun y hy _ => ?_
                  have hSy : S y := hy.elim (fun h => h.1) fun h => HS.out y (by omega)
                  exact ⟨heap_far (p := ⟨p, 0, none⟩) (hnp y hSy) _, hSy⟩
              rcases hor with ⟨d2, A2, c2, F2, x2, hfd, rfl, _, _⟩ | ⟨hfd, rfl⟩
              · have hcb : concB ds t = d2.conc := by rw [concB, hfd]
                obtain ⟨n2, ar2, ⟨k2, t2, f2s, o2⟩, q2, fs2⟩ := d2
                simp only at hcb
                have fB := bh_alloc (BH.refl u4) (.cells #[.string ⟨n2.toArray⟩, .int .i64 ar2, .int .i64 k2, .string ⟨t2.toArray⟩, .int .i64 o2, .slice A2 f2s.len c2, .bool q2, .slice F2 fs2.length x2] 37)
                have eB := heap_alloc_new u4 (.cells #[.string ⟨n2.toArray⟩, .int .i64 ar2, .int .i64 k2, .string ⟨t2.toArray⟩, .int .i64 o2, .slice A2 f2s.len c2, .bool q2, .slice F2 fs2.length x2] 37)
                obtain ⟨⟨s0, s1, s2, s3, s4, s5, s6, s7⟩, _⟩ := row8 eB
                have HFB5 := Lib.hid (BH.trans HB4.out fB)
                have HCB := Lib.hid hcb
                clear fB eB hcb hfd
                cases q2 with
                | true =>
                  go_wp2_with (fail)
                  go_ret
                  exact RDP.err (by rw [HE5.out, if_pos HCB.out]) (by decide) (HFE.out _ HFB5.out).1 (HFE.out _ HFB5.out).2.2.2.2.1
                | false =>
                  obtain ⟨A9, c9, q9, _, _⟩ := (HFE.out _ HFB5.out).1
                  have b0 := cell_of_row _ p 0 _ _ _ q9
                  have y0 : (u4.alloc (.cells #[.string ⟨n2.toArray⟩, .int .i64 ar2, .int .i64 k2, .string ⟨t2.toArray⟩, .int .i64 o2, .slice A2 f2s.len c2, .bool false, .slice F2 fs2.length x2] 37)).frozen? ⟨p, 0, none⟩ = false := by simp [World.frozen?, q9]
                  obtain ⟨A8, c8, q8, _, _⟩ := (HFE.out _ HFB5.out).2.2.2.2.2
                  have q8' := (Below.block HFB5.out _ (heap_lt hC.out.2.1)).trans hC.out.2.1
                  have b1 := cell_of_row _ gE 0 _ _ _ q8'
                  clear q9 q8 q8'
                  have hf := hfin.out _ HFB5.out HCB.out
                  have HF9 := Lib.hid hf
                  clear hf
                  go_wp2_with (fail)
                  go_ret
                  exact HF9.out
              · have hcb : concB ds t = false := by rw [concB, hfd]
                have fB := bh_alloc (BH.refl u4) (.cells #[.string ⟨#[]⟩, .int .i64 0, .int .i64 0, .string ⟨#[]⟩, .int .i64 0, .slice none 0 0, .bool false, .slice none 0 0] 37)
                have HFB5 := Lib.hid (BH.trans HB4.out fB)
                have HCB := Lib.hid hcb
                clear fB hcb hfd
                obtain ⟨A9, c9, q9, _, _⟩ := (HFE.out _ HFB5.out).1
                have b0 := cell_of_row _ p 0 _ _ _ q9
                have y0 : (u4.alloc (.cells #[.string ⟨#[]⟩, .int .i64 0, .int .i64 0, .string ⟨#[]⟩, .int .i64 0, .slice none 0 0, .bool false, .slice none 0 0] 37)).frozen? ⟨p, 0, none⟩ = false := by simp [World.frozen?, q9]
                have q8' := (Below.block HFB5.out _ (heap_lt hC.out.2.1)).trans hC.out.2.1
                have b1 := cell_of_row _ gE 0 _ _ _ q8'
                clear q9 q8'
                have hf := hfin.out _ HFB5.out HCB.out
                have HF9 := Lib.hid hf
                clear hf
                go_wp2_with (fail)
                go_ret
                exact HF9.out
  · have t1 : (ce == 0) = false := by simpa using hc0
    have t2 : decide (ce = 0) = false := by simpa using hc0
    have t3 : (ce != 0) = true := by simp [bne, hc0]
    have HC0 := Lib.hid hc0
    clear hc0
    go_wp2_with (fail)
    go_ret
    have h := chE_err (ds := ds) (d := ⟨n, ar, ⟨k, t, kids, o⟩, cc, fs⟩) (by rw [Hce.out]; exact HC0.out)
    exact RDP.same (by rw [h.1, Hce.out]) h.2 (HFF.out _ HB.out).1 (HFF.out _ HB.out).2.2.2.2
end Go.Proofs.YtpkiheenkpcebaaGreatDoor

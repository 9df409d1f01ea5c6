/- tellaw1.spaced: a text of a node, with separators. No condition but that the node can be written and is small. -/
import Derived.Test.YtpflfbfbjmoggaaDoorLaw
import Derived.Test.YtpflfbfbjmoggaaDoorFmt
import Derived.Test.YtpflfbfbjmoggaaDoorTxn
set_option linter.unusedVariables false
set_option linter.unusedSimpArgs false
namespace Go.Proofs.YtpflfbfbjmoggaaDoor
open Go.RowKit Sx

/-- the stream and the table of separators -/
def SGen (W : World) (b : Nat) (a : Option Addr) (len cap : Nat) (zs : List Int) (P : List (List UInt8)) (gp op cp : Nat) : Prop := (∃ k, Strm W b a len cap zs k) ∧ Tab W b 0 6 P gp op cp

theorem SGen.below {W W' : World} {b : Nat} {a : Option Addr} {len cap : Nat} {zs : List Int} {P : List (List UInt8)} {gp op cp : Nat} (h : SGen W b a len cap zs P gp op cp) (hg : Below W.heap.size W W') : SGen W' b a len cap zs P gp op cp :=
  ⟨h.1.imp fun _ hk => hk.keep hg, h.2.below hg⟩
theorem HoldK.sgen {w1 W : World} {b : Nat} {a : Option Addr} {len cap : Nat} {zs : List Int} {k : Nat} {P : List (List UInt8)} {gp op cp : Nat} (h : HoldK w1 W b a len cap zs k) (hT : Tab w1 b 0 6 P gp op cp) : SGen W b a len cap zs P gp op cp := ⟨⟨k, h.st⟩, hT.keep h.gb⟩

def okP (P : List (List UInt8)) : Prop := ∀ u ∈ P, Sep u ∧ u ≠ [] ∧ u.length ≤ 6

def SpdPost (b : Nat) (a : Option Addr) (len cap : Nat) (zs : List Int) (P : List (List UInt8)) (gp op cp : Nat) (k : Int) (t : List UInt8) (kids : Fo) (w : World) (s : ByteArray) (w' : World) : Prop :=
  Elt k t kids s.data.toList ∧ s.size + 6 ≤ 64 * (fsize kids + 1) ∧ SGen w' b a len cap zs P gp op cp ∧ w.grownBy w' (some b)

theorem leaf_len {k o : Int} {t : List UInt8} {kids : Fo} (hv : vF (.one k t kids o)) (hk : ¬ k = 3) : (fmt1 k t (fmtF false kids)).length ≤ 50 := by
  rcases hv.1 with ⟨rfl, rfl, hw⟩ | ⟨rfl, rfl, hs⟩ | ⟨rfl, rfl, h⟩
  · have := okW_len hw
    simp only [fmt1, if_true]; omega
  · have := okS_len hs
    have := escT_len t
    simp only [fmt1, quoteB, show ¬ ((2 : Int) = 1) from by decide, if_false, if_true, List.length_cons, List.length_append, List.length_nil]; omega
  · exact absurd rfl hk

theorem fsize_app (f g : Fo) : fsize (f.app g) = fsize f + fsize g := by
  induction f with
  | nil => simp [Fo.app, fsize]
  | cons k t kids o r _ ih => simp only [Fo.app, fsize, ih]; omega
theorem fsize_one (k o : Int) (t : List UInt8) (kids : Fo) : fsize (.one k t kids o) = fsize kids + 1 := by simp [Fo.one, fsize]

/-- at a round's head -/
structure SRnd (w wr : World) (b : Nat) (a : Option Addr) (len cap : Nat) (zs : List Int) (P : List (List UInt8)) (gp op cp : Nat) (o : Int) (vk : Value) (acc : Fo) (s : ByteArray) : Prop where
  gen : SGen wr b a len cap zs P gp op cp
  gb : w.grownBy wr (some b)
  blk : wr.heap[w.heap.size]? = some (.cells #[.int .i64 3, .string ⟨#[]⟩, vk, .int .i64 o] 39 (0, 0))
  txt : ∃ z, s.data.toList = 40 :: z ∧ TxtE false acc z
  len_ : s.size ≤ 1 + 64 * fsize acc
  lt : w.heap.size < wr.heap.size

set_option maxHeartbeats 8000000 in
set_option maxRecDepth 100000 in
theorem spaced_any (b : Nat) (a : Option Addr) (len cap : Nat) (zs : List Int) (P : List (List UInt8)) (hP : okP P) (gp op cp : Nat) (N : Nat) : ∀ (k o : Int) (t : List UInt8) (kids : Fo) (A : Option Addr) (c : Nat) (ys : List Value) (S : Nat → Prop) (w : World), fsize kids ≤ N → fsize kids ≤ 3125 → kids.len ≤ c → readsAt w S A kids.len ys → rowOf w S kids ys → (∀ x, S x → x ≠ b) →
    vF (.one k t kids o) → SGen w b a len cap zs P gp op cp →
    Calls Tryd.prog 32 #[.pointer (some ⟨b, 0, none⟩), .agg #[.int .i64 k, .string ⟨t.toArray⟩, .slice A kids.len c, .int .i64 o]] w fun e w' => ∃ s, e = .returned (.string s) ∧ SpdPost b a len cap zs P gp op cp k t kids w s w' := by
  induction N using Nat.strongRecOn with
  | ind N ih =>
  intro k o t kids A c ys S w hN hN2 hc hra hxa hSb hv hG
  have IH := Lib.hid ih
  have HP := Lib.hid hP
  clear ih hP
  have hb : b < w.heap.size := by obtain ⟨k0, h⟩ := hG.1; exact h.lt
  by_cases hk3 : ¬ k = 3
  · have hl := leaf_len hv hk3
    have hel := Lib.hid (elt_of_v hv hk3)
    have hbx := heap_alloc_new w (.cells #[.int .i64 k, .string ⟨t.toArray⟩, .slice A kids.len c, .int .i64 o] 39 (0, 0))
    obtain ⟨b0, b1, b2, b3, z0, z1, z2, z3⟩ := row4 hbx
    have B1 : Below w.heap.size w (w.alloc (.cells #[.int .i64 k, .string ⟨t.toArray⟩, .slice A kids.len c, .int .i64 o] 39 (0, 0))) := (Below.refl _ _).alloc (Nat.le_refl _) _
    have hB1 := Lib.hid B1
    have hra' := Lib.hid (hra.keep (S' := S) B1.size fun x hx hl => ⟨B1.block x hl, hx⟩)
    have hxa' := Lib.hid (hxa.keep (S' := S) B1.size (fun x hx hl => ⟨B1.block x hl, hx⟩) _)
    have HGG := Lib.hid hG
    clear hra hxa B1 hG hbx
    have hne : (k != 3) = true := by simp [hk3]
    go_enter Tryd.func32, Tryd.ntmps32
    go_wp2_with (fail)
    refine (format_any _ k o t kids A c ys S _ (Nat.le_refl _) (by omega) hc hra'.out hxa'.out (by omega)).mono ?_
    rintro e w1 ⟨rfl, hb1⟩
    go_wp2_with (fail)
    go_ret
    have hbel := hB1.out.trans (hb1.mono (by simp))
    refine ⟨_, rfl, hel.out, ?_, HGG.out.below hbel, gb_below hbel _⟩
    have : (ByteArray.mk (fmt1 k t (fmtF false kids)).toArray).size = (fmt1 k t (fmtF false kids)).length := by show (fmt1 k t (fmtF false kids)).toArray.size = _; simp
    omega
  obtain rfl : k = 3 := Decidable.not_not.1 hk3
  clear hk3
  have hvk : t = [] ∧ vF kids := by
    rcases hv.1 with ⟨h, _⟩ | ⟨h, _⟩ | ⟨_, h1, h2⟩
    · exact absurd h (by decide)
    · exact absurd h (by decide)
    · exact ⟨h1, h2⟩
  obtain ⟨rfl, hvk⟩ := hvk
  have HV := Lib.hid hvk
  have hrow := rowAt_start hra hxa
  have hlen := len_le_fsize kids
  obtain ⟨L, hLL⟩ : ∃ L, kids.len = L := ⟨_, rfl⟩
  have hA : 0 < L → ∃ g off : Nat, A = some ⟨g, off, none⟩ ∧ g < w.heap.size ∧ g ≠ b := fun h => by rw [← hLL] at h; obtain ⟨g, off, h, hS, hl, _⟩ := hra h; exact ⟨g, off, h, hl, hSb g hS⟩
  clear hra hv hvk
  rw [hLL] at hc ⊢
  have HL := Lib.hid hLL
  have HX := Lib.hid hxa
  have HR := Lib.hid hrow
  have HSb := Lib.hid hSb
  clear hxa hrow hSb
  have hlen' : L ≤ fsize kids := by have := HL.out; omega
  clear hlen hLL
  have hbx := heap_alloc_new w (.cells #[.int .i64 3, .string ⟨#[]⟩, .slice A L c, .int .i64 o] 39 (0, 0))
  have B1 : Below w.heap.size w (w.alloc (.cells #[.int .i64 3, .string ⟨#[]⟩, .slice A L c, .int .i64 o] 39 (0, 0))) := (Below.refl _ _).alloc (Nat.le_refl _) _
  have H0 : SRnd w (w.alloc (.cells #[.int .i64 3, .string ⟨#[]⟩, .slice A L c, .int .i64 o] 39 (0, 0))) b a len cap zs P gp op cp o (.slice A L c) .nil ⟨#[40]⟩ :=
    ⟨hG.below B1, gb_below B1 _, hbx, ⟨[], rfl, rfl⟩, Nat.le_refl _, by simp⟩
  have HH0 := Lib.hid H0
  obtain ⟨b0, b1, b2, b3, z0, z1, z2, z3⟩ := row4 hbx
  clear H0 B1 hbx hG
  go_enter Tryd.func32, Tryd.ntmps32
  go_wp2_with (fail)
  go_loopw [5, 6] (fun sv iv wr => ∃ (s : ByteArray) (acc r : Fo) (xs : List Value), sv = .string s ∧ iv = .int .i64 (acc.len : Int) ∧ acc.len + r.len = L ∧ acc.app r = kids ∧ vF r ∧ fsize acc + fsize r = fsize kids ∧ rowOf w S r xs ∧ rowAt w A acc.len xs ∧ SRnd w wr b a len cap zs P gp op cp o (.slice A L c) acc s) (fun _ iv _ => L - (match iv with | .int _ n => n.toNat | _ => 0))
  case atStart => exact ⟨_, .nil, kids, ys, rfl, rfl, by rw [HL.out]; simp [Fo.len], rfl, HV.out, by simp [fsize], HX.out, HR.out, HH0.out⟩
  case round =>
    obtain ⟨s, acc, r, xs, rfl, rfl, hir, happ, hvr, hsz, hx, hcx, hR⟩ := hrel
    clear b0 b1 b2 b3 z0 z1 z2 z3
    have happ' := Lib.hid happ
    have hRH := Lib.hid hR
    have hsn := hR.len_
    clear happ hR
    have hss : (s.size : Int) ≤ 8388608 := by omega
    obtain ⟨⟨k0, hst⟩, hT⟩ := hRH.out.gen
    obtain ⟨q10, q11⟩ := nxt_bounds len zs k0 6 (by decide)
    have HC1 := fun W0 (h : HoldK wr W0 b a len cap zs k0) => next_hold 6 h (by decide) (by decide)
    have hH0 : HoldK wr wr.drew b a len cap zs k0 := ⟨hst.drew, gb_drew (World.grownBy.refl _ _), rfl⟩
    generalize nk len k0 = k1 at HC1
    generalize nxt len zs k0 6 = v1 at q10 q11 HC1
    obtain ⟨n1, rfl⟩ := Int.eq_ofNat_of_zero_le q10
    obtain ⟨sp, hsp, hcs⟩ := hT.row n1 (by omega)
    obtain ⟨hsep, hsne, hsl⟩ := HP.out sp hsp
    have hsep' := Lib.hid hsep
    have hsne' := Lib.hid hsne
    have hh := hT.head
    have l1 := hT.vlt
    have l2 := hT.glt
    have g1 := hT.vb
    have g2 := hT.gb
    have H1 := Lib.hid HC1
    have HH1 := Lib.hid hH0
    have HT := Lib.hid hT
    clear HC1 hT hst hH0 hsep hsne hsp
    have hspz : (ByteArray.mk sp.toArray).size = sp.length := by show sp.toArray.size = _; simp
    have hspz' : ((ByteArray.mk sp.toArray).size : Int) ≤ 8388608 := by omega
    obtain ⟨b0, b1, b2, b3, z0, z1, z2, z3⟩ := row4 hRH.out.blk
    have hbl := hRH.out.lt
    have hbne : w.heap.size ≠ b := by omega
    cases r with
    | nil =>
      simp only [Fo.len, fsize] at hir hsz
      have tlt : decide (acc.len < L) = false := by simp; omega
      have Hir := Lib.hid hir
      clear hir
      have hs4 : ((s ++ ByteArray.mk sp.toArray).size : Int) ≤ 8388608 := by rw [ByteArray.size_append]; omega
      have hs5 : ((ByteArray.mk #[41]).size : Int) ≤ 8388608 := by decide
      have hs6 : ¬ 9223372036854775807 < s.size + sp.length := by omega
      have hs7 : ¬ 9223372036854775807 < s.size + sp.length + 1 := by omega
      go_wp2_with (fail)
      go_region_held3 (fun w' => w'.cell? ⟨0, 0, none⟩ = some (.slice (some ⟨gp, op, none⟩) 6 cp) ∧ w'.cell? ⟨gp, op + n1, none⟩ = some (.string ⟨sp.toArray⟩)) (go_keep)
        ((go_at_call 56; refine (H1.out _ HH1.out).mono ?_; rintro e u1 ⟨rfl, hO⟩; have HO1 := Lib.hid hO; have p1 := hO.cell hh (by exact l1) (by exact g1); have p2 := hO.cell hcs (by exact l2) (by exact g2); clear hO))
      go_wp2_with (fail)
      go_ret
      obtain ⟨z, hz1, hz2⟩ := hRH.out.txt
      have hk : acc = kids := by have := happ'.out; rw [Fo.app_nil] at this; exact this
      refine ⟨_, rfl, .inr (.inr ⟨rfl, rfl, z ++ sp, ?_, by rw [← hk]; exact hz2.close _ _ _ _ hsep'.out⟩), ?_, HO1.out.sgen HT.out, gb_trans hRH.out.gb HO1.out.gb⟩
      · simp [hz1]
      · simp only [ByteArray.size_append]
        have : (ByteArray.mk #[41]).size = 1 := rfl
        omega
    | cons k1' t1 kids1 o1 r1 =>
      obtain ⟨A1, c1, ys1, zs1, rfl, hc1, hr1, hk1, hrest1⟩ := hx
      simp only [Fo.len, fsize] at hir hsz
      obtain ⟨g, off, rfl, hgl, hgb⟩ := hA (by omega)
      have tlt : decide ((acc.len : Int) < (L : Int)) = true := by simp; omega
      have hgw := hRH.out.gb
      have a0 := (World.cell?_of_block (a := ⟨g, off + acc.len * 4 + 0, none⟩) (hgw.block g hgl (by simp; exact hgb))).trans (hcx g off rfl 0 _ rfl)
      have a1 := (World.cell?_of_block (a := ⟨g, off + acc.len * 4 + 1, none⟩) (hgw.block g hgl (by simp; exact hgb))).trans (hcx g off rfl 1 _ rfl)
      have a2 := (World.cell?_of_block (a := ⟨g, off + acc.len * 4 + 2, none⟩) (hgw.block g hgl (by simp; exact hgb))).trans (hcx g off rfl 2 _ rfl)
      have a3 := (World.cell?_of_block (a := ⟨g, off + acc.len * 4 + 3, none⟩) (hgw.block g hgl (by simp; exact hgb))).trans (hcx g off rfl 3 _ rfl)
      simp only [Nat.add_zero] at a0
      have hiL : (acc.len : Int) < (L : Int) := by omega
      have hi0 : (0 : Int) ≤ (acc.len : Int) := by omega
      have hv1 : vF (.one k1' t1 kids1 o1) := ⟨hvr.1, trivial⟩
      have hvr2 := Lib.hid hvr.2
      have hcall : ∀ u1, HoldK wr u1 b a len cap zs k1 → Calls Tryd.prog 32 #[.pointer (some ⟨b, 0, none⟩), .agg #[.int .i64 k1', .string ⟨t1.toArray⟩, .slice A1 kids1.len c1, .int .i64 o1]] u1 fun e u2 => ∃ s1 : ByteArray, e = .returned (.string s1) ∧ ¬ 9223372036854775807 < sp.length + s1.size ∧ ¬ 9223372036854775807 < s.size + (sp.length + s1.size) ∧
          u2.cell? ⟨0, 0, none⟩ = some (.slice (some ⟨gp, op, none⟩) 6 cp) ∧ u2.cell? ⟨gp, op + n1, none⟩ = some (.string ⟨sp.toArray⟩) ∧ u2.cell? ⟨w.heap.size, 2, none⟩ = some (.slice (some ⟨g, off, none⟩) L c) ∧
          u2.cell? ⟨g, off + acc.len * 4, none⟩ = some (.int .i64 k1') ∧ u2.cell? ⟨g, off + acc.len * 4 + 1, none⟩ = some (.string ⟨t1.toArray⟩) ∧ u2.cell? ⟨g, off + acc.len * 4 + 2, none⟩ = some (.slice A1 kids1.len c1) ∧ u2.cell? ⟨g, off + acc.len * 4 + 3, none⟩ = some (.int .i64 o1) ∧
          Elt k1' t1 kids1 s1.data.toList ∧ s1.size + 6 ≤ 64 * (fsize kids1 + 1) ∧ SGen u2 b a len cap zs P gp op cp ∧ wr.grownBy u2 (some b) := by
        intro u1 hO
        have hgu : w.grownBy u1 (some b) := gb_trans hgw hO.gb
        have hkp : ∀ x, S x → x < w.heap.size → u1.heap[x]? = w.heap[x]? ∧ S x := fun x hx hl => ⟨hgu.block x hl (by simp; exact HSb.out x hx), hx⟩
        refine (IH.out (fsize kids1) (by omega) k1' o1 t1 kids1 A1 c1 ys1 S u1 (Nat.le_refl _) (by omega) hc1 (hr1.keep hgu.size hkp) (hk1.keep hgu.size hkp _) HSb.out hv1 (hO.sgen HT.out)).mono ?_
        rintro e u2 ⟨s1, rfl, hel, hsz1, hG2, hg2⟩
        have hgr : wr.grownBy u2 (some b) := gb_trans hO.gb hg2
        have hglr : g < wr.heap.size := Nat.lt_of_lt_of_le hgl hgw.size
        have cel : ∀ (p : Addr) (v : Value), wr.cell? p = some v → p.block < wr.heap.size → p.block ≠ b → u2.cell? p = some v := fun p v hp hl hne => (World.cell?_of_block (hgr.block _ hl (by simp; exact hne))).trans hp
        refine ⟨s1, rfl, by omega, by omega, cel _ _ hh l1 g1, cel _ _ hcs l2 g2, cel _ _ b2 hbl hbne, cel _ _ a0 hglr hgb, cel _ _ a1 hglr hgb, cel _ _ a2 hglr hgb, cel _ _ a3 hglr hgb, hel, hsz1, hG2, hgr⟩
      have HC2 := Lib.hid hcall
      have hglr : g < wr.heap.size := Nat.lt_of_lt_of_le hgl hgw.size
      clear hcall hvr hv1
      have Hir := Lib.hid hir
      have Hsz := Lib.hid hsz
      clear hir hsz
      go_wp2_with (fail)
      go_region_held3 (fun w' => w'.cell? ⟨0, 0, none⟩ = some (.slice (some ⟨gp, op, none⟩) 6 cp) ∧ w'.cell? ⟨gp, op + n1, none⟩ = some (.string ⟨sp.toArray⟩) ∧ w'.cell? ⟨w.heap.size, 2, none⟩ = some (.slice (some ⟨g, off, none⟩) L c) ∧
          w'.cell? ⟨g, off + acc.len * 4, none⟩ = some (.int .i64 k1') ∧ w'.cell? ⟨g, off + acc.len * 4 + 1, none⟩ = some (.string ⟨t1.toArray⟩) ∧ w'.cell? ⟨g, off + acc.len * 4 + 2, none⟩ = some (.slice A1 kids1.len c1) ∧ w'.cell? ⟨g, off + acc.len * 4 + 3, none⟩ = some (.int .i64 o1)) (go_keep)
        (first
          | (go_at_call 56; refine (H1.out _ HH1.out).mono ?_; rintro e u1 ⟨rfl, hO⟩; have HO1 := Lib.hid hO; have p1 := hO.cell hh (by exact l1) (by exact g1); have p2 := hO.cell hcs (by exact l2) (by exact g2); have p3 := hO.cell b2 (by exact hbl) (by exact hbne); have p4 := hO.cell a0 (by exact hglr) (by exact hgb); have p5 := hO.cell a1 (by exact hglr) (by exact hgb); have p6 := hO.cell a2 (by exact hglr) (by exact hgb); have p7 := hO.cell a3 (by exact hglr) (by exact hgb); clear hO)
          | (go_at_call 32; refine (HC2.out _ HO1.out).mono ?_; rintro e u2 ⟨s1, rfl, y1, y2, x1, x2, x3, x4, x5, x6, x7, hel, hsz1, hG2, hgr⟩; have Hel := Lib.hid hel; have HG2 := Lib.hid hG2; have HGR := Lib.hid hgr; clear hel hG2 hgr))
      go_wp2_with (fail)
      obtain ⟨z, hz1, hz2⟩ := hRH.out.txt
      have hir := Hir.out
      have hsz := Hsz.out
      refine ⟨⟨_, acc.app (.one k1' t1 kids1 o1), r1, zs1, rfl, by simp [Fo.len_app, Fo.one, Fo.len], by simp only [Fo.len_app, Fo.one, Fo.len]; omega, by rw [Fo.app_app]; exact happ'.out, hvr2.out, by rw [fsize_app, fsize_one]; omega, hrest1, by simp only [Fo.len_app, Fo.one, Fo.len]; exact rowAt_next hcx,
        ⟨HG2.out, gb_trans hgw HGR.out, (HGR.out.block _ hbl (by simp; exact hbne)).trans hRH.out.blk, ⟨z ++ (sp ++ s1.data.toList), by simp [hz1], hz2.snoc _ _ _ _ _ _ _ _ _ hsep'.out hsne'.out Hel.out⟩, ?_, Nat.lt_of_lt_of_le hbl HGR.out.size⟩⟩, by simp; omega⟩
      simp only [ByteArray.size_append, fsize_app, fsize_one]
      omega
end Go.Proofs.YtpflfbfbjmoggaaDoor

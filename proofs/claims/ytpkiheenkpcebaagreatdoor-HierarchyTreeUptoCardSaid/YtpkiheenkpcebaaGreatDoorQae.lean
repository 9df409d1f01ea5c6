/- telmake.Extra. No condition but what it reads. -/
import Derived.Test.YtpkiheenkpcebaaGreatDoorQad
set_option linter.unusedVariables false
set_option linter.unusedSimpArgs false
namespace Go.Proofs.YtpkiheenkpcebaaGreatDoor
open Go.RowKit Sx

theorem XR.of {w0 w1 wr W W' : World} {X : XG} {kr m : Nat} {v1 v : Value} {ds : List De} {xs : List Value} (B : XB w0 X) (h : XR w0 w1 wr X kr v1 v ds xs) (hm : XR w0 w1 W X m v1 v ds xs) (hg : wr.grownBy W' (some X.b)) (hb : W'.heap[X.b]? = W.heap[X.b]?) : XR w0 w1 W' X m v1 v ds xs := by
  have hB := below_gb_of h.bw hg B.hb
  exact h.gb B hg ⟨hb.trans hm.st.1, B.ints.keep hB.size (fun g off _ hl => hB.block g hl), hm.st.2.2⟩

theorem XR.dcb {w0 w1 w : World} {X : XG} {k : Nat} {v1 : Value} {ds : List De} {xs : List Value} {A : Option Addr} {c : Nat} (h : XR w0 w1 w X k v1 (.slice A ds.length c) ds xs) : DcS w (fun x => x ≠ X.b ∧ x < w.heap.size) ds A c :=
  (DcS.own2 rfl h.own h.row).keep (Nat.le_refl _) fun x hx hl => ⟨rfl, (hx.elim (fun q => q.1) fun q e => h.nb (by rw [q, e])), hl⟩
theorem XR.push {w0 w1 w w5 : World} {X : XG} {k : Nat} {v1 v v' : Value} {ds : List De} {xs : List Value} {ob : Obj} {d : De} {A F : Option Addr} {c x : Nat} (B : XB w0 X) (h : XR w0 w1 w X k v1 v ds xs) (hK : KS w (fun y => y ≠ X.b ∧ v.ownBlock ≠ some y) d.super.kids A c) (hF : FlS w (fun y => y ≠ X.b ∧ v.ownBlock ≠ some y) d.fields F x)
    (ho : w5.ownsRow w0.heap.size 37 8 v' (ds.length + 1) (xs ++ eight d A c F x)) (hg : (w.alloc ob).grownBy w5 v.ownBlock) (ha : v'.ownBlock = v.ownBlock ∨ v'.ownBlock = some (w.alloc ob).heap.size) : XR w0 w1 w5 X k v1 v' (ds ++ [d]) (xs ++ eight d A c F x) := by
  have hA : BH w (w.alloc ob) := bh_alloc (BH.refl w) ob
  have h' := h.bh B hA
  have hbl := h'.st.lt
  have hB : Below w0.heap.size w0 w5 := below_own h'.bw h'.own hg
  refine ⟨hB, ⟨(hg.block X.b hbl (fun e => h.nb e.symm)).trans h'.st.1, B.ints.keep hB.size (fun g off _ hl => hB.block g hl), h'.st.2.2⟩, by rw [List.length_append]; exact ho, ?_, ?_, h'.kh.trans ⟨hg.os, hg.tape, hg.output, hg.size, fun y hy _ _ hv => hg.block y hy (fun e => hv e.symm), ?_⟩⟩
  · have hk : ∀ y, (y ≠ X.b ∧ v.ownBlock ≠ some y) → y < (w.alloc ob).heap.size → w5.heap[y]? = (w.alloc ob).heap[y]? ∧ (y ≠ X.b ∧ v'.ownBlock ≠ some y) := fun y hy hl => ⟨hg.block y hl (fun e => hy.2 e.symm), hy.1, fun e => by
      rcases ha with h1 | h1
      · exact hy.2 (h1.symm.trans e)
      · have e' : (w.alloc ob).heap.size = y := Option.some.inj (h1.symm.trans e); omega⟩
    exact DX.app (DX.single ((hK.bh hA).keep hg.size hk) ((hF.bh hA).keep hg.size hk)) _ _ (DX.keep hg.size hk _ _ h'.row)
  · intro e
    rcases ha with h1 | h1
    · exact h.nb (h1.symm.trans e)
    · have e' : (w.alloc ob).heap.size = X.b := Option.some.inj (h1.symm.trans e); omega
  · rcases ha with h1 | h1
    · exact .inl h1
    · exact .inr ⟨_, Nat.le_refl _, h1⟩

theorem fls1 {W : World} {S : Nat → Prop} {n : List UInt8} {x : Tm} {A : Option Addr} {c g0 : Nat} {e : TypeId} (hb : W.heap[g0]? = some (.cells #[.string ⟨n.toArray⟩, .int .i64 x.k, .string ⟨x.t.toArray⟩, .int .i64 x.o, .slice A x.kids.len c] e (0, 0))) (hS : S g0) (hk : KS W S x.kids A c) : FlS W S [(n, x)] (some ⟨g0, 0, none⟩) 1 :=
  ⟨Nat.le_refl _, five n x A c, fun _ => ⟨g0, 0, rfl, hS, heap_lt hb, fun j u hu => by rw [Nat.zero_add, cell_of_row _ _ j _ _ _ hb]; simpa [five] using hu⟩, FX.single hk⟩

/-- between two appends to the arguments of the super in box g -/
structure X8 (w0 w1 wq w7 wl : World) (X : XG) (v1 v : Value) (ds : List De) (xs : List Value) (g : Nat) (nm : List UInt8) (ar : Nat) (an : List UInt8) (cc : Bool) (k5 kq : Nat) (sv : Value) (acc : Fo) (ys : List Value) : Prop where
  blk : wl.heap[g]? = some (.cells #[.string ⟨nm.toArray⟩, .int .i64 (ar : Int), .int .i64 2, .string ⟨an.toArray⟩, .int .i64 0, sv, .bool cc, .slice none 0 0] 37 (0, 0))
  own : wl.ownsRow w7.heap.size 34 4 sv acc.len ys
  row : rowT wl (fun y => w7.heap.size ≤ y ∧ sv.ownBlock ≠ some y) acc ys
  xr : XR w0 w1 wl X kq v1 v ds xs
  gb : wq.grownBy wl (some X.b)
  old : ∀ y, y < w7.heap.size → y ≠ g → y ≠ X.b → wl.heap[y]? = w7.heap[y]?
  size : w7.heap.size ≤ wl.heap.size
  hk : k5 ≤ kq
  fs : fsize acc ≤ 4 * acc.len
  lg : lenG acc
  cl : closedL 0 0 (ar : Int) acc = true
  ab : argB acc
  hg : wq.heap.size ≤ g ∧ g < w7.heap.size ∧ X.b < wq.heap.size
section
variable {w0 w1 wq w7 wl w4 : World} {X : XG} {v1 v : Value} {ds : List De} {xs : List Value} {g : Nat} {nm : List UInt8} {ar : Nat} {an : List UInt8} {cc : Bool} {k5 kq k4 : Nat} {sv : Value} {acc : Fo} {ys : List Value}
theorem X8.after (h : X8 w0 w1 wq w7 wl X v1 v ds xs g nm ar an cc k5 kq sv acc ys) (hg : wl.grownBy w4 (some X.b)) (hX : XR w0 w1 w4 X k4 v1 v ds xs) (hk : kq ≤ k4) : X8 w0 w1 wq w7 w4 X v1 v ds xs g nm ar an cc k5 k4 sv acc ys := by
  obtain ⟨g1, g2, g3⟩ := h.hg
  have hs := h.size
  refine ⟨(hg.block g (heap_lt h.blk) (by simp; omega)).trans h.blk, h.own.kept hg ?_, h.row.keep hg.size (fun y hy hl => ⟨hg.block y hl (by simp; have := hy.1; omega), hy⟩) _, hX, gb_trans h.gb hg, fun y hy h1 h2 => (hg.block y (by omega) (by simp; exact h2)).trans (h.old y hy h1 h2), Nat.le_trans hs hg.size, Nat.le_trans h.hk hk, by have := h.fs; omega, h.lg, h.cl, h.ab, h.hg⟩
  cases hv : sv.ownBlock with
  | none => exact .inl rfl
  | some x => exact .inr (by have := (h.own.lt x hv).1; simp; omega)
theorem X8.drew (B : XB w0 X) (h : X8 w0 w1 wq w7 wl X v1 v ds xs g nm ar an cc k5 kq sv acc ys) : X8 w0 w1 wq w7 wl.drew X v1 v ds xs g nm ar an cc k5 kq sv acc ys := h.after (gb_drew (World.grownBy.refl _ _)) (h.xr.drew B) (Nat.le_refl _)
theorem X8.alloc (h : X8 w0 w1 wq w7 wl X v1 v ds xs g nm ar an cc k5 kq sv acc ys) (ob : Obj) : (wl.alloc ob).heap[g]? = some (.cells #[.string ⟨nm.toArray⟩, .int .i64 (ar : Int), .int .i64 2, .string ⟨an.toArray⟩, .int .i64 0, sv, .bool cc, .slice none 0 0] 37 (0, 0)) :=
  (Below.heap_alloc wl ob _ (heap_lt h.blk)).trans h.blk
theorem X8.boxed (h : X8 w0 w1 wq w7 wl X v1 v ds xs g nm ar an cc k5 kq sv acc ys) {ob : Obj} {w5 : World} (hg : (wl.alloc ob).grownBy w5 sv.ownBlock) : w5.heap[g]? = some (.cells #[.string ⟨nm.toArray⟩, .int .i64 (ar : Int), .int .i64 2, .string ⟨an.toArray⟩, .int .i64 0, sv, .bool cc, .slice none 0 0] 37 (0, 0)) := by
  obtain ⟨g1, g2, g3⟩ := h.hg
  have hs := h.size
  refine (hg.block _ (by simp; omega) ?_).trans (h.alloc ob)
  intro e
  have := (h.own.lt _ e.symm).1
  omega
theorem X8.push (B : XB w0 X) {kr : Nat} (hQ : XR w0 w1 wq X kr v1 v ds xs) (h0 : X8 w0 w1 wq w7 wl X v1 v ds xs g nm ar an cc k5 kq sv acc ys) (hg4 : wl.grownBy w4 (some X.b)) (hX : XR w0 w1 w4 X k4 v1 v ds xs) (hk4 : kq ≤ k4)
    {q1 o1 : Int} {t1 : List UInt8} {kids : Fo} {A : Option Addr} {c : Nat} (hK : KS w4 (fun x => wl.heap.size ≤ x) kids A c) (hlg : lenG (.one q1 t1 kids o1)) (hcl : closed1 q1 o1 kids (ar : Int) = true) (hfs : fsize kids ≤ 3)
    {ob : Obj} {w5 : World} {v' : Value} (hg : (w4.alloc ob).grownBy w5 sv.ownBlock) (hat : v'.ownBlock = sv.ownBlock ∨ v'.ownBlock = some (w4.heap.size + 1))
    (hown : w5.ownsRow w7.heap.size 34 4 v' (acc.len + 1) (ys ++ [.int .i64 q1, .string ⟨t1.toArray⟩, .int .i64 o1, .slice A kids.len c])) :
    X8 w0 w1 wq w7 (w5.setCell ⟨g, 5, none⟩ v') X v1 v ds xs g nm ar an cc k5 k4 v' (acc.app (.one q1 t1 kids o1)) (ys ++ [.int .i64 q1, .string ⟨t1.toArray⟩, .int .i64 o1, .slice A kids.len c]) := by
  have h := h0.after hg4 hX hk4
  obtain ⟨g1, g2, g3⟩ := h.hg
  obtain ⟨hc, zs, hr, hk⟩ := hK
  have hs4 := h.size
  have hs5 := hg.size
  have hs5' : (w4.alloc ob).heap.size = w4.heap.size + 1 := by simp
  have hM5 := h.boxed hg
  have hne : ∀ x, x < w7.heap.size → some x ≠ sv.ownBlock := fun x hx e => by have := (h.own.lt x e.symm).1; omega
  have hgg : ∀ x, v'.ownBlock = some x → w7.heap.size ≤ x := fun x hx => (hown.lt x hx).1
  have hrow5 := push_rowT (w := w7) (b := X.b) h0.own h0.row (by omega) h0.size hg4 hc hr hk (o := o1) (k := q1) (t := t1) hg hat
  have hkeep : ∀ x, x < w7.heap.size → x ≠ g → (w5.setCell ⟨g, 5, none⟩ v').heap[x]? = w4.heap[x]? := fun x hx hxM =>
    (heap_far (p := ⟨g, 5, none⟩) hxM _).trans ((hg.block x (by omega) (hne x hx)).trans (Below.heap_alloc w4 ob x (by omega)))
  have hgb : wq.grownBy (w5.setCell ⟨g, 5, none⟩ v') (some X.b) := gb_setCell (gb_new (gb_alloc h.gb ob) hg (fun x e => by have := (h.own.lt x e).1; omega)) (.inr g1) _
  refine ⟨heap_set (i := 5) hM5 v', ?_, ?_, hQ.of B hX hgb (hkeep X.b (by omega) (by omega)), hgb, fun y hy h1 h2 => (hkeep y hy h1).trans (h.old y hy h1 h2), by simp [size_set]; omega, h.hk, ?_, lenG_app _ _ h.lg hlg, ?_, argB_app h.ab hfs, h.hg⟩
  · rw [Fo.len_app]
    refine hown.kept (row := some g) (gb_setCell (World.grownBy.refl _ _) (.inl rfl) _) ?_
    cases hv : v'.ownBlock with
    | none => exact .inl rfl
    | some x => exact .inr (by have := hgg x hv; simp; omega)
  · exact hrow5.keep (by simp [size_set]) (fun x hx hl => ⟨heap_far (p := ⟨g, 5, none⟩) (show x ≠ g from by have : w7.heap.size ≤ x := hx.1; omega) _, hx⟩) _
  · rw [fsize_app, Fo.len_app]
    have := h0.fs
    have := h0.hk
    simp only [Fo.one, fsize, Fo.len]
    omega
  · rw [closedL_app, h.cl, closed1_one hcl]
    rfl
end

theorem okX_named {L : Nat} {V : Int} {an : List UInt8} {acc : Fo} (hn : an.length ≤ 1000) (hf : fsize acc ≤ 12) (hl : lenG acc) (hc : closedL 0 0 V acc = true) (ha : argB acc) : okX L V ⟨2, an, acc, 0⟩ :=
  ⟨hf, ⟨⟨Nat.le_trans hn (by decide), bar_ne (k := 2) (by decide)⟩, hl, trivial⟩, closed1_kids (k := 2) (by decide) (by decide) hc, ha⟩

def zeroD : Array Value := #[.string ⟨#[]⟩, .int .i64 0, .int .i64 0, .string ⟨#[]⟩, .int .i64 0, .slice none 0 0, .bool false, .slice none 0 0]
def x5V (X : XG) (wr : World) (i : Nat) (n : List UInt8) (j : Nat) (v : Value) (w : World) : Prop :=
  match j with
  | 0 => v = .slice (some ⟨X.xg, X.xo, none⟩) 4 X.xc
  | 1 => v = .int .i64 (i : Int)
  | 2 => v = .pointer (some ⟨X.xg, X.xo + i, none⟩)
  | 3 => v = .string ⟨n.toArray⟩
  | 4 => v = .pointer (some ⟨X.b, 0, none⟩)
  | 5 => ∃ r : Nat, v = .int .i64 (r : Int) ∧ r < 3
  | 6 => v = .pointer (some ⟨X.b, 0, none⟩)
  | 7 => ∃ r : Nat, v = .int .i64 (r : Int) ∧ r < 2
  | 8 => ∃ cc : Bool, v = .bool cc
  | 9 => ∃ (r : Nat) (cc : Bool), v = .agg #[.string ⟨n.toArray⟩, .int .i64 (r : Int), .int .i64 0, .string ⟨#[]⟩, .int .i64 0, .slice none 0 0, .bool cc, .slice none 0 0] ∧ r < 3
  | _ => ∃ g, v = .pointer (some ⟨g, 0, none⟩) ∧ wr.heap.size ≤ g ∧ g ≠ X.b ∧ w.heap[g]? = some (.cells #[.string ⟨#[]⟩, .int .i64 0, .int .i64 0, .string ⟨#[]⟩, .int .i64 0, .slice none 0 0, .bool false, .slice none 0 0] 37 (0, 0))
def x5I (w0 w1 wr : World) (X : XG) (k : Nat) (v1 v : Value) (ds : List De) (xs : List Value) (m : Nat) (W : World) : Prop := XR w0 w1 W X m v1 v ds xs ∧ wr.grownBy W (some X.b) ∧ k ≤ m
def x5T (w0 w1 wr : World) (X : XG) (k : Nat) (v1 v : Value) (ds : List De) (xs : List Value) (m : Nat) (W : World) (m' : Nat) (W' : World) : Prop := W.grownBy W' (some X.b) ∧ x5I w0 w1 wr X k v1 v ds xs m' W'
theorem x5V_T {w0 w1 wr : World} {X : XG} {k : Nat} {v1 v : Value} {ds : List De} {xs : List Value} {i : Nat} {n : List UInt8} (m m' : Nat) (j : Nat) (u : Value) (w w' : World) (h : x5V X wr i n j u w) (hT : x5T w0 w1 wr X k v1 v ds xs m w m' w') : x5V X wr i n j u w' := by
  unfold x5V at *
  split at h
  all_goals first
    | exact h
    | (obtain ⟨g, e, h1, h2, h3⟩ := h; exact ⟨g, e, h1, h2, (hT.1.block g (heap_lt h3) (by simp; exact h2)).trans h3⟩)
theorem x5_same {w0 w1 wr W : World} {X : XG} {k m : Nat} {v1 v : Value} {ds : List De} {xs : List Value} (h : x5I w0 w1 wr X k v1 v ds xs m W) : x5T w0 w1 wr X k v1 v ds xs m W m W := ⟨World.grownBy.refl _ _, h⟩

set_option maxHeartbeats 16000000 in
set_option maxRecDepth 100000 in
theorem extra_any (w0 w1 : World) (X : XG) (B : XB w0 X) (k : Nat) (v : Value) (ds : List De) (xs : List Value) (h : XR w0 w1 w1 X k v v ds xs) (hlen : ds.length ≤ 900) (hds : ∀ d ∈ ds, avX d) (habs : ∃ d ∈ ds, d.conc = false) :
    Calls Tryz.prog 28 #[.pointer (some ⟨X.b, 0, none⟩), v] w1 fun e w' => ∃ (k' : Nat) (v' : Value) (es : List De) (xs' : List Value), e = .returned v' ∧ XR w0 w1 w' X k' v v' (ds ++ es) xs' ∧ es.length ≤ 4 ∧ (∀ d ∈ es, okE X.XW X.len d) ∧ k ≤ k' := by
  obtain ⟨i0, hi, hz0, hz1, hz2⟩ := info_parts infoDecl
  obtain ⟨iT, hiT, hT0, hT1, hT2⟩ := info_parts infoTg
  have H1 := Lib.hid h
  have HDs := Lib.hid hds
  have HAb := Lib.hid habs
  clear h hds habs
  go_enter Tryz.func28, Tryz.ntmps28
  go_wp2_with (fail)
  refine (H1.out.next B 5 (by decide) (by decide)).mono ?_
  rintro e w2 ⟨r, k2, rfl, hr, hX2, -, -, hk2⟩
  have HX2 := Lib.hid (And.intro hX2 hk2)
  have hr4 : r ≤ 4 := by omega
  clear hX2 hk2 hr
  go_wp2_with (fail)
  go_loopw [1, 6] (fun s1 iv wr => ∃ (i : Nat), iv = .int .i64 (i : Int) ∧ i ≤ r ∧ Hid (∃ (k' : Nat) (es : List De) (xs' : List Value), XR w0 w1 wr X k' v s1 (ds ++ es) xs' ∧ es.length = i ∧ (∀ d ∈ es, okE X.XW X.len d) ∧ k ≤ k')) (fun _ iv _ => r - (match iv with | .int _ n => n.toNat | _ => 0))
  case atStart => exact ⟨0, rfl, Nat.zero_le _, Lib.hid ⟨k2, [], xs, by simpa using HX2.out.1, rfl, (fun _ h => by cases h), HX2.out.2⟩⟩
  case round =>
    obtain ⟨i, rfl, hir0, hRd⟩ := hrel
    obtain ⟨wq, hwq⟩ : ∃ x, x = wr := ⟨wr, rfl⟩
    subst hwq
    obtain ⟨kr, es, xr, hR, hel, hes, hkr⟩ := hRd.out
    by_cases hlt : i < r
    · have hge : decide ((i : Int) < (r : Int)) = true := by rw [decide_eq_true_eq]; omega
      obtain ⟨dl, hdl⟩ : ∃ dl, ds ++ es = dl := ⟨_, rfl⟩
      have hdlL : dl.length ≤ 910 := by rw [← hdl, List.length_append, hel]; omega
      have hdl0 : 0 < dl.length := by
        obtain ⟨d, hd, _⟩ := HAb.out
        rw [← hdl, List.length_append]
        have := List.length_pos_of_mem hd
        omega
      have hav : ∀ d ∈ dl, avX d := by
        rw [← hdl]
        intro d hd
        rcases List.mem_append.1 hd with hd | hd
        · exact HDs.out d hd
        · exact (hes d hd).av B.sX
      have hab : ∃ d ∈ dl, d.conc = false := by
        obtain ⟨d, hd, hc⟩ := HAb.out
        exact ⟨d, by rw [← hdl]; exact List.mem_append_left _ hd, hc⟩
      rw [hdl] at hR
      obtain ⟨gd, cd, rfl, hgd0, hgd⟩ := hR.shape hdl0
      obtain ⟨nm, hnm, hcn⟩ := B.ext.row i (by omega)
      have HCn := Lib.hid (show ∀ W, Below w0.heap.size w0 W → W.cell? ⟨X.xg, X.xo + i, none⟩ = some (.string ⟨nm.toArray⟩) from fun W hW => (World.cell?_of_block (hW.block X.xg B.ext.lt.2)).trans hcn)
      clear hcn
      have hbr := hR.st.lt
      have HR := Lib.hid hR
      have HE := Lib.hid (And.intro hdl (And.intro hel (And.intro hes hkr)))
      have HD := Lib.hid (And.intro hav hab)
      have HNm := Lib.hid (And.intro hnm hgd)
      clear hR hdl hel hes hkr hav hab hnm hRd
      go_upto_region 5 with (fail)
      obtain ⟨RR, hRR⟩ : ∃ RR : Value → World → Prop, RR = (fun u W => Hid (∃ (k' g a : Nat) (cc : Bool), u = .pointer (some ⟨g, 0, none⟩) ∧ a < 3 ∧ wq.heap.size ≤ g ∧ W.heap[g]? = some (.cells #[.string ⟨nm.toArray⟩, .int .i64 (a : Int), .int .i64 0, .string ⟨#[]⟩, .int .i64 0, .slice none 0 0, .bool cc, .slice none 0 0] 37 (0, 0)) ∧ XR w0 w1 W X k' v (.slice (some ⟨gd, 0, none⟩) dl.length cd) dl xr ∧ wq.grownBy W (some X.b) ∧ kr ≤ k')) := ⟨_, rfl⟩
      have HRR := Lib.hid hRR
      clear hRR
      go_cut [7] (fun s7 wx => RR s7 wx)
      case first =>
        refine wp_region_last (γ := Nat) (by kernel_rfl) (fun _ => x5V X wq i nm) (x5I w0 w1 wq X kr v (.slice (some ⟨gd, 0, none⟩) dl.length cd) dl xr) (x5T w0 w1 wq X kr v (.slice (some ⟨gd, 0, none⟩) dl.length cd) dl xr) (fun _ _ => True) (fun a W => RR (a.tmps.getD 7 undef) W) kr 11 _ rfl ⟨HR.out.drew B, gb_drew (World.grownBy.refl _ _), Nat.le_refl _⟩ (fun _ => trivial) (fun _ _ _ _ _ h => h.2) x5V_T (by kernel_rfl) ?_ ?_ ?_
        · refine ⟨?_, ?_, ?_, ?_, ?_, ?_, ?_, ?_, ?_, ?_, ?_, trivial⟩
          · intro m a W hI _ hF hD
            have hh := (hI.1.ext B).head
            go_simp
            exact ⟨_, rfl, rfl, m, x5_same hI⟩
          · intro m a W hI _ hF hD
            have h := same_of hF 6 (by kernel_rfl)
            go_simp
            exact ⟨_, rfl, rfl, m, x5_same hI⟩
          · intro m a W hI _ hF hD
            have h : a.tmps[19]?.getD undef = .slice (some ⟨X.xg, X.xo, none⟩) 4 X.xc := dep_of hD 0 19 (by kernel_rfl) rfl rfl
            have h' : a.tmps[20]?.getD undef = .int .i64 (i : Int) := dep_of hD 1 20 (by kernel_rfl) rfl rfl
            have hi4 : (i : Int) < 4 := by omega
            have hi0 : (0 : Int) ≤ (i : Int) := by omega
            go_simp
            exact ⟨_, rfl, rfl, m, x5_same hI⟩
          · intro m a W hI _ hF hD
            have h : a.tmps[21]?.getD undef = .pointer (some ⟨X.xg, X.xo + i, none⟩) := dep_of hD 2 21 (by kernel_rfl) rfl rfl
            have hc : W.cell? ⟨X.xg, X.xo + i, none⟩ = some (.string ⟨nm.toArray⟩) := HCn.out W hI.1.bw
            go_simp
            exact ⟨_, rfl, rfl, m, x5_same hI⟩
          · intro m a W hI _ hF hD
            have h := same_of hF 0 (by kernel_rfl)
            go_simp
            exact ⟨_, rfl, rfl, m, x5_same hI⟩
          · intro m a W hI _ hF hD
            have h : a.tmps[23]?.getD undef = .pointer (some ⟨X.b, 0, none⟩) := dep_of hD 4 23 (by kernel_rfl) rfl rfl
            have HI := Lib.hid hI
            clear hI
            go_simp
            refine (HI.out.1.next B 3 (by decide) (by decide)).mono ?_
            rintro e u ⟨r1, k1, rfl, hr1, n1, n2, _, n3⟩
            exact ⟨_, rfl, ⟨r1, rfl, by omega⟩, k1, ⟨n2, n1, gb_trans HI.out.2.1 n2, Nat.le_trans HI.out.2.2 n3⟩⟩
          · intro m a W hI _ hF hD
            have h := same_of hF 0 (by kernel_rfl)
            go_simp
            exact ⟨_, rfl, rfl, m, x5_same hI⟩
          · intro m a W hI _ hF hD
            have h : a.tmps[25]?.getD undef = .pointer (some ⟨X.b, 0, none⟩) := dep_of hD 6 25 (by kernel_rfl) rfl rfl
            have HI := Lib.hid hI
            clear hI
            go_simp
            refine (HI.out.1.next B 2 (by decide) (by decide)).mono ?_
            rintro e u ⟨r1, k1, rfl, hr1, n1, n2, _, n3⟩
            exact ⟨_, rfl, ⟨r1, rfl, by omega⟩, k1, ⟨n2, n1, gb_trans HI.out.2.1 n2, Nat.le_trans HI.out.2.2 n3⟩⟩
          · intro m a W hI _ hF hD
            obtain ⟨r1, h, hr1⟩ : ∃ r : Nat, a.tmps[26]?.getD undef = .int .i64 (r : Int) ∧ r < 2 := dep_of hD 7 26 (by kernel_rfl) rfl rfl
            have HI := Lib.hid hI
            clear hI
            go_simp
            exact ⟨_, rfl, ⟨_, rfl⟩, m, x5_same HI.out⟩
          · intro m a W hI _ hF hD
            have h : a.tmps[22]?.getD undef = .string ⟨nm.toArray⟩ := dep_of hD 3 22 (by kernel_rfl) rfl rfl
            obtain ⟨r1, h', hr1⟩ : ∃ r : Nat, a.tmps[24]?.getD undef = .int .i64 (r : Int) ∧ r < 3 := dep_of hD 5 24 (by kernel_rfl) rfl rfl
            obtain ⟨cc, h''⟩ : ∃ cc : Bool, a.tmps[27]?.getD undef = .bool cc := dep_of hD 8 27 (by kernel_rfl) rfl rfl
            have HI := Lib.hid hI
            clear hI
            go_simp
            exact ⟨_, rfl, ⟨r1, cc, rfl, hr1⟩, m, x5_same HI.out⟩
          · intro m a W hI _ hF hD
            have HI := Lib.hid hI
            clear hI
            go_simp
            have hb := HI.out.1.st.lt
            exact ⟨_, rfl, ⟨W.heap.size, rfl, HI.out.2.1.size, by omega, heap_alloc_new W _⟩, m, ⟨gb_alloc (World.grownBy.refl _ _) _, HI.out.1.bh B (bh_alloc (BH.refl W) _), gb_alloc HI.out.2.1 _, HI.out.2.2⟩⟩
        · intro m a W hI hF hall
          obtain ⟨g, h7, hg1, hg2, hg3⟩ : ∃ g, a.tmps[7]?.getD undef = .pointer (some ⟨g, 0, none⟩) ∧ wq.heap.size ≤ g ∧ g ≠ X.b ∧ W.heap[g]? = some (.cells #[.string ⟨#[]⟩, .int .i64 0, .int .i64 0, .string ⟨#[]⟩, .int .i64 0, .slice none 0 0, .bool false, .slice none 0 0] 37 (0, 0)) := all_of hall 10 7 rfl rfl
          obtain ⟨r1, cc, h28, hr1⟩ : ∃ (r : Nat) (cc : Bool), a.tmps[28]?.getD undef = .agg #[.string ⟨nm.toArray⟩, .int .i64 (r : Int), .int .i64 0, .string ⟨#[]⟩, .int .i64 0, .slice none 0 0, .bool cc, .slice none 0 0] ∧ r < 3 := all_of hall 9 28 rfl rfl
          obtain ⟨⟨p0, p1, p2, p3, p4, p5, p6, p7⟩, y0, y1, y2, y3, y4, y5, y6, y7⟩ := row8 hg3
          have hfin : RR (.pointer (some ⟨g, 0, none⟩)) ((((((((W.setCell ⟨g, 0, none⟩ (.string ⟨nm.toArray⟩)).setCell ⟨g, 1, none⟩ (.int .i64 (r1 : Int))).setCell ⟨g, 2, none⟩ (.int .i64 0)).setCell ⟨g, 3, none⟩ (.string ⟨#[]⟩)).setCell ⟨g, 4, none⟩ (.int .i64 0)).setCell ⟨g, 5, none⟩ (.slice none 0 0)).setCell ⟨g, 6, none⟩ (.bool cc)).setCell ⟨g, 7, none⟩ (.slice none 0 0)) := by
            rw [HRR.out]
            have hb := HR.out.st.lt
            exact Lib.hid ⟨m, g, r1, cc, rfl, hr1, hg1, s8 hg3 _ _ _ _ _ _ _ _, HR.out.of B hI.1 (s8_gb hI.2.1 hg1 _ _ _ _ _ _ _ _) (s8_far (Ne.symm hg2) _ _ _ _ _ _ _ _), s8_gb hI.2.1 hg1 _ _ _ _ _ _ _ _, hI.2.2⟩
          have HFin := Lib.hid hfin
          clear hfin hg3
          go_simp
          exact HFin.out
        · intro a W hF hR
          have HA := Lib.hid (Frm.act hF)
          have HRW := Lib.hid hR
          clear hF hR
          simp only [Exit.inBlock, Exit.then]
          apply_assumption
          refine Met.intro ?_
          go_step
          (repeat apply Exists.intro)
          refine ⟨?_, HA.out.trans rfl⟩
          exact HRW.out
      case rest =>
        have hRR := hcut
        rw [HRR.out] at hRR
        obtain ⟨k3, g, ar, cc, rfl, har, hg1, hblk, hX3, hgb3, hk3⟩ := hRR.out
        have hgb : g ≠ X.b := by omega
        have H3 := Lib.hid (And.intro hblk (And.intro hX3 (And.intro hgb3 hk3)))
        clear hRR hcut hblk hX3 hgb3 hk3
        go_wp2_with (fail)
        refine (H3.out.2.1.next B 3 (by decide) (by decide)).mono ?_
        rintro e u4 ⟨r4, k4, rfl, -, hX4, hgb4, -, hk4⟩
        have H4 := Lib.hid (show u4.heap[g]? = some (.cells #[.string ⟨nm.toArray⟩, .int .i64 (ar : Int), .int .i64 0, .string ⟨#[]⟩, .int .i64 0, .slice none 0 0, .bool cc, .slice none 0 0] 37 (0, 0)) ∧ XR w0 w1 u4 X k4 v (.slice (some ⟨gd, 0, none⟩) dl.length cd) dl xr ∧ wq.grownBy u4 (some X.b) ∧ kr ≤ k4 from ⟨(hgb4.block g (heap_lt H3.out.1) (by simp; exact hgb)).trans H3.out.1, hX4, gb_trans H3.out.2.2.1 hgb4, Nat.le_trans H3.out.2.2.2 hk4⟩)
        clear hX4 hgb4 hk4 H3
        go_upto_if 31 with (fail)
        generalize decide (0 < r4) = z4
        obtain ⟨RB, hRB⟩ : ∃ RB : World → Prop, RB = (fun W => Hid (∃ (k' : Nat) (q o : Int) (t : List UInt8) (kids : Fo) (A : Option Addr) (c : Nat), W.heap[g]? = some (.cells #[.string ⟨nm.toArray⟩, .int .i64 (ar : Int), .int .i64 q, .string ⟨t.toArray⟩, .int .i64 o, .slice A kids.len c, .bool cc, .slice none 0 0] 37 (0, 0)) ∧ KS W (fun y => wq.heap.size ≤ y ∧ y ≠ g) kids A c ∧ okX X.len (ar : Int) ⟨q, t, kids, o⟩ ∧ XR w0 w1 W X k' v (.slice (some ⟨gd, 0, none⟩) dl.length cd) dl xr ∧ wq.grownBy W (some X.b) ∧ kr ≤ k')) := ⟨_, rfl⟩
        have HRB := Lib.hid hRB
        clear hRB
        go_cut [] (fun wx => RB wx)
        case first =>
          cases z4 with
          | false =>
            go_wp2_with (fail)
            go_meet
            case rel =>
              rw [HRB.out]
              exact Lib.hid ⟨k4, 0, 0, [], .nil, none, 0, H4.out.1, ⟨Nat.le_refl _, [], reads_nil _ _, rfl⟩, ⟨by simp [fsize], ⟨⟨by decide, by first | exact bar_nil _ | exact bar_ne (by decide)⟩, trivial, trivial⟩, closed1_kids (by decide) (by decide) rfl, argB_nil⟩, H4.out.2⟩
          | true =>
            have hdl1 : dl.length ≤ 1000 := by omega
            go_wp2_with (fail)
            go_loopw [8, 9] (fun s8 iv wr => ∃ m : Nat, iv = .int .i64 (m : Int) ∧ m ≤ dl.length ∧ Hid (∃ ys, wr.ownsRow u4.heap.size 37 8 s8 (((dl.take m).filter fun d => !d.conc).length) ys ∧ DX wr (fun y => y ≠ X.b ∧ y < u4.heap.size) ((dl.take m).filter fun d => !d.conc) ys ∧ BH u4 wr)) (fun _ iv _ => dl.length - (match iv with | .int _ n => n.toNat | _ => 0))
            case atStart => exact ⟨0, rfl, Nat.zero_le _, Lib.hid ⟨[], World.ownsRow_nil _ _ _ _, rfl, BH.refl _⟩⟩
            case round =>
              obtain ⟨m, rfl, hm0, hL⟩ := hrel
              obtain ⟨ys, l1, l2, l3⟩ := hL.out
              obtain ⟨A6, c6, rfl, _⟩ := own_shape l1
              obtain ⟨M, hM⟩ : ∃ M, ((dl.take m).filter fun d => !d.conc).length = M := ⟨_, rfl⟩
              have hMl : M ≤ 1000 := by
                rw [← hM]
                have := List.length_filter_le (fun d : De => !d.conc) (dl.take m)
                rw [List.length_take] at this
                omega
              rw [hM] at l1 ⊢
              by_cases hlt2 : m < dl.length
              · have hge : decide ((m : Int) < (dl.length : Int)) = true := by rw [decide_eq_true_eq]; omega
                have hiL : (m : Int) < (dl.length : Int) := by omega
                have hi0 : (0 : Int) ≤ (m : Int) := by omega
                obtain ⟨d, hd⟩ : ∃ d, dl[m]? = some d := ⟨_, List.getElem?_eq_getElem hlt2⟩
                obtain ⟨g', off', A1, c1, F1, x1, e', _, hgl, p0, p1, p2, p3, p4, p5, p6, p7, k1, f1⟩ := H4.out.2.1.dcb.at hd
                cases e'
                simp only [Nat.zero_add] at p0 p1 p2 p3 p4 p5 p6 p7
                have p0 := BH.cell l3 p0
                have p1 := BH.cell l3 p1
                have p2 := BH.cell l3 p2
                have p3 := BH.cell l3 p3
                have p4 := BH.cell l3 p4
                have p5 := BH.cell l3 p5
                have p6 := BH.cell l3 p6
                have p7 := BH.cell l3 p7
                have htk : dl.take (m + 1) = dl.take m ++ [d] := by rw [List.take_add_one, hd]; rfl
                have HL2 := Lib.hid (And.intro l1 (And.intro l2 (And.intro l3 (And.intro k1 (And.intro f1 (And.intro htk hM))))))
                clear l1 l2 l3 k1 f1 htk hM hL hd hgl
                cases hdc : d.conc with
                | true =>
                  rw [hdc] at p6
                  have HC := Lib.hid hdc
                  clear hdc
                  go_wp2_with (fail)
                  obtain ⟨l1, l2, l3, k1, f1, htk, hM⟩ := HL2.out
                  have hf : ((dl.take (m + 1)).filter fun d => !d.conc) = (dl.take m).filter fun d => !d.conc := by rw [htk, List.filter_append]; simp [HC.out]
                  exact ⟨⟨m + 1, rfl, hlt2, Lib.hid ⟨ys, by rw [hf, hM]; exact l1, by rw [hf]; exact l2, l3⟩⟩, by simp; omega⟩
                | false =>
                  rw [hdc] at p6
                  have HC := Lib.hid hdc
                  clear hdc
                  go_wp2_with (at_builtin; go_loud (refine wpList_rea (by rfl) _ _ _ (by rfl) u4.heap.size 37 i0 _ 8 112 Tryz.underlying25 hi hz0 hz1 hz2 rfl (by decide) (.slice A6 M c6) M ys (by rfl) (HL2.out.1.alloc _) (some ⟨wr.heap.size, 0, none⟩) 1 1 (eight d A1 c1 F1 x1) (by rfl) (by have h := rea8 (d := d) (heap_alloc_new wr (.cells #[.string ⟨d.name.toArray⟩, .int .i64 d.arity, .int .i64 d.super.k, .string ⟨d.super.t.toArray⟩, .int .i64 d.super.o, .slice A1 d.super.kids.len c1, .bool d.conc, .slice F1 d.fields.length x1] 37)); rw [HC.out] at h; exact h) (by unfold maxLen; omega) (by omega) (by have := Below.size HL2.out.2.2.1; simp; omega) ?_))
                  intro v1 w5 ho hgr ha
                  obtain ⟨l1, l2, l3, k1, f1, htk, hM⟩ := HL2.out
                  obtain ⟨A7, c7, rfl, _⟩ := own_shape ho
                  have hb5 := bh_own (bh_alloc l3 (.cells #[.string ⟨d.name.toArray⟩, .int .i64 d.arity, .int .i64 d.super.k, .string ⟨d.super.t.toArray⟩, .int .i64 d.super.o, .slice A1 d.super.kids.len c1, .bool false, .slice F1 d.fields.length x1] 37)) hgr (fun q hq => (l1.lt q hq).1)
                  have hf : ((dl.take (m + 1)).filter fun d => !d.conc) = ((dl.take m).filter fun d => !d.conc) ++ [d] := by rw [htk, List.filter_append]; simp [HC.out]
                  have hfl : ((dl.take (m + 1)).filter fun d => !d.conc).length = M + 1 := by rw [hf, List.length_append, hM]; rfl
                  have hdx : DX w5 (fun y => y ≠ X.b ∧ y < u4.heap.size) ((dl.take (m + 1)).filter fun d => !d.conc) (ys ++ eight d A1 c1 F1 x1) := by
                    rw [hf]
                    exact DX.app (DX.single (k1.bh hb5) (f1.bh hb5)) _ _ (DX.keep (Nat.le_trans (by simp) hgr.size) (fun y hy _ => ⟨(Below.block hb5 y hy.2).trans (Below.block l3 y hy.2).symm, hy⟩) _ _ l2)
                  have HN := Lib.hid (And.intro ho (And.intro hdx (And.intro hb5 hfl)))
                  clear ho hgr ha l1 l2 l3 k1 f1 htk hM hb5 hf hfl hdx p0 p1 p2 p3 p4 p5 p6 p7
                  go_wp2_with (fail)
                  obtain ⟨n1, n2, n3, n4⟩ := HN.out
                  exact ⟨⟨m + 1, rfl, hlt2, Lib.hid ⟨_, by rw [n4]; exact n1, n2, n3⟩⟩, by simp; omega⟩
              · have hge : decide ((m : Int) < (dl.length : Int)) = false := by rw [decide_eq_false_iff_not]; omega
                have hge2 : decide (m < dl.length) = false := by rw [decide_eq_false_iff_not]; omega
                have htk : dl.take m = dl := List.take_of_length_le (by omega)
                rw [htk] at l2 hM
                have hM0 : 0 < M := by
                  obtain ⟨d, hd, hc⟩ := HD.out.2
                  rw [← hM]
                  exact List.length_pos_of_mem (List.mem_filter.2 ⟨hd, by simp [hc]⟩)
                have HL2 := Lib.hid (And.intro l1 (And.intro l2 (And.intro l3 hM)))
                clear l1 l2 l3 hM htk hL
                go_wp2_with (fail)
                refine ((H4.out.2.1.bh B HL2.out.2.2.1).next B (M : Int) (by omega) (by omega)).mono ?_
                rintro e u5 ⟨r5, k5, rfl, hr5, hX5, hgb5, -, hk5⟩
                obtain ⟨l1, l2, l3, hM⟩ := HL2.out
                have hb4 := H4.out.2.1.st.lt
                have hs4 := Below.size l3
                have hD5 : DcS u5 (fun y => y < u5.heap.size) (dl.filter fun d => !d.conc) A6 c6 := (DcS.own2 hM l1 l2).keep hgb5.size fun y hy hl => ⟨hgb5.block y hl (by
                  rcases hy with hy | hy
                  · simp; exact hy.1
                  · have := (l1.lt y hy).1; simp; omega), Nat.lt_of_lt_of_le hl hgb5.size⟩
                obtain ⟨a, ha⟩ : ∃ a, (dl.filter fun d => !d.conc)[r5]? = some a := ⟨_, List.getElem?_eq_getElem (by rw [hM]; omega)⟩
                obtain ⟨g2, off2, A1, c1, F1, x1, rfl, _, _, p0, p1, p2, p3, p4, p5, p6, p7, _, _⟩ := hD5.at ha
                obtain ⟨av0, av1, av2⟩ := HD.out.1 a ((List.mem_filter.1 (List.mem_of_getElem? ha)).1)
                have hblk5 := (hgb5.block g (Nat.lt_of_lt_of_le (heap_lt H4.out.1) hs4) (by simp; exact hgb)).trans ((Below.block l3 g (heap_lt H4.out.1)).trans H4.out.1)
                have hgb5' := gb_trans (gb_trans H4.out.2.2.1 (gb_below l3 (some X.b))) hgb5
                have hk5' := Nat.le_trans H4.out.2.2.2 hk5
                have hbD := bh_alloc (BH.refl u5) (.cells #[.string ⟨a.name.toArray⟩, .int .i64 a.arity, .int .i64 a.super.k, .string ⟨a.super.t.toArray⟩, .int .i64 a.super.o, .slice A1 a.super.kids.len c1, .bool a.conc, .slice F1 a.fields.length x1] 37)
                have hnD := heap_alloc_new u5 (.cells #[.string ⟨a.name.toArray⟩, .int .i64 a.arity, .int .i64 a.super.k, .string ⟨a.super.t.toArray⟩, .int .i64 a.super.o, .slice A1 a.super.kids.len c1, .bool a.conc, .slice F1 a.fields.length x1] 37)
                have hblkD := (Below.block hbD g (heap_lt hblk5)).trans hblk5
                obtain ⟨⟨d0, d1, d2, d3, d4, d5, d6, d7⟩, _⟩ := row8 hnD
                obtain ⟨⟨s0, s1, s2, s3, s4, s5, s6, s7⟩, y0, y1, y2, y3, y4, y5, y6, y7⟩ := row8 hblkD
                have hi0 : (0 : Int) ≤ (r5 : Int) := by omega
                have HGu := Lib.hid (show g < u5.heap.size ∧ X.b < u5.heap.size from ⟨heap_lt hblk5, hX5.st.lt⟩)
                have HBig := Lib.hid (And.intro hX5 (And.intro hgb5' (And.intro hk5' (And.intro hblkD (And.intro hbD (And.intro hnD (And.intro av0 (And.intro av1 av2))))))))
                clear hX5 hgb5 hgb5' hk5 hk5' hblk5 hblkD hbD hnD hD5 ha l1 l2 l3 hM av0 av1 av2
                go_wp2_with (fail)
                obtain ⟨hgu, hbu⟩ := HGu.out
                obtain ⟨w7, hw7⟩ : ∃ w7, (((((u5.alloc (.cells #[.string ⟨a.name.toArray⟩, .int .i64 a.arity, .int .i64 a.super.k, .string ⟨a.super.t.toArray⟩, .int .i64 a.super.o, .slice A1 a.super.kids.len c1, .bool a.conc, .slice F1 a.fields.length x1] 37)).setCell ⟨g, 2, none⟩ (.int .i64 2)).setCell ⟨g, 3, none⟩ (.string ⟨a.name.toArray⟩)).setCell ⟨g, 4, none⟩ (.int .i64 0)).setCell ⟨g, 5, none⟩ (.slice none 0 0)) = w7 := ⟨_, rfl⟩
                have H7 : Hid (X8 w0 w1 wq w7 w7 X v (.slice (some ⟨gd, 0, none⟩) dl.length cd) dl xr g nm ar a.name cc k5 k5 (.slice none 0 0) .nil [] ∧ w7.heap[u5.heap.size]? = some (.cells #[.string ⟨a.name.toArray⟩, .int .i64 a.arity, .int .i64 a.super.k, .string ⟨a.super.t.toArray⟩, .int .i64 a.super.o, .slice A1 a.super.kids.len c1, .bool a.conc, .slice F1 a.fields.length x1] 37 (0, 0)) ∧ u5.heap.size < w7.heap.size ∧ kr ≤ k5 ∧ 0 ≤ a.arity ∧ a.arity ≤ 3 ∧ a.name.length ≤ 1000) := Lib.hid (by
                  obtain ⟨h1, h2, h3, h4, h5, h6, av0, av1, av2⟩ := HBig.out
                  have hgw : wq.grownBy w7 (some X.b) := by rw [← hw7]; exact s4at2_gb (gb_alloc h2 _) hg1 _ _ _ _
                  have hz : w7.heap.size = u5.heap.size + 1 := by rw [← hw7]; simp [size_set]
                  refine ⟨⟨by rw [← hw7]; exact s4at2 h4 _ _ _ _, World.ownsRow_nil _ _ _ _, rfl, HR.out.of B (h1.bh B h5) hgw (by rw [← hw7]; exact s4at2_far (Ne.symm hgb) _ _ _ _), hgw, fun _ _ _ _ => rfl, Nat.le_refl _, Nat.le_refl _, by simp [fsize], trivial, rfl, argB_nil, hg1, by omega, hbr⟩, by rw [← hw7]; exact (s4at2_far (by omega) _ _ _ _).trans h6, by omega, h3, av0, av1, av2⟩)
                rw [hw7]
                clear HBig hw7 d0 d1 d2 d3 d4 d5 d6 d7 s0 s1 s2 s3 s4 s5 s6 s7 y0 y1 y2 y3 y4 y5 y6 y7 p0 p1 p2 p3 p4 p5 p6 p7
                obtain ⟨av0, av1⟩ : 0 ≤ a.arity ∧ a.arity ≤ 3 := ⟨H7.out.2.2.2.2.1, H7.out.2.2.2.2.2.1⟩
                go_loopw [11] (fun iv wl => ∃ (j kq : Nat) (sv : Value) (acc : Fo) (zs : List Value), iv = .int .i64 (j : Int) ∧ X8 w0 w1 wq w7 wl X v (.slice (some ⟨gd, 0, none⟩) dl.length cd) dl xr g nm ar a.name cc k5 kq sv acc zs ∧ acc.len = j ∧ j ≤ a.arity.toNat) (fun iv _ => a.arity.toNat - (match iv with | .int _ n => n.toNat | _ => 0))
                case atStart => exact ⟨0, k5, _, .nil, [], rfl, H7.out.1, rfl, Nat.zero_le _⟩
                case round =>
                  obtain ⟨j, kq, sv, acc, zs, rfl, hx, haj, hjn⟩ := hrel
                  obtain ⟨A5, c5, rfl, _⟩ := own_shape hx.own
                  have HX := Lib.hid hx
                  have HJ := Lib.hid haj
                  have hD8 := (hx.old u5.heap.size H7.out.2.2.1 (by omega) (by omega)).trans H7.out.2.1
                  have hgdl : gd < wr.drew.heap.size := by have := hx.gb.size; have := HNm.out.2; show gd < wr.heap.size; omega
                  obtain ⟨⟨_, cAr, _⟩, _⟩ := row8 hD8
                  obtain ⟨⟨_, b1, _, _, _, b5, _, _⟩, _, _, _, _, _, z5, _, _⟩ := row8 hx.blk
                  by_cases hlt3 : j < a.arity.toNat
                  · have hge : decide ((j : Int) < a.arity) = true := by rw [decide_eq_true_eq]; omega
                    clear hx haj hD8
                    go_wp2_with (fail)
                    have HXd := Lib.hid (HX.out.drew B)
                    have hA := HXd.out.xr.arg B (by omega) HD.out.1 hgdl (ar : Int) (by omega) (by omega)
                    have HCa := Lib.hid hA
                    clear hA
                    go_region_law (first
                      | (go_simp; go_at_call 62; (with_reducible refine HCa.out.mono ?_); rintro e w4 ⟨k4, q1, o1, t1, kids1, B1, cc1, rfl, e1, e2, e3, e4, e5, e6, e7⟩; have HB4 := Lib.hid (And.intro e1 (And.intro e2 (And.intro e3 (And.intro e4 (And.intro e6 e7))))); have HX4 := Lib.hid (HXd.out.after e7 e6 e4); clear e1 e2 e3 e4 e5 e6 e7; obtain ⟨⟨_, f1, _, _, _, f5, _, _⟩, _, _, _, _, _, x5, _, _⟩ := row8 HX4.out.blk; obtain ⟨⟨_, _, _, _, _, h5, _, _⟩, _⟩ := row8 (HX4.out.alloc (.cells #[.int .i64 q1, .string ⟨t1.toArray⟩, .int .i64 o1, .slice B1 kids1.len cc1] 34)))
                      | (refine step_rea _ (by rfl) _ _ _ (by rfl) w7.heap.size 34 iT _ 4 56 Tryz.underlying32 hiT hT0 hT1 hT2 rfl (by decide) (.slice A5 acc.len c5) acc.len zs (by rfl) (HX4.out.own.alloc _) (some ⟨w4.heap.size, 0, none⟩) 1 1 [.int .i64 q1, .string ⟨t1.toArray⟩, .int .i64 o1, .slice B1 kids1.len cc1] (by rfl) (rea_one (heap_alloc_new w4 _)) (by have := HJ.out; unfold maxLen; omega) (by have := HJ.out; omega) (by have := HX4.out.size; simp; omega) ?_; intro v1' w5 ho1 hg1' ha1; obtain ⟨A6', c6', rfl, hc6⟩ := own_shape ho1; have HO := Lib.hid (And.intro ho1 (And.intro hg1' ha1)); obtain ⟨⟨_, _, _, _, _, g5, _, _⟩, _, _, _, _, _, z5, _, _⟩ := row8 (HX4.out.boxed hg1'); clear ho1 hg1' ha1))
                    all_goals
                      go_wp2_with (fail)
                      obtain ⟨e1, e2, e3, e4, e6, e7⟩ := HB4.out
                      obtain ⟨ho1, hg1', ha1⟩ := HO.out
                      have hP := HXd.out.push B HR.out e7 e6 e4 e1 e2.2.1 e2.2.2.1 e3 hg1' (by simpa using ha1) ho1
                      exact ⟨⟨j + 1, k4, _, _, _, rfl, hP, by rw [Fo.len_app, HJ.out]; rfl, hlt3⟩, by simp; omega⟩
                  · have hge : decide ((j : Int) < a.arity) = false := by rw [decide_eq_false_iff_not]; omega
                    have hF : RB wr := by
                      rw [HRB.out]
                      obtain ⟨A9, c9, ys9, hv9, hc9, hr9, ho9⟩ := own_sliceT hx.own hx.row (fun x hx => hx.1)
                      simp only [Value.slice.injEq, true_and] at hv9
                      obtain ⟨rfl, rfl⟩ := hv9
                      obtain ⟨g1, g2, g3⟩ := hx.hg
                      have hfs := hx.fs
                      have hkl : kq ≤ X.len := hx.xr.st.2.2.2.1
                      have hkk : ∀ y, w7.heap.size ≤ y → y < wr.heap.size → wr.heap[y]? = wr.heap[y]? ∧ (wq.heap.size ≤ y ∧ y ≠ g) := fun y hy _ => ⟨rfl, by omega, by omega⟩
                      exact Lib.hid ⟨kq, 2, 0, a.name, acc, A5, c5, hx.blk, ⟨hc9, ys9, hr9.keep (Nat.le_refl _) hkk, ho9.keep (Nat.le_refl _) hkk _⟩, okX_named H7.out.2.2.2.2.2.2 (by omega) hx.lg hx.cl hx.ab, hx.xr, hx.gb, by have := hx.hk; have := H7.out.2.2.2.1; omega⟩
                    have HF := Lib.hid hF
                    clear hF hx haj hD8
                    go_wp2_with (fail)
                    go_meet
                    case rel => exact HF.out
        case rest =>
          have hRB := hcut
          rw [HRB.out] at hRB
          obtain ⟨k5, q, o, t, kids, A, c, hblk, hks, hok, hX5, hgb5, hk5⟩ := hRB.out
          obtain ⟨⟨p0, p1, p2, p3, p4, p5, p6, p7⟩, _⟩ := row8 hblk
          have H5 := Lib.hid (And.intro hblk (And.intro hks (And.intro hok (And.intro hX5 (And.intro hgb5 hk5)))))
          clear hRB hcut hblk hks hok hX5 hgb5 hk5
          go_upto_region 19 with (fail)
          obtain ⟨RD, hRD⟩ : ∃ RD : World → Prop, RD = (fun W => Hid (∃ (k' : Nat), W.heap[g]? = some (.cells #[.string ⟨nm.toArray⟩, .int .i64 (ar : Int), .int .i64 q, .string ⟨t.toArray⟩, .int .i64 o, .slice A kids.len c, .bool cc, .slice none 0 0] 37 (0, 0)) ∧ KS W (fun y => wq.heap.size ≤ y ∧ y ≠ g) kids A c ∧ XR w0 w1 W X k' v (.slice (some ⟨gd, 0, none⟩) dl.length cd) dl xr ∧ wq.grownBy W (some X.b) ∧ kr ≤ k')) := ⟨_, rfl⟩
          have HRD := Lib.hid hRD
          clear hRD
          go_cut [86] (fun s86 wx => ∃ z : Bool, s86 = .bool z ∧ Hid (RD wx))
          case first =>
            cases cc with
            | false =>
              go_wp2_with (fail)
              go_meet
              case rel =>
                exact ⟨false, rfl, Lib.hid (by rw [HRD.out]; exact Lib.hid ⟨k5, H5.out.1, H5.out.2.1, H5.out.2.2.2⟩)⟩
            | true =>
              go_wp2_with (fail)
              refine (H5.out.2.2.2.1.next B 2 (by decide) (by decide)).mono ?_
              rintro e u6 ⟨r6, k6, rfl, -, hX6, hgb6, -, hk6⟩
              have H6 := Lib.hid (show RD u6 by
                rw [HRD.out]
                exact Lib.hid ⟨k6, (hgb6.block g (heap_lt H5.out.1) (by simp; exact hgb)).trans H5.out.1, H5.out.2.1.keep hgb6.size (fun y hy hl => ⟨hgb6.block y hl (by simp; omega), hy⟩), hX6, gb_trans H5.out.2.2.2.2.1 hgb6, Nat.le_trans H5.out.2.2.2.2.2 hk6⟩)
              clear hX6 hgb6 hk6 p0 p1 p2 p3 p4 p5 p6 p7
              go_wp2_with (fail)
              go_meet
              case rel => exact ⟨_, rfl, H6⟩
          case rest =>
            obtain ⟨z, rfl, hRD0⟩ := hcut
            have hRD := hRD0.out
            rw [HRD.out] at hRD
            obtain ⟨k7, hblk, hks, hX7, hgb7, hk7⟩ := hRD.out
            have hok := H5.out.2.2.1
            obtain ⟨⟨p0, p1, p2, p3, p4, p5, p6, p7⟩, y0, y1, y2, y3, y4, y5, y6, y7⟩ := row8 hblk
            have H7 := Lib.hid (And.intro hblk (And.intro hks (And.intro hok (And.intro hX7 (And.intro hgb7 hk7)))))
            clear hRD0 hRD hblk hks hok hX7 hgb7 hk7 H5
            go_upto_if 86 with (fail)
            obtain ⟨RE, hRE⟩ : ∃ RE : World → Prop, RE = (fun W => Hid (∃ (k' : Nat) (d : De) (A F : Option Addr) (c x : Nat), W.heap[g]? = some (.cells #[.string ⟨d.name.toArray⟩, .int .i64 d.arity, .int .i64 d.super.k, .string ⟨d.super.t.toArray⟩, .int .i64 d.super.o, .slice A d.super.kids.len c, .bool d.conc, .slice F d.fields.length x] 37 (0, 0)) ∧ KS W (fun y => wq.heap.size ≤ y ∧ y ≠ g) d.super.kids A c ∧ FlS W (fun y => wq.heap.size ≤ y ∧ y ≠ g) d.fields F x ∧ okE X.XW X.len d ∧ XR w0 w1 W X k' v (.slice (some ⟨gd, 0, none⟩) dl.length cd) dl xr ∧ wq.grownBy W (some X.b) ∧ kr ≤ k')) := ⟨_, rfl⟩
            have HRE := Lib.hid hRE
            clear hRE
            go_cut [] (fun wx => RE wx)
            case first =>
              cases z with
              | false =>
                go_wp2_with (fail)
                go_meet
                case rel =>
                  rw [HRE.out]
                  obtain ⟨a1, a2, a3, a4⟩ := H7.out
                  exact Lib.hid ⟨k7, ⟨nm, ar, ⟨q, t, kids, o⟩, cc, []⟩, A, none, c, 0, a1, a2, FlS.nil _ _, ⟨HNm.out.1, by simp, by show (ar : Int) ≤ 2; omega, a3, Nat.zero_le _, fun f hf => by cases hf⟩, a4⟩
              | true =>
                have hgdl : gd < wc.heap.size := by have := H7.out.2.2.2.2.1.size; have := HNm.out.2; omega
                have hA := H7.out.2.2.2.1.arg B (by omega) HD.out.1 hgdl (ar : Int) (by omega) (by omega)
                have HA7 := Lib.hid hA
                clear hA
                go_wp2_with (fail)
                refine HA7.out.mono ?_
                rintro e u8 ⟨k8, q1, o1, t1, kids1, A1, c1, rfl, hks1, hok1, _, hk8, _, hX8, hgb8⟩
                obtain ⟨a1, a2, a3, a4, a5, a6⟩ := H7.out
                have hsz := a5.size
                have hsz8 := hgb8.size
                have hb9 := bh_alloc (BH.refl u8) (.cells #[.string ⟨#[112, 97, 114, 116]⟩, .int .i64 q1, .string ⟨t1.toArray⟩, .int .i64 o1, .slice A1 kids1.len c1] 40)
                have hn9 := heap_alloc_new u8 (.cells #[.string ⟨#[112, 97, 114, 116]⟩, .int .i64 q1, .string ⟨t1.toArray⟩, .int .i64 o1, .slice A1 kids1.len c1] 40)
                have hblk9 := (Below.block hb9 _ (heap_lt ((hgb8.block g (heap_lt a1) (by simp; exact hgb)).trans a1))).trans ((hgb8.block g (heap_lt a1) (by simp; exact hgb)).trans a1)
                have hg8 : g < u8.heap.size := heap_lt ((hgb8.block g (heap_lt a1) (by simp; exact hgb)).trans a1)
                obtain ⟨⟨p0, p1, p2, p3, p4, p5, p6, p7⟩, y0, y1, y2, y3, y4, y5, y6, y7⟩ := row8 hblk9
                have hfin : RE ((u8.alloc (.cells #[.string ⟨#[112, 97, 114, 116]⟩, .int .i64 q1, .string ⟨t1.toArray⟩, .int .i64 o1, .slice A1 kids1.len c1] 40)).setCell ⟨g, 7, none⟩ (.slice (some ⟨u8.heap.size, 0, none⟩) 1 1)) := by
                  rw [HRE.out]
                  have hfar : ∀ y, y ≠ g → ((u8.alloc (.cells #[.string ⟨#[112, 97, 114, 116]⟩, .int .i64 q1, .string ⟨t1.toArray⟩, .int .i64 o1, .slice A1 kids1.len c1] 40)).setCell ⟨g, 7, none⟩ (.slice (some ⟨u8.heap.size, 0, none⟩) 1 1)).heap[y]? = (u8.alloc (.cells #[.string ⟨#[112, 97, 114, 116]⟩, .int .i64 q1, .string ⟨t1.toArray⟩, .int .i64 o1, .slice A1 kids1.len c1] 40)).heap[y]? := fun y hy => heap_far (p := ⟨g, 7, none⟩) hy _
                  have hgw : wq.grownBy ((u8.alloc (.cells #[.string ⟨#[112, 97, 114, 116]⟩, .int .i64 q1, .string ⟨t1.toArray⟩, .int .i64 o1, .slice A1 kids1.len c1] 40)).setCell ⟨g, 7, none⟩ (.slice (some ⟨u8.heap.size, 0, none⟩) 1 1)) (some X.b) := gb_setCell (gb_alloc (gb_trans a5 hgb8) _) (.inr hg1) _
                  refine Lib.hid ⟨k8, ⟨nm, ar, ⟨q, t, kids, o⟩, cc, [(nPart, ⟨q1, t1, kids1, o1⟩)]⟩, A, some ⟨u8.heap.size, 0, none⟩, c, 1, heap_set (i := 7) hblk9 _, ?_, ?_, ⟨HNm.out.1, by simp, by show (ar : Int) ≤ 2; omega, a3, Nat.le_refl _, fun f hf => by simp at hf; subst hf; exact ⟨rfl, hok1⟩⟩, HR.out.of B (hX8.bh B hb9) hgw (hfar _ (Ne.symm hgb)), hgw, by omega⟩
                  · exact ((a2.keep hgb8.size (fun y hy hl => ⟨hgb8.block y hl (by simp; omega), hy⟩)).bh hb9).keep (by simp [size_set]) fun y hy _ => ⟨hfar y hy.2, hy⟩
                  · exact fls1 (x := ⟨q1, t1, kids1, o1⟩) ((hfar _ (by omega)).trans hn9) ⟨by omega, by omega⟩ ((hks1.bh hb9).keep (by simp [size_set]) fun y hy _ => ⟨hfar y (by have := heap_lt a1; omega), by omega, by have := heap_lt a1; omega⟩)
                have HFin := Lib.hid hfin
                clear hfin a1 a2 a3 a4 a5 a6 hsz hsz8 hb9 hn9 hblk9 hks1 hok1 hX8 hgb8 hg8
                go_wp2_with (fail)
                go_meet
                case rel => exact HFin.out
            case rest =>
              have hRE := hcut
              rw [HRE.out] at hRE
              obtain ⟨k8, d, A8, F8, c8, x8, hblk, hks, hfl, hok, hX8, hgb8, hk8⟩ := hRE.out
              obtain ⟨⟨p0, p1, p2, p3, p4, p5, p6, p7⟩, _⟩ := row8 hblk
              have H8 := Lib.hid (And.intro hblk (And.intro hks (And.intro hfl (And.intro hok (And.intro hX8 (And.intro hgb8 hk8))))))
              clear hRE hcut hblk hks hfl hok hX8 hgb8 hk8 H7
              go_wp2_with (at_builtin; go_loud (refine wpList_rea (by rfl) _ _ _ (by rfl) w0.heap.size 37 i0 _ 8 112 Tryz.underlying25 hi hz0 hz1 hz2 rfl (by decide) (.slice (some ⟨gd, 0, none⟩) dl.length cd) dl.length xr (by rfl) (H8.out.2.2.2.2.1.own.alloc _) (some ⟨wc.heap.size, 0, none⟩) 1 1 (eight d A8 c8 F8 x8) (by rfl) (rea8 (heap_alloc_new wc _)) (by unfold maxLen; omega) (by omega) (by have := H8.out.2.2.2.2.1.bw.size; simp; omega) ?_))
              intro v1 w5 ho hgr ha
              obtain ⟨a1, a2, a3, a4, a5, a6, a7⟩ := H8.out
              have hgdw := HNm.out.2
              have hkk : ∀ y, (wq.heap.size ≤ y ∧ y ≠ g) → y < wc.heap.size → wc.heap[y]? = wc.heap[y]? ∧ (y ≠ X.b ∧ (Value.slice (some ⟨gd, 0, none⟩) dl.length cd).ownBlock ≠ some y) := fun y hy _ => ⟨rfl, by omega, fun e => by have e' : gd = y := (by simpa [Value.ownBlock] using e); omega⟩
              have hP := a5.push B (a2.keep (Nat.le_refl _) hkk) (a3.keep (Nat.le_refl _) hkk) ho hgr (by rw [World.size_alloc]; exact ha)
              have HP := Lib.hid (And.intro hP (And.intro a4 a7))
              obtain ⟨A9, c9, rfl, _⟩ := own_shape ho
              clear ho hgr ha a1 a2 a3 a4 a5 a6 a7 hkk hP p0 p1 p2 p3 p4 p5 p6 p7
              go_wp2_with (fail)
              obtain ⟨e1, e2, e3, e4⟩ := HE.out
              refine ⟨⟨i + 1, rfl, hlt, Lib.hid ⟨k8, es ++ [d], _, by rw [← List.append_assoc, e1]; exact HP.out.1, by simp [e2], ?_, Nat.le_trans e4 HP.out.2.2⟩⟩, by simp; omega⟩
              intro d' hd'
              rcases List.mem_append.1 hd' with hd' | hd'
              · exact e3 d' hd'
              · simp at hd'; subst hd'; exact HP.out.2.1
    · have hge : decide ((i : Int) < (r : Int)) = false := by rw [decide_eq_false_iff_not]; omega
      have hge2 : decide (i < r) = false := by rw [decide_eq_false_iff_not]; omega
      have HR := Lib.hid (And.intro hR (And.intro hel (And.intro hes hkr)))
      clear hR hel hes hkr hRd
      go_wp2_with (fail)
      go_ret
      obtain ⟨q1, q2, q3, q4⟩ := HR.out
      exact ⟨kr, _, es, xr, rfl, q1, by omega, q3, q4⟩
end Go.Proofs.YtpkiheenkpcebaaGreatDoor

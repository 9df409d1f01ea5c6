/- (*Hierarchy).superCalled. No condition but bounded sizes. -/
import Derived.Test.YtpkiheenkpcebaaGreatDoorQag
import Derived.Test.YtpkiheenkpcebaaGreatDoorMav
import Derived.Test.YtpkiheenkpcebaaGreatDoorMbt
set_option linter.unusedVariables false
set_option linter.unusedSimpArgs false
namespace Go.Proofs.YtpkiheenkpcebaaGreatDoor.Sx
theorem supR_ok {ds : List De} (W : WF ds) {d : De} {r : List De} (h : Ch ds d r) (hd : St ds d) (hr : r.length ≤ 10) {nm : List UInt8} {s : Tm} (hs : supR nm d r = some s) : Lv ds d.arity 12582912 nm s := by
  rw [supR_lv h] at hs
  obtain ⟨i, hi⟩ := getL_some hs
  refine (lv_ok W h hd _ (List.mem_of_getElem? hi)).mono ?_
  have h1 : 4 ^ r.length ≤ 4 ^ 10 := Nat.pow_le_pow_right (by decide) hr
  have h2 : 4 ^ 10 = 1048576 := by decide
  omega
theorem Lv.closed1 {ds : List De} {v : Int} {b : Nat} {n : List UInt8} {x : Tm} (h : Lv ds v b n x) : Sx.closed1 x.k x.o x.kids v = true := by
  rw [Sx.closed1, Bool.and_eq_true, h.k]
  exact ⟨by simp [freeB], h.closed⟩
end Go.Proofs.YtpkiheenkpcebaaGreatDoor.Sx
namespace Go.Proofs.YtpkiheenkpcebaaGreatDoor
open Go.RowKit Sx

/-- a declaration by its name, wherever it stands -/
theorem Hier.find {w : World} {B p b : Nat} {Q : Nat → Prop} {v : Value} {l : List (List UInt8 × Value)} {ds : List De} (h : Hier w B p b Q v l ds) {s : List UInt8} (hs : s.length ≤ 1048576) {d : De} (hd : findD ds s = some d) :
    ∃ A c F x, (∀ W, BH w W → (Instr.lookup 75 (.map (some b)) (.string ⟨s.toArray⟩) false).run Tryz.prog W = .ok (.agg #[.string ⟨d.name.toArray⟩, .int .i64 d.arity, .int .i64 d.super.k, .string ⟨d.super.t.toArray⟩, .int .i64 d.super.o, .slice A d.super.kids.len c, .bool d.conc, .slice F d.fields.length x]) W) ∧ KS w (fun y => y < w.heap.size) d.super.kids A c ∧ FlS w (fun y => y < w.heap.size) d.fields F x := by
  obtain ⟨_, u, hu, A1, c1, F1, x1, rfl, hk1, hf1⟩ := h.some' hd
  refine ⟨A1, c1, F1, x1, fun W hb => ?_, hk1.keep (Nat.le_refl _) (fun y _ hl => ⟨rfl, hl⟩), hf1.keep (Nat.le_refl _) (fun y _ hl => ⟨rfl, hl⟩)⟩
  have hl2 := MapL.look (P := Tryz.prog) (t := 75) (h.bh hb).map Tryz.underlying9 Tryz.underlying75 (zeroDecl W) (s := s) (by unfold maxLen; omega) false
  rw [hu] at hl2
  exact hl2

/-- what answers a term or none, in blocks below N0 or made by the call -/
def ScP (N0 : Nat) (res : Option Tm) (w : World) (e : Ending) (w' : World) : Prop :=
  ∃ A c, e = .returned (.tuple #[.agg #[.int .i64 (resT res).k, .string ⟨(resT res).t.toArray⟩, .int .i64 (resT res).o, .slice A (resT res).kids.len c], .bool res.isSome]) ∧ KS w' (fun y => y < N0 ∨ w.heap.size ≤ y) (resT res).kids A c ∧ BH w w'
theorem ScP.out {N0 N : Nat} {res : Option Tm} {w X : World} {A : Option Addr} {c : Nat} (hN0 : N0 ≤ w.heap.size) (hN : w.heap.size ≤ N) (hb : BH w X) (hk : KS X (fun y => (y < N0 ∨ w.heap.size ≤ y) ∧ y ≠ N) (resT res).kids A c) :
    ScP N0 res w (.returned (.tuple #[.agg #[.int .i64 (resT res).k, .string ⟨(resT res).t.toArray⟩, .int .i64 (resT res).o, .slice A (resT res).kids.len c], .bool res.isSome])) ((((X.setCell ⟨N, 0, none⟩ (.int .i64 (resT res).k)).setCell ⟨N, 1, none⟩ (.string ⟨(resT res).t.toArray⟩)).setCell ⟨N, 2, none⟩ (.int .i64 (resT res).o)).setCell ⟨N, 3, none⟩ (.slice A (resT res).kids.len c)) :=
  ⟨A, c, rfl, hk.keep (by simp [size_set]) (fun y hy hl => ⟨s4_far hy.2 _ _ _ _, hy.1⟩), below_gb_of (BH.refl w) (s4_gb (gb_below hb (some N)) (by omega) _ _ _ _) (by omega)⟩

structure SuG where
  al : Nat
  g : Nat
  cl : Nat
  A : Option Addr
  c : Nat
def suI (X : World) (s : Tm) (m : SuG) (W : World) : Prop :=
  BH X W ∧ (m.al = 1 → W.heap[m.g]? = some (.cells #[.int .i64 0, .string ⟨#[]⟩, .int .i64 0, .slice none 0 0] 34 (0, 0))) ∧ (m.al = 2 → W.heap[m.g]? = some (.cells #[.int .i64 s.k, .string ⟨s.t.toArray⟩, .int .i64 s.o, .slice m.A s.kids.len m.c] 34 (0, 0))) ∧ (1 ≤ m.al → X.heap.size ≤ m.g ∧ m.g < W.heap.size) ∧ m.al ≤ 2 ∧ (m.al = 2 → m.cl = 1)
def suT (X : World) (s : Tm) (m : SuG) (W : World) (m' : SuG) (W' : World) : Prop :=
  suI X s m' W' ∧ W.heap.size ≤ W'.heap.size ∧ (m.cl = 1 → m'.cl = 1 ∧ m'.A = m.A ∧ m'.c = m.c) ∧ m.al ≤ m'.al ∧ (1 ≤ m.al → m'.g = m.g) ∧ (m.al = 0 → 1 ≤ m'.al → W.heap.size ≤ m'.g) ∧ (∀ y, y < W.heap.size → (1 ≤ m.al → y ≠ m.g) → W'.heap[y]? = W.heap[y]?)
theorem su_same {X W : World} {s : Tm} {m : SuG} (h : suI X s m W) : suT X s m W m W := ⟨h, Nat.le_refl _, fun h => ⟨h, rfl, rfl⟩, Nat.le_refl _, fun _ => rfl, fun h1 h2 => by omega, fun _ _ _ => rfl⟩
/-- the set of blocks that the answer may lie in -/
def suS (N0 N1 : Nat) (m : SuG) (y : Nat) : Prop := (y < N0 ∨ N1 ≤ y) ∧ (1 ≤ m.al → y ≠ m.g)
theorem suS_T {X W W' : World} {s : Tm} {m m' : SuG} {N0 N1 : Nat} (h : suT X s m W m' W') {y : Nat} (hy : suS N0 N1 m y) (hl : y < W.heap.size) : W'.heap[y]? = W.heap[y]? ∧ suS N0 N1 m' y := by
  obtain ⟨_, _, _, _, t1, t2, t3⟩ := h
  refine ⟨t3 y hl hy.2, hy.1, fun h' => ?_⟩
  by_cases h0 : 1 ≤ m.al
  · rw [t1 h0]; exact hy.2 h0
  · have := t2 (by omega) h'
    omega
def su5V (p b gN : Nat) (N0 N1 : Nat) (nm t : List UInt8) (e : De) (A : Option Addr) (c : Nat) (F : Option Addr) (x : Nat) (s : Tm) (z : Bool) (m : SuG) (j : Nat) (v : Value) (w : World) : Prop :=
  match j with
  | 0 => v = .pointer (some ⟨p, 0, none⟩)
  | 1 => v = .string ⟨nm.toArray⟩
  | 2 => v = .pointer (some ⟨p, 0, none⟩)
  | 3 => v = .pointer (some ⟨p, 0, none⟩)
  | 4 => v = .pointer (some ⟨p, 1, none⟩)
  | 5 => v = .map (some b)
  | 6 => v = .pointer (some ⟨gN, 2, none⟩)
  | 7 => v = .pointer (some ⟨gN, 3, none⟩)
  | 8 => v = .string ⟨t.toArray⟩
  | 9 => v = .agg #[.string ⟨e.name.toArray⟩, .int .i64 e.arity, .int .i64 e.super.k, .string ⟨e.super.t.toArray⟩, .int .i64 e.super.o, .slice A e.super.kids.len c, .bool e.conc, .slice F e.fields.length x]
  | 10 => m.cl = 1 ∧ v = .tuple #[.agg #[.int .i64 s.k, .string ⟨s.t.toArray⟩, .int .i64 s.o, .slice m.A s.kids.len m.c], .bool z] ∧ KS w (suS N0 N1 m) s.kids m.A m.c
  | 11 => m.cl = 1 ∧ v = .tuple #[.agg #[.int .i64 s.k, .string ⟨s.t.toArray⟩, .int .i64 s.o, .slice m.A s.kids.len m.c], .bool z]
  | 12 => m.cl = 1 ∧ v = .agg #[.int .i64 s.k, .string ⟨s.t.toArray⟩, .int .i64 s.o, .slice m.A s.kids.len m.c]
  | 13 => v = .bool z
  | 14 => 1 ≤ m.al ∧ v = .pointer (some ⟨m.g, 0, none⟩)
  | 15 => m.al = 2
  | _ => v = .bool z
theorem su5V_T {X : World} {p b gN : Nat} {N0 N1 : Nat} {nm t : List UInt8} {e : De} {A : Option Addr} {c : Nat} {F : Option Addr} {x : Nat} {s : Tm} {z : Bool} (m m' : SuG) (j : Nat) (v : Value) (w w' : World) (h : su5V p b gN N0 N1 nm t e A c F x s z m j v w) (hT : suT X s m w m' w') : su5V p b gN N0 N1 nm t e A c F x s z m' j v w' := by
  have hT' := hT
  obtain ⟨hI, hsz, hcl, hal, hg, _, _⟩ := hT
  have h2 := hI.2.2.2.2.1
  unfold su5V at *
  split at h
  all_goals first
    | exact h
    | (obtain ⟨e1, e2, e3⟩ := h; obtain ⟨c1, c2, c3⟩ := hcl e1; refine ⟨c1, by rw [c2, c3]; exact e2, ?_⟩; rw [c2, c3]; exact e3.keep hsz fun y hy hl => suS_T hT' hy hl)
    | (obtain ⟨e1, e2⟩ := h; obtain ⟨c1, c2, c3⟩ := hcl e1; exact ⟨c1, by rw [c2, c3]; exact e2⟩)
    | (obtain ⟨e1, e2⟩ := h; exact ⟨by omega, by rw [hg e1]; exact e2⟩)
    | omega
def su5Z (j : Nat) (m : SuG) : Prop := (j = 10 → m.cl = 0) ∧ (j = 14 → m.al = 0) ∧ (j = 15 → m.al ≤ 1)

set_option maxHeartbeats 16000000 in
set_option maxRecDepth 100000 in
theorem hSuperCalled (w0 : World) (B p b : Nat) (Q : Nat → Prop) (v : Value) (l : List (List UInt8 × Value)) (ds : List De) (nm : List UInt8) (H : Hier w0 B p b Q v l ds) (W : WF ds) :
    ∀ (r : List De) (d : De) (A1 F1 : Option Addr) (c1 x1 : Nat) (w : World), Ch ds d r → r.length ≤ 10 → d ∈ ds → BH w0 w → KS w (fun y => y < w0.heap.size) d.super.kids A1 c1 →
    Calls Tryz.prog 69 #[.pointer (some ⟨p, 0, none⟩), .string ⟨nm.toArray⟩, .agg #[.string ⟨d.name.toArray⟩, .int .i64 d.arity, .int .i64 d.super.k, .string ⟨d.super.t.toArray⟩, .int .i64 d.super.o, .slice A1 d.super.kids.len c1, .bool d.conc, .slice F1 d.fields.length x1]] w (ScP w0.heap.size (supR nm d r) w) := by
  intro r
  induction r with
  | nil =>
    intro d A1 F1 c1 x1 w hc hr hd hb hk
    obtain ⟨n, ar, ⟨k, t, kids, o⟩, cc, fs⟩ := d
    have hk2 : ¬ k = 2 := by cases hc with | top h => exact h
    have t1 : (k == 2) = false := by simpa using hk2
    have HN := Lib.hid (Below.size hb)
    have e1 := heap_alloc_new w (.cells #[.string ⟨n.toArray⟩, .int .i64 ar, .int .i64 k, .string ⟨t.toArray⟩, .int .i64 o, .slice A1 kids.len c1, .bool cc, .slice F1 fs.length x1] 37)
    have f1 := bh_alloc (BH.refl w) (.cells #[.string ⟨n.toArray⟩, .int .i64 ar, .int .i64 k, .string ⟨t.toArray⟩, .int .i64 o, .slice A1 kids.len c1, .bool cc, .slice F1 fs.length x1] 37)
    have e2 := heap_alloc_new (w.alloc (.cells #[.string ⟨n.toArray⟩, .int .i64 ar, .int .i64 k, .string ⟨t.toArray⟩, .int .i64 o, .slice A1 kids.len c1, .bool cc, .slice F1 fs.length x1] 37)) (.cells #[.int .i64 0, .string ⟨#[]⟩, .int .i64 0, .slice none 0 0] 34)
    have f2 := bh_alloc f1 (.cells #[.int .i64 0, .string ⟨#[]⟩, .int .i64 0, .slice none 0 0] 34)
    have e1' := (Below.heap_alloc (w.alloc (.cells #[.string ⟨n.toArray⟩, .int .i64 ar, .int .i64 k, .string ⟨t.toArray⟩, .int .i64 o, .slice A1 kids.len c1, .bool cc, .slice F1 fs.length x1] 37)) (.cells #[.int .i64 0, .string ⟨#[]⟩, .int .i64 0, .slice none 0 0] 34) w.heap.size (by simp)).trans e1
    rw [World.size_alloc] at e2
    obtain ⟨⟨r0, r1, r2, r3, r4, r5, r6, r7⟩, _⟩ := row8 e1'
    obtain ⟨b0, b1, b2, b3, y0, y1, y2, y3⟩ := row4 e2
    have HE := Lib.hid (And.intro e2 f2)
    clear e1 f1 e2 f2 e1' hc hr hd hb hk
    go_enter Tryz.func69, Tryz.ntmps69
    go_wp2_with (fail)
    refine bodyPost_ret (v := .tuple #[.agg #[.int .i64 0, .string ⟨#[]⟩, .int .i64 0, .slice none 0 0], .bool false]) (by simp [results, Tryz.results69, go_sem, b0, b1, b2, b3]) rfl ?_
    exact ⟨none, 0, rfl, ⟨Nat.le_refl _, [], reads_nil _ _, rfl⟩, bh_alloc (bh_alloc (BH.refl w) _) _⟩
  | cons e r ih =>
    intro d A1 F1 c1 x1 w hc hr hd hb hk
    obtain ⟨n, ar, ⟨k, t, kids, o⟩, cc, fs⟩ := d
    have hst := W _ hd
    obtain ⟨hk2, hfe, hce⟩ : k = 2 ∧ findD ds t = some e ∧ Ch ds e r := by cases hc with | up h1 h2 h3 => exact ⟨h1, h2, h3⟩
    subst hk2
    have HN := Lib.hid (Below.size hb)
    have e1 := heap_alloc_new w (.cells #[.string ⟨n.toArray⟩, .int .i64 ar, .int .i64 2, .string ⟨t.toArray⟩, .int .i64 o, .slice A1 kids.len c1, .bool cc, .slice F1 fs.length x1] 37)
    have f1 := bh_alloc (BH.refl w) (.cells #[.string ⟨n.toArray⟩, .int .i64 ar, .int .i64 2, .string ⟨t.toArray⟩, .int .i64 o, .slice A1 kids.len c1, .bool cc, .slice F1 fs.length x1] 37)
    have e2 := heap_alloc_new (w.alloc (.cells #[.string ⟨n.toArray⟩, .int .i64 ar, .int .i64 2, .string ⟨t.toArray⟩, .int .i64 o, .slice A1 kids.len c1, .bool cc, .slice F1 fs.length x1] 37)) (.cells #[.int .i64 0, .string ⟨#[]⟩, .int .i64 0, .slice none 0 0] 34)
    have f2 := bh_alloc f1 (.cells #[.int .i64 0, .string ⟨#[]⟩, .int .i64 0, .slice none 0 0] 34)
    have e1' := (Below.heap_alloc (w.alloc (.cells #[.string ⟨n.toArray⟩, .int .i64 ar, .int .i64 2, .string ⟨t.toArray⟩, .int .i64 o, .slice A1 kids.len c1, .bool cc, .slice F1 fs.length x1] 37)) (.cells #[.int .i64 0, .string ⟨#[]⟩, .int .i64 0, .slice none 0 0] 34) w.heap.size (by simp)).trans e1
    rw [World.size_alloc] at e2
    obtain ⟨⟨r0, r1, r2, r3, r4, r5, r6, r7⟩, _⟩ := row8 e1'
    obtain ⟨b0, b1, b2, b3, y0, y1, y2, y3⟩ := row4 e2
    have hsz : ((w.alloc (.cells #[.string ⟨n.toArray⟩, .int .i64 ar, .int .i64 2, .string ⟨t.toArray⟩, .int .i64 o, .slice A1 kids.len c1, .bool cc, .slice F1 fs.length x1] 37)).alloc (.cells #[.int .i64 0, .string ⟨#[]⟩, .int .i64 0, .slice none 0 0] 34)).heap.size = w.heap.size + 2 := by simp
    have HE := Lib.hid (And.intro e1' (And.intro e2 (And.intro f2 hsz)))
    have HK := Lib.hid hk
    have HB := Lib.hid hb
    have hne : ¬ t = nm → ¬ (⟨t.toArray⟩ : ByteArray) = ⟨nm.toArray⟩ := fun h => tba_ne h
    clear e1 f1 e2 f2 e1' hc hb hk hsz
    by_cases htn : t = nm
    · subst htn
      rw [show supR t ⟨n, ar, ⟨2, t, kids, o⟩, cc, fs⟩ (e :: r) = some ⟨2, t, kids, o⟩ from by rw [supR, if_pos rfl]]
      clear hne ih hst hfe hce hr hd
      go_enter Tryz.func69, Tryz.ntmps69
      go_wp2_with (fail)
      have hbb := bh_alloc (bh_alloc (BH.refl w) (.cells #[.string ⟨n.toArray⟩, .int .i64 ar, .int .i64 2, .string ⟨t.toArray⟩, .int .i64 o, .slice A1 kids.len c1, .bool cc, .slice F1 fs.length x1] 37)) (.cells #[.int .i64 2, .string ⟨t.toArray⟩, .int .i64 o, .slice A1 kids.len c1] 34)
      have hnn := heap_alloc_new (w.alloc (.cells #[.string ⟨n.toArray⟩, .int .i64 ar, .int .i64 2, .string ⟨t.toArray⟩, .int .i64 o, .slice A1 kids.len c1, .bool cc, .slice F1 fs.length x1] 37)) (.cells #[.int .i64 2, .string ⟨t.toArray⟩, .int .i64 o, .slice A1 kids.len c1] 34)
      rw [World.size_alloc] at hnn
      obtain ⟨m0, m1, m2, m3, _⟩ := row4 hnn
      refine bodyPost_ret (v := .tuple #[.agg #[.int .i64 2, .string ⟨t.toArray⟩, .int .i64 o, .slice A1 kids.len c1], .bool true]) (by simp [results, Tryz.results69, go_sem, m0, m1, m2, m3]) rfl ?_
      exact ⟨A1, c1, rfl, HK.out.keep (Below.size hbb) (fun y hy hl => ⟨Below.block hbb y hl, .inl hy⟩), hbb⟩
    · have hne' := hne htn
      have HTn := Lib.hid htn
      obtain ⟨Ae, ce, Fe, xe, hlk, hke, hfe2⟩ := H.find (s := t) hst.g.2.2.2.1 hfe
      have HL := Lib.hid hlk
      obtain ⟨s5, hs5⟩ : ∃ s5, supR nm e r = s5 := ⟨_, rfl⟩
      have HS : Hid (∀ X, BH w0 X → Calls Tryz.prog 69 #[.pointer (some ⟨p, 0, none⟩), .string ⟨nm.toArray⟩, .agg #[.string ⟨e.name.toArray⟩, .int .i64 e.arity, .int .i64 e.super.k, .string ⟨e.super.t.toArray⟩, .int .i64 e.super.o, .slice Ae e.super.kids.len ce, .bool e.conc, .slice Fe e.fields.length xe]] X (ScP w0.heap.size s5 X)) := Lib.hid fun X hX => by
        have h := ih e Ae Fe ce xe X hce (by simp at hr; omega) (findD_mem hfe) hX (hke.bh hX)
        rw [hs5] at h
        exact h
      have hLv : ∀ s, s5 = some s → Lv ds e.arity 12582912 nm s := fun s h => supR_ok W hce (W e (findD_mem hfe)) (by simp at hr; omega) (by rw [hs5, h])
      have HLv := Lib.hid hLv
      have HSt := Lib.hid (And.intro hst (W e (findD_mem hfe)))
      have hres : supR nm ⟨n, ar, ⟨2, t, kids, o⟩, cc, fs⟩ (e :: r) = s5.map fun s => insT s kids := by rw [supR, if_neg htn, hs5]
      rw [hres]
      obtain ⟨s0, s1, _⟩ := row2 H.blk
      have HBk := Lib.hid H.blk
      obtain ⟨S, hS⟩ : ∃ S, resT s5 = S := ⟨_, rfl⟩
      obtain ⟨z, hz⟩ : ∃ z, s5.isSome = z := ⟨_, rfl⟩
      have HSz := Lib.hid (And.intro hS hz)
      clear ih hne htn hlk hke hfe2 hs5 hres hst hfe hce hr hd hLv H hS hz s0 s1
      go_enter Tryz.func69, Tryz.ntmps69
      go_upto_region 5 with (fail)
      · rename_i h
        exact absurd (by simpa using h) HTn.out
      obtain ⟨X, hX⟩ : ∃ X, ((w.alloc (.cells #[.string ⟨n.toArray⟩, .int .i64 ar, .int .i64 2, .string ⟨t.toArray⟩, .int .i64 o, .slice A1 kids.len c1, .bool cc, .slice F1 fs.length x1] 37)).alloc (.cells #[.int .i64 0, .string ⟨#[]⟩, .int .i64 0, .slice none 0 0] 34)) = X := ⟨_, rfl⟩
      obtain ⟨gN, hgN⟩ : ∃ gN, w.heap.size = gN := ⟨_, rfl⟩
      have HgN := Lib.hid hgN
      rw [hX, hgN] at HE
      rw [hX, hgN]
      clear hX hgN r0 r1 r2 r3 r4 r5 r6 r7 b0 b1 b2 b3 y0 y1 y2 y3
      obtain ⟨RR, hRR⟩ : ∃ RR : Value → World → Prop, RR = (fun s8 wx => Hid (∃ (g8 : Nat) (A : Option Addr) (c : Nat), s8 = .pointer (some ⟨g8, 0, none⟩) ∧ BH X wx ∧ X.heap.size ≤ g8 ∧ wx.heap[g8]? = some (.cells #[.int .i64 S.k, .string ⟨S.t.toArray⟩, .int .i64 S.o, .slice A S.kids.len c] 34 (0, 0)) ∧ KS wx (fun y => y < w0.heap.size ∨ X.heap.size ≤ y) S.kids A c)) := ⟨_, rfl⟩
      have HRR := Lib.hid hRR
      clear hRR
      go_cut [8, 9] (fun s8 s9 wx => RR s8 wx ∧ s9 = .bool z)
      case first =>
        refine wp_region_ghost (by kernel_rfl) (su5V p b gN w0.heap.size X.heap.size nm t e Ae ce Fe xe S z) (suI X S) (suT X S) su5Z ⟨0, 0, 0, none, 0⟩ ⟨below_drew X, fun h => absurd h (by show ¬ (0 : Nat) = 1; decide), fun h => absurd h (by show ¬ (0 : Nat) = 2; decide), fun h => absurd h (by show ¬ 1 ≤ (0 : Nat); decide), Nat.zero_le _, fun h => absurd h (by show ¬ (0 : Nat) = 2; decide)⟩ (fun _ => ⟨fun _ => rfl, fun _ => rfl, fun _ => Nat.zero_le _⟩) (fun _ _ _ _ _ h => h.1) su5V_T (by kernel_rfl) ?_ ?_
        · refine ⟨?_, ?_, ?_, ?_, ?_, ?_, ?_, ?_, ?_, ?_, ?_, ?_, ?_, ?_, ?_, ?_, ?_, trivial⟩
          · intro m a W hI _ hF hD
            have h := same_of hF 0 (by kernel_rfl)
            go_simp
            exact ⟨_, rfl, m, rfl, su_same hI, fun _ _ h => h⟩
          · intro m a W hI _ hF hD
            have h := same_of hF 1 (by kernel_rfl)
            go_simp
            exact ⟨_, rfl, m, rfl, su_same hI, fun _ _ h => h⟩
          · intro m a W hI _ hF hD
            have h := same_of hF 0 (by kernel_rfl)
            go_simp
            exact ⟨_, rfl, m, rfl, su_same hI, fun _ _ h => h⟩
          · intro m a W hI _ hF hD
            have h : a.tmps[25]?.getD undef = .pointer (some ⟨p, 0, none⟩) := dep_of hD 2 25 (by kernel_rfl) rfl rfl
            go_simp
            exact ⟨_, rfl, m, rfl, su_same hI, fun _ _ h => h⟩
          · intro m a W hI _ hF hD
            have h : a.tmps[26]?.getD undef = .pointer (some ⟨p, 0, none⟩) := dep_of hD 3 26 (by kernel_rfl) rfl rfl
            go_simp
            exact ⟨_, rfl, m, rfl, su_same hI, fun _ _ h => h⟩
          · intro m a W hI _ hF hD
            have h : a.tmps[27]?.getD undef = .pointer (some ⟨p, 1, none⟩) := dep_of hD 4 27 (by kernel_rfl) rfl rfl
            have hbw := BH.trans HB.out (BH.trans HE.out.2.2.1 hI.1)
            obtain ⟨s0, s1, _⟩ := row2 ((Below.block hbw _ (heap_lt HBk.out)).trans HBk.out)
            clear hbw
            go_simp
            exact ⟨_, rfl, m, rfl, su_same hI, fun _ _ h => h⟩
          · intro m a W hI _ hF hD
            have h := same_of hF 5 (by kernel_rfl)
            go_simp
            exact ⟨_, rfl, m, rfl, su_same hI, fun _ _ h => h⟩
          · intro m a W hI _ hF hD
            have h : a.tmps[29]?.getD undef = .pointer (some ⟨gN, 2, none⟩) := dep_of hD 6 29 (by kernel_rfl) rfl rfl
            go_simp
            exact ⟨_, rfl, m, rfl, su_same hI, fun _ _ h => h⟩
          · intro m a W hI _ hF hD
            have h : a.tmps[30]?.getD undef = .pointer (some ⟨gN, 3, none⟩) := dep_of hD 7 30 (by kernel_rfl) rfl rfl
            obtain ⟨⟨r0, r1, r2, r3, r4, r5, r6, r7⟩, _⟩ := row8 ((Below.block hI.1 _ (heap_lt HE.out.1)).trans HE.out.1)
            go_simp
            exact ⟨_, rfl, m, rfl, su_same hI, fun _ _ h => h⟩
          · intro m a W hI _ hF hD
            have h : a.tmps[28]?.getD undef = .map (some b) := dep_of hD 5 28 (by kernel_rfl) rfl rfl
            have h' : a.tmps[31]?.getD undef = .string ⟨t.toArray⟩ := dep_of hD 8 31 (by kernel_rfl) rfl rfl
            have hrun := HL.out W (BH.trans HB.out (BH.trans HE.out.2.2.1 hI.1))
            go_simp
            exact ⟨_, rfl, m, rfl, su_same hI, fun _ _ h => h⟩
          · intro m a W hI hZ hF hD
            obtain ⟨al, g, cl, A, c⟩ := m
            obtain rfl : cl = 0 := hZ.1 rfl
            have h : a.tmps[23]?.getD undef = .pointer (some ⟨p, 0, none⟩) := dep_of hD 0 23 (by kernel_rfl) rfl rfl
            have h' : a.tmps[24]?.getD undef = .string ⟨nm.toArray⟩ := dep_of hD 1 24 (by kernel_rfl) rfl rfl
            have h'' : a.tmps[32]?.getD undef = .agg #[.string ⟨e.name.toArray⟩, .int .i64 e.arity, .int .i64 e.super.k, .string ⟨e.super.t.toArray⟩, .int .i64 e.super.o, .slice Ae e.super.kids.len ce, .bool e.conc, .slice Fe e.fields.length xe] := dep_of hD 9 32 (by kernel_rfl) rfl rfl
            have HC := Lib.hid (HS.out W (BH.trans HB.out (BH.trans HE.out.2.2.1 hI.1)))
            have HI := Lib.hid hI
            clear hI hZ hF hD
            go_simp
            refine HC.out.mono ?_
            rintro r u ⟨A', c', rfl, k1, hbu⟩
            rw [HSz.out.1, HSz.out.2]
            rw [HSz.out.1] at k1
            obtain ⟨i1, i2, i3, i4, i5, i6⟩ := HI.out
            simp only at i2 i3 i4 i5 i6
            have hsu := Below.size hbu
            have hsX := Below.size i1
            refine ⟨_, rfl, ⟨al, g, 1, A', c'⟩, ⟨rfl, rfl, k1.keep (Nat.le_refl _) fun y hy _ => ⟨rfl, ?_, fun h => ?_⟩⟩, ⟨⟨BH.trans i1 hbu, fun h => (Below.block hbu _ (i4 (by simp only at h; omega)).2).trans (i2 h), fun h => ?_, fun h => ⟨(i4 h).1, Nat.lt_of_lt_of_le (i4 h).2 hsu⟩, i5, fun _ => rfl⟩, hsu, fun h => absurd h (by show ¬ (0 : Nat) = 1; decide), Nat.le_refl _, fun _ => rfl, fun h1 h2 => by simp only at h1 h2; omega, fun y hy _ => Below.block hbu y hy⟩, fun j hj hz => ⟨fun e => absurd e hj, hz.2.1, hz.2.2⟩⟩
            · rcases hy with hy | hy
              · exact .inl hy
              · exact .inr (by omega)
            · have h4 := i4 h
              have h5 := HE.out.2.2.2
              have h6 := HN.out
              have h7 := HgN.out
              show ¬ y = g
              omega
            · exfalso
              have := i6 h
              omega
          · intro m a W hI _ hF hD
            obtain ⟨e1, h, _⟩ : m.cl = 1 ∧ a.tmps[33]?.getD undef = .tuple #[.agg #[.int .i64 S.k, .string ⟨S.t.toArray⟩, .int .i64 S.o, .slice m.A S.kids.len m.c], .bool z] ∧ KS W (suS w0.heap.size X.heap.size m) S.kids m.A m.c := dep_of hD 10 33 (by kernel_rfl) rfl rfl
            have H1 := Lib.hid e1
            clear e1
            go_simp
            exact ⟨_, rfl, m, ⟨H1.out, rfl⟩, su_same hI, fun _ _ h => h⟩
          · intro m a W hI _ hF hD
            obtain ⟨e1, h⟩ : m.cl = 1 ∧ a.tmps[22]?.getD undef = .tuple #[.agg #[.int .i64 S.k, .string ⟨S.t.toArray⟩, .int .i64 S.o, .slice m.A S.kids.len m.c], .bool z] := dep_of hD 11 22 (by kernel_rfl) rfl rfl
            have H1 := Lib.hid e1
            clear e1
            go_simp
            exact ⟨_, rfl, m, ⟨H1.out, rfl⟩, su_same hI, fun _ _ h => h⟩
          · intro m a W hI _ hF hD
            obtain ⟨e1, h⟩ : m.cl = 1 ∧ a.tmps[22]?.getD undef = .tuple #[.agg #[.int .i64 S.k, .string ⟨S.t.toArray⟩, .int .i64 S.o, .slice m.A S.kids.len m.c], .bool z] := dep_of hD 11 22 (by kernel_rfl) rfl rfl
            clear e1
            go_simp
            exact ⟨_, rfl, m, rfl, su_same hI, fun _ _ h => h⟩
          · intro m a W hI hZ hF hD
            have HI := Lib.hid (And.intro hI hZ)
            clear hI hZ hF hD
            go_simp
            obtain ⟨hI, hZ⟩ := HI.out
            obtain ⟨al, g, cl, A, c⟩ := m
            obtain rfl : al = 0 := hZ.2.1 rfl
            obtain ⟨i1, i2, i3, i4, i5, i6⟩ := hI
            have hb := bh_alloc (BH.refl W) (.cells #[.int .i64 0, .string ⟨#[]⟩, .int .i64 0, .slice none 0 0] 34)
            exact ⟨_, rfl, ⟨1, W.heap.size, cl, A, c⟩, ⟨Nat.le_refl _, rfl⟩, ⟨⟨BH.trans i1 hb, fun _ => heap_alloc_new W _, fun h => absurd h (by show ¬ (1 : Nat) = 2; decide), fun _ => ⟨Below.size i1, by simp⟩, by show (1 : Nat) ≤ 2; decide, fun h => absurd h (by show ¬ (1 : Nat) = 2; decide)⟩, by simp, fun h => ⟨h, rfl, rfl⟩, Nat.zero_le _, fun h => absurd h (by show ¬ 1 ≤ (0 : Nat); decide), fun _ _ => Nat.le_refl _, fun y hy _ => Below.block hb y hy⟩, fun j hj hz => ⟨hz.1, fun e => absurd e hj, fun _ => Nat.le_refl _⟩⟩
          · intro m a W hI hZ hF hD
            obtain ⟨al, g, cl, A, c⟩ := m
            obtain ⟨e1, h8⟩ : 1 ≤ al ∧ a.tmps[8]?.getD undef = .pointer (some ⟨g, 0, none⟩) := dep_of hD 14 8 (by kernel_rfl) rfl rfl
            obtain ⟨e2, h34⟩ : cl = 1 ∧ a.tmps[34]?.getD undef = .agg #[.int .i64 S.k, .string ⟨S.t.toArray⟩, .int .i64 S.o, .slice A S.kids.len c] := dep_of hD 12 34 (by kernel_rfl) rfl rfl
            have hz2 : al ≤ 1 := hZ.2.2 rfl
            obtain rfl : al = 1 := by omega
            obtain ⟨i1, i2, i3, i4, i5, i6⟩ := hI
            have hblk := i2 rfl
            have hg := i4 (Nat.le_refl _)
            simp only at hblk hg
            obtain ⟨h0, h1, h2, h3, z0, z1, z2, z3⟩ := row4 hblk
            have hfin := s4 hblk (.int .i64 S.k) (.string ⟨S.t.toArray⟩) (.int .i64 S.o) (.slice A S.kids.len c)
            have hbs := below_gb_of (BH.refl X) (s4_gb (gb_below i1 (some g)) hg.1 (.int .i64 S.k) (.string ⟨S.t.toArray⟩) (.int .i64 S.o) (.slice A S.kids.len c)) hg.1
            have HFin := Lib.hid (And.intro hfin (And.intro hbs hg))
            have HE2 := Lib.hid e2
            clear hfin hbs hblk hD hF i1 i2 i3 i4 i5 i6 hg hZ e1 e2 hz2
            go_simp
            exact ⟨.bool true, ⟨2, g, cl, A, c⟩, rfl, ⟨⟨HFin.out.2.1, fun h => absurd h (by show ¬ (2 : Nat) = 1; decide), fun _ => HFin.out.1, fun _ => ⟨HFin.out.2.2.1, by simp [size_set]; exact HFin.out.2.2.2⟩, Nat.le_refl _, fun _ => HE2.out⟩, by simp [size_set], fun h => ⟨h, rfl, rfl⟩, by show (1 : Nat) ≤ 2; decide, fun _ => rfl, fun h => absurd h (by show ¬ (1 : Nat) = 0; decide), fun y hy hne => s4_far (hne (Nat.le_refl _)) _ _ _ _⟩, fun j hj hz => ⟨hz.1, fun e => absurd (hz.2.1 e) (by show ¬ (1 : Nat) = 0; decide), fun e => absurd e hj⟩⟩
          · intro m a W hI _ hF hD
            have h : a.tmps[35]?.getD undef = .bool z := dep_of hD 13 35 (by kernel_rfl) rfl rfl
            go_simp
            exact ⟨_, rfl, m, rfl, su_same hI, fun _ _ h => h⟩
        · intro m a W hI hF hN hall
          obtain ⟨e1, h8⟩ : 1 ≤ m.al ∧ a.tmps[8]?.getD undef = .pointer (some ⟨m.g, 0, none⟩) := all_of hall 14 8 rfl rfl
          have h9 : a.tmps[9]?.getD undef = .bool z := all_of hall 16 9 rfl rfl
          obtain ⟨_, hm2⟩ : ∃ v : Value, m.al = 2 := hN 15 _ rfl rfl
          obtain ⟨e2, _, k2⟩ : m.cl = 1 ∧ a.tmps[33]?.getD undef = .tuple #[.agg #[.int .i64 S.k, .string ⟨S.t.toArray⟩, .int .i64 S.o, .slice m.A S.kids.len m.c], .bool z] ∧ KS W (suS w0.heap.size X.heap.size m) S.kids m.A m.c := all_of hall 10 33 rfl rfl
          have HR : RR (a.tmps.getD 8 undef) W := by
            rw [Array.getD_eq_getD_getElem?, h8, HRR.out]
            exact Lib.hid ⟨m.g, m.A, m.c, rfl, hI.1, (hI.2.2.2.1 e1).1, hI.2.2.1 hm2, k2.keep (Nat.le_refl _) fun y hy _ => ⟨rfl, hy.1⟩⟩
          have HRW := Lib.hid (And.intro h9 HR)
          have HA := Lib.hid (Frm.act hF)
          clear h8 h9 e1 e2 k2 hm2 HR hF hI hN hall
          simp only [Exit.inBlock, Exit.then]
          apply_assumption
          refine Met.intro ?_
          go_step
          (repeat apply Exists.intro)
          refine ⟨?rela, ?eqa⟩
          case eqa => exact HA.out.trans rfl
          exact ⟨HRW.out.2, (Array.getD_eq_getD_getElem? ..).trans HRW.out.1⟩
      case rest =>
        obtain ⟨hRR, rfl⟩ := hcut
        rw [HRR.out] at hRR
        obtain ⟨g8, A, c, rfl, q1, q2, q3, q4⟩ := hRR.out
        have HQ := Lib.hid (And.intro q1 (And.intro q2 (And.intro q3 q4)))
        have hr := (Below.block q1 _ (heap_lt HE.out.2.1)).trans HE.out.2.1
        have hd8 := (Below.block q1 _ (heap_lt HE.out.1)).trans HE.out.1
        have HR := Lib.hid hr
        have HBw := Lib.hid (BH.trans HE.out.2.2.1 q1)
        obtain ⟨b0, b1, b2, b3, y0, y1, y2, y3⟩ := row4 hr
        obtain ⟨s0, s1, s2, s3, _⟩ := row4 q3
        obtain ⟨⟨r0, r1, r2, r3, r4, r5, r6, r7⟩, _⟩ := row8 hd8
        clear q1 q2 q3 q4 hRR hr hd8 HRR
        cases s5 with
        | none =>
          obtain ⟨_, rfl⟩ := HSz.out
          go_wp2_with (fail)
          obtain ⟨m0, m1, m2, m3, _⟩ := row4 (s4 HR.out (.int .i64 0) (.string ⟨#[]⟩) (.int .i64 0) (.slice none 0 0))
          refine bodyPost_ret (v := .tuple #[.agg #[.int .i64 0, .string ⟨#[]⟩, .int .i64 0, .slice none 0 0], .bool false]) (by simp [results, Tryz.results69, go_sem, m0, m1, m2, m3]) rfl ?_
          exact ScP.out (N := gN + 1) (res := none) HN.out (by have := HgN.out; omega) HBw.out ⟨Nat.le_refl _, [], reads_nil _ _, rfl⟩
        | some s =>
          obtain ⟨hS, hz⟩ := HSz.out
          have hz' : true = z := hz
          have hS' : s = S := hS
          subst hz' hS'
          clear hS hz HSz
          have hlv := HLv.out s rfl
          have hI := instantiate_any 3 s.k s.o s.t s.kids A c kids A1 c1 wc (by decide) (by decide) (by have := hlv.size; omega) (wid_of_size (by have := hlv.size; omega)) (by have := HSt.out.1.g.2.2.2.2.2.2.1; simp only at this; omega) HQ.out.2.2.2.kt ((HK.out.bh HBw.out).kt) (closed1_mono HSt.out.2.g.2.1 hlv.closed1)
          have HI := Lib.hid hI
          clear hI hlv
          go_wp2_with (fail)
          refine HI.out.mono ?_
          rintro e9 u2 ⟨A2, c2, rfl, k2, b9⟩
          have HR2 := Lib.hid (And.intro ((Below.block b9 _ (heap_lt HR.out)).trans HR.out) (And.intro (BH.trans HBw.out b9) (And.intro k2 (And.intro (Below.size HBw.out) (heap_lt HR.out)))))
          clear k2 b9 b0 b1 b2 b3 y0 y1 y2 y3 s0 s1 s2 s3 r0 r1 r2 r3 r4 r5 r6 r7
          obtain ⟨y, hy⟩ : ∃ y, rep1 (Gi kids) shi s.k s.t s.o s.kids 0 = y := ⟨_, rfl⟩
          rw [hy] at HR2 ⊢
          have Hy := Lib.hid hy
          clear hy
          obtain ⟨b0, b1, b2, b3, y0, y1, y2, y3⟩ := row4 HR2.out.1
          go_wp2_with (fail)
          obtain ⟨m0, m1, m2, m3, _⟩ := row4 (s4 HR2.out.1 (.int .i64 y.k) (.string ⟨y.t.toArray⟩) (.int .i64 y.o) (.slice A2 y.kids.len c2))
          refine bodyPost_ret (v := .tuple #[.agg #[.int .i64 y.k, .string ⟨y.t.toArray⟩, .int .i64 y.o, .slice A2 y.kids.len c2], .bool true]) (by simp [results, Tryz.results69, go_sem, m0, m1, m2, m3]) rfl ?_
          have hgN := HgN.out
          have hsz := HR2.out.2.2.2
          have hfin := ScP.out (N := gN + 1) (res := some y) HN.out (by omega) HR2.out.2.1 (HR2.out.2.2.1.keep (Nat.le_refl _) fun q hq _ => ⟨rfl, .inr (by rcases hq with hq | hq; exact hq.elim; omega), by rcases hq with hq | hq; exact hq.elim; omega⟩)
          rw [show (some s : Option Tm).map (fun s => insT s kids) = some y from congrArg some Hy.out]
          exact hfin
end Go.Proofs.YtpkiheenkpcebaaGreatDoor

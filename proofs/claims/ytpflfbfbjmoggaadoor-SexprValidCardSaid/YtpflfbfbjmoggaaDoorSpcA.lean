/- What SexprSpacing holds between its statements. No condition. -/
import Derived.Test.YtpflfbfbjmoggaaDoorSpd
import Derived.Test.YtpflfbfbjmoggaaDoorNod
import Derived.Test.YtpflfbfbjmoggaaDoorEqS
import Derived.Test.YtpflfbfbjmoggaaDoorPok
import Derived.Test.YtpflfbfbjmoggaaDoorMod
import Derived.Deep.DeepCutAuto
set_option linter.unusedVariables false
set_option linter.unusedSimpArgs false
namespace Go.Proofs.YtpflfbfbjmoggaaDoor
open Go.RowKit Sx

def sizeB : Nat → Nat
  | 0 => 1
  | d + 1 => 1 + 4 * sizeB d
theorem fsize_okF {W T : List (List UInt8)} (f : Fo) : ∀ d, okF W T false d f → fsize f ≤ f.len * sizeB d := by
  induction f with
  | nil => intro d _; simp [fsize]
  | cons k t kids o rest ihk ihr =>
    intro d h
    obtain ⟨h1, h2⟩ := h
    have r1 := ihr d h2
    have hp : 1 ≤ sizeB d := by cases d <;> simp only [sizeB] <;> omega
    have hk : fsize kids + 1 ≤ sizeB d := by
      rcases h1 with ⟨_, rfl, _⟩ | ⟨_, _, _, hd, h4, hk⟩ | ⟨hb, _⟩ | ⟨hb, _⟩
      · simp [fsize]; exact hp
      · obtain ⟨d, rfl⟩ : ∃ d', d = d' + 1 := ⟨d - 1, by omega⟩
        have h1 := ihk d hk
        have h5 : kids.len * sizeB d ≤ 4 * sizeB d := Nat.mul_le_mul_right _ h4
        simp only [sizeB]
        omega
      · cases hb
      · cases hb
    simp only [fsize, Fo.len, Nat.add_mul]
    omega
theorem kids_small {W T : List (List UInt8)} {k o : Int} {t : List UInt8} {kids : Fo} (h : okF W T false 4 (.one k t kids o)) : fsize kids ≤ 340 := by
  have h2 := fsize_okF _ 4 h
  simp only [Fo.one, Fo.len, Nat.zero_add, Nat.one_mul, fsize, sizeB] at h2
  omega

/-- a node's children lie somewhere -/
def Nd' (W : World) (kids : Fo) (A : Option Addr) (c : Nat) (ys : List Value) : Prop := kids.len ≤ c ∧ readsAt W (fun _ => True) A kids.len ys ∧ rowOf W (fun _ => True) kids ys
/-- a fault's block, nothing in it -/
def FR (X : World) (g : Nat) : Prop := X.heap[g]? = some (.cells #[.int .i64 0, .int .i64 0] 25 (0, 0))

/-- all that was there is as it was -/
def PW (w5 X : World) : Prop := Below w5.heap.size w5 X
theorem PW.alloc {w5 X : World} (h : PW w5 X) (o : Obj) : PW w5 (X.alloc o) := Below.alloc h h.size o
theorem PW.set {w5 X : World} (h : PW w5 X) {g : Nat} (hg : w5.heap.size ≤ g) (i : Nat) (v : Value) : PW w5 (X.setCell ⟨g, i, none⟩ v) := Below.setCell h hg v
theorem PW.drew (w5 : World) : PW w5 w5.drew := ⟨rfl, rfl, rfl, Nat.le_refl _, fun _ _ => rfl⟩
theorem PW.cell {w5 X : World} (h : PW w5 X) {p : Addr} {v : Value} (hp : w5.cell? p = some v) : X.cell? p = some v :=
  (World.cell?_of_block (h.block _ (World.block_lt_of_cell? w5 p hp))).trans hp

/-- a text with separators is read back -/
theorem spc_text {k o : Int} {t : List UInt8} {kids : Fo} {sp e : List UInt8} (hs : Sep sp) (hv : vF (.one k t kids o)) (hel : Elt k t kids e) (hd : dep (.one k t kids o) ≤ 40) (hl : sp.length + e.length ≤ 65000) :
    ∃ g1 o1 q, sameF kids g1 ∧ parseR (sp ++ e ++ [10, 59, 32, 101, 110, 100]) = .ok (.one k t g1 o1) q := by
  have hx : TxtN false (.one k t kids o) (sp ++ e) := ⟨sp, e, [], by simp, hs, by simp, hel, Sep.nil⟩
  obtain ⟨g, q, hg, hp⟩ := parse_txt (.one k t kids o) (sp ++ e) [10, 59, 32, 101, 110, 100] hx (by decide) (.inr ⟨10, _, rfl, by decide⟩) hd (by simp only [List.length_append, List.length_cons, List.length_nil]; omega)
  cases g with
  | nil => exact hg.elim
  | cons k' t' g1 o1 rest =>
    obtain ⟨rfl, rfl, h1, h2⟩ := hg
    cases rest with
    | cons => exact h2.elim
    | nil => exact ⟨g1, o1, q, h1, hp⟩
/-- behind the reading: the nodes, the fault's block -/
def CutR (W5 : World) (k : Int) (t : List UInt8) (kids : Fo) (s6 s7 : Value) (wx : World) : Prop :=
  ∃ (g7 : Nat) (A9 : Option Addr) (c9 : Nat) (ys9 : List Value) (g1 : Fo) (o1 : Int), s6 = .slice A9 1 c9 ∧ s7 = .pointer (some ⟨g7, 0, none⟩) ∧ wx.cell? ⟨g7, 0, none⟩ = some (.int .i64 0) ∧ PW W5 wx ∧
    sameF kids g1 ∧ readsAt wx (fun _ => True) A9 1 ys9 ∧ rowOf wx (fun _ => True) (.one k t g1 o1) ys9
theorem cut_alloc {W5 z Z : World} {k o1 : Int} {t : List UInt8} {kids g1 : Fo} {A9 : Option Addr} {c9 : Nat} {ys9 : List Value} (hp : PW W5 z)
    (hr : sameF kids g1 ∧ readsAt z (fun x => Z.heap.size ≤ x) A9 1 ys9 ∧ rowOf z (fun x => Z.heap.size ≤ x) (.one k t g1 o1) ys9) :
    CutR W5 k t kids (.slice A9 1 c9) (.pointer (some ⟨z.heap.size, 0, none⟩)) (z.alloc (.cells #[.int .i64 0, .int .i64 0] 25)) := by
  have hk : ∀ x, Z.heap.size ≤ x → x < z.heap.size → (z.alloc (.cells #[.int .i64 0, .int .i64 0] 25)).heap[x]? = z.heap[x]? ∧ True := fun x _ hl => ⟨Below.heap_alloc z _ x hl, trivial⟩
  exact ⟨_, A9, c9, ys9, g1, o1, rfl, rfl, (row2 (heap_alloc_new z (.cells #[.int .i64 0, .int .i64 0] 25 (0, 0)))).1, hp.alloc _, hr.1, hr.2.1.keep (by simp) hk, hr.2.2.keep (by simp) hk _⟩
theorem cut_store {W5 z Z : World} {k o1 : Int} {t : List UInt8} {kids g1 : Fo} {A9 : Option Addr} {c9 g7 : Nat} {ys9 : List Value} (hp : PW W5 z)
    (hr : sameF kids g1 ∧ readsAt z (fun x => Z.heap.size ≤ x) A9 1 ys9 ∧ rowOf z (fun x => Z.heap.size ≤ x) (.one k t g1 o1) ys9) (hf : FR z g7) (h1 : W5.heap.size ≤ g7) (h2 : g7 < Z.heap.size) :
    CutR W5 k t kids (.slice A9 1 c9) (.pointer (some ⟨g7, 0, none⟩)) ((z.setCell ⟨g7, 0, none⟩ (.int .i64 0)).setCell ⟨g7, 1, none⟩ (.int .i64 0)) := by
  have e0 := heap_set (i := 0) hf (.int .i64 0)
  have e1 := heap_set (i := 1) e0 (.int .i64 0)
  have hk : ∀ x, Z.heap.size ≤ x → x < z.heap.size → ((z.setCell ⟨g7, 0, none⟩ (.int .i64 0)).setCell ⟨g7, 1, none⟩ (.int .i64 0)).heap[x]? = z.heap[x]? ∧ True := fun x hx _ => ⟨(heap_far (show x ≠ g7 by omega) _).trans (heap_far (show x ≠ g7 by omega) _), trivial⟩
  exact ⟨g7, A9, c9, ys9, g1, o1, rfl, rfl, (row2 e1).1, (hp.set h1 _ _).set h1 _ _, hr.1, hr.2.1.keep (by simp [size_set]) hk, hr.2.2.keep (by simp [size_set]) hk _⟩
theorem sameF_fsize (f : Fo) : ∀ g, sameF f g → fsize f = fsize g := by
  induction f with
  | nil => intro g h; cases g with | nil => rfl | cons => exact h.elim
  | cons k t kids o rest ihk ihr =>
    intro g h
    cases g with
    | nil => exact h.elim
    | cons k' t' kids' o' rest' =>
      obtain ⟨rfl, rfl, h1, h2⟩ := h
      simp only [fsize, ihk _ h1, ihr _ h2]
theorem TabW.below {w W : World} {v n : Nat} {S : List (List UInt8)} {g o c : Nat} (h : TabW w v n S g o c) (hB : Below w.heap.size w W) : TabW W v n S g o c := by
  obtain ⟨h1, h2⟩ := h.lt
  exact ⟨(World.cell?_of_block (hB.block v h1)).trans h.head, fun i hi => by
    obtain ⟨s, hs, hc⟩ := h.row i hi
    exact ⟨s, hs, (World.cell?_of_block (hB.block g h2)).trans hc⟩, h.pos⟩
theorem Nd.ofPW {W X : World} {kids : Fo} {A : Option Addr} {c : Nat} {ys : List Value} (h : Nd' W kids A c ys) (hp : PW W X) : Nd' X kids A c ys :=
  ⟨h.1, h.2.1.keep hp.size fun x _ hl => ⟨hp.block x hl, trivial⟩, h.2.2.keep hp.size (fun x _ hl => ⟨hp.block x hl, trivial⟩) _⟩
end Go.Proofs.YtpflfbfbjmoggaaDoor

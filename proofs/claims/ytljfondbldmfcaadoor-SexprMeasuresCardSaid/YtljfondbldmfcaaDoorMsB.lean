/- SexprMeasures: the statement that makes two nodes of the program. No condition. -/
import Derived.Test.YtljfondbldmfcaaDoorMsA
import Derived.Test.YtljfondbldmfcaaDoorSpcA
set_option linter.unusedVariables false
set_option linter.unusedSimpArgs false
namespace Go.Proofs.YtljfondbldmfcaaDoor
open Go.RowKit Sx

/-- a node's block, nothing in it -/
abbrev NR (X : World) (g : Nat) : Prop := X.heap[g]? = some (.cells #[.int .i64 0, .string ⟨#[]⟩, .slice none 0 0, .int .i64 0] 31 (0, 0))

theorem lt_a1 (W : World) (o : Obj) : W.heap.size < (W.alloc o).heap.size := by simp
theorem lt_a2 (W : World) (o o' : Obj) : W.heap.size < ((W.alloc o).alloc o').heap.size := by simp; omega
theorem lt_a3 (W : World) (o o' : Obj) : W.heap.size + 1 < ((W.alloc o).alloc o').heap.size := by simp
/-- all blocks but those two are as they were -/
def Off (g7 g8 : Nat) (v X : World) : Prop := v.heap.size ≤ X.heap.size ∧ ∀ x, x < v.heap.size → x ≠ g7 → x ≠ g8 → X.heap[x]? = v.heap[x]?
theorem Off.refl (g7 g8 : Nat) (v : World) : Off g7 g8 v v := ⟨Nat.le_refl _, fun _ _ _ _ => rfl⟩
theorem Off.alloc {g7 g8 : Nat} {v X : World} (h : Off g7 g8 v X) (o : Obj) : Off g7 g8 v (X.alloc o) :=
  ⟨Nat.le_trans h.1 (by simp), fun x hx h7 h8 => (Below.heap_alloc X o x (Nat.lt_of_lt_of_le hx h.1)).trans (h.2 x hx h7 h8)⟩
theorem Off.set {g7 g8 : Nat} {v X : World} (h : Off g7 g8 v X) {g : Nat} (hg : g = g7 ∨ g = g8) (i : Nat) (u : Value) : Off g7 g8 v (X.setCell ⟨g, i, none⟩ u) :=
  ⟨by simpa [size_set] using h.1, fun x hx h7 h8 => (heap_far (show x ≠ g by rcases hg with e | e <;> omega) _).trans (h.2 x hx h7 h8)⟩

theorem Nd.pw {W X : World} {kids : Fo} {A : Option Addr} {c : Nat} {ys : List Value} (h : Nd W kids A c ys) (hp : PW W X) : Nd X kids A c ys := h.below hp
theorem PW.trans {a b c : World} (h : PW a b) (k : PW b c) : PW a c := Below.trans h (k.mono h.size)
theorem sliceOf_pw {W X : World} {f : Fo} {v : Value} (h : sliceOf W (fun _ => True) f v) (hp : PW W X) : sliceOf X (fun _ => True) f v := h.keep hp.size fun x hx hl => ⟨hp.block x hl, hx⟩
/-- children in blocks of a range -/
def NdR (W : World) (lo hi : Nat) (kids : Fo) (A : Option Addr) (c : Nat) (ys : List Value) : Prop := kids.len ≤ c ∧ readsAt W (fun x => lo ≤ x ∧ x < hi) A kids.len ys ∧ rowOf W (fun x => lo ≤ x ∧ x < hi) kids ys
theorem NdR.nd {W X : World} {lo hi g7 g8 : Nat} {kids : Fo} {A : Option Addr} {c : Nat} {ys : List Value} (h : NdR W lo hi kids A c ys) (hO : Off g7 g8 W X) (h7 : g7 < lo ∨ hi ≤ g7) (h8 : g8 < lo ∨ hi ≤ g8) : Nd X kids A c ys :=
  ⟨h.1, h.2.1.keep hO.1 fun x hx hl => ⟨hO.2 x hl (by have := hx.1; have := hx.2; omega) (by have := hx.1; have := hx.2; omega), trivial⟩, h.2.2.keep hO.1 (fun x hx hl => ⟨hO.2 x hl (by have := hx.1; have := hx.2; omega) (by have := hx.1; have := hx.2; omega), trivial⟩) _⟩
theorem NdR.below {W X : World} {lo hi : Nat} {kids : Fo} {A : Option Addr} {c : Nat} {ys : List Value} (h : NdR W lo hi kids A c ys) (hb : Below W.heap.size W X) : NdR X lo hi kids A c ys :=
  ⟨h.1, h.2.1.keep hb.size fun x hx hl => ⟨hb.block x hl, hx⟩, h.2.2.keep hb.size (fun x hx hl => ⟨hb.block x hl, hx⟩) _⟩

def CutM (W5 : World) (ka oa kb ob : Int) (ta tb : List UInt8) (kidsa kidsb : Fo) (s7 s8 : Value) (wx : World) : Prop :=
  ∃ (g7 g8 : Nat) (Ax Ay : Option Addr) (cx cy : Nat) (yx yy : List Value), s7 = .pointer (some ⟨g7, 0, none⟩) ∧ s8 = .pointer (some ⟨g8, 0, none⟩) ∧ Blk wx g7 31 ka oa ta kidsa Ax cx ∧ Blk wx g8 31 kb ob tb kidsb Ay cy ∧ PW W5 wx ∧ Nd wx kidsa Ax cx yx ∧ Nd wx kidsb Ay cy yy

section
variable {W5 v u wx : World} {ka oa kb ob : Int} {ta tb : List UInt8} {kidsa kidsb : Fo} {Ax Ay : Option Addr} {cx cy lo1 lo2 g7 g8 : Nat} {yx yy : List Value}
theorem cutM (hp : PW W5 wx) (hO : Off g7 g8 v wx) (ha : NdR v lo1 u.heap.size kidsa Ax cx yx) (hb : NdR v lo2 v.heap.size kidsb Ay cy yy)
    (h71 : g7 < lo1 ∨ u.heap.size ≤ g7) (h81 : g8 < lo1 ∨ u.heap.size ≤ g8) (h72 : g7 < lo2 ∨ v.heap.size ≤ g7) (h82 : g8 < lo2 ∨ v.heap.size ≤ g8)
    (b7 : Blk wx g7 31 ka oa ta kidsa Ax cx) (b8 : Blk wx g8 31 kb ob tb kidsb Ay cy) :
    CutM W5 ka oa kb ob ta tb kidsa kidsb (.pointer (some ⟨g7, 0, none⟩)) (.pointer (some ⟨g8, 0, none⟩)) wx :=
  ⟨g7, g8, Ax, Ay, cx, cy, yx, yy, rfl, rfl, b7, b8, hp, ha.nd hO h71 h81, hb.nd hO h72 h82⟩

abbrev S4 (v : World) (g : Nat) (k o : Int) (t : List UInt8) (kids : Fo) (A : Option Addr) (c : Nat) : World :=
  (((v.setCell ⟨g, 0, none⟩ (.int .i64 k)).setCell ⟨g, 1, none⟩ (.string ⟨t.toArray⟩)).setCell ⟨g, 2, none⟩ (.slice A kids.len c)).setCell ⟨g, 3, none⟩ (.int .i64 o)
theorem S4.pw {k o : Int} {t : List UInt8} {kids : Fo} {A : Option Addr} {c g : Nat} (h : PW W5 v) (hg : W5.heap.size ≤ g) : PW W5 (S4 v g k o t kids A c) := (((h.set hg _ _).set hg _ _).set hg _ _).set hg _ _
theorem S4.off {X : World} {k o : Int} {t : List UInt8} {kids : Fo} {A : Option Addr} {c g : Nat} (h : Off g7 g8 v X) (hg : g = g7 ∨ g = g8) : Off g7 g8 v (S4 X g k o t kids A c) := (((h.set hg _ _).set hg _ _).set hg _ _).set hg _ _
theorem S4.blk {k o : Int} {t : List UInt8} {kids : Fo} {A : Option Addr} {c g : Nat} (h : NR v g) : Blk (S4 v g k o t kids A c) g 31 k o t kids A c := set4 h _ _ _ _
theorem S4.far {k o : Int} {t : List UInt8} {kids : Fo} {A : Option Addr} {c g x : Nat} (hx : x ≠ g) : (S4 v g k o t kids A c).heap[x]? = v.heap[x]? := far4 hx _ _ _ _
theorem S4.size {k o : Int} {t : List UInt8} {kids : Fo} {A : Option Addr} {c g : Nat} : (S4 v g k o t kids A c).heap.size = v.heap.size := by simp [S4, size_set]

theorem cut1 (hp : PW W5 v) (ha : NdR v lo1 u.heap.size kidsa Ax cx yx) (hb : NdR v lo2 v.heap.size kidsb Ay cy yy) (n7 : NR v g7) (n8 : NR v g8) (hne : g7 ≠ g8) (p7 : W5.heap.size ≤ g7) (p8 : W5.heap.size ≤ g8)
    (h71 : g7 < lo1 ∨ u.heap.size ≤ g7) (h81 : g8 < lo1 ∨ u.heap.size ≤ g8) (h72 : g7 < lo2 ∨ v.heap.size ≤ g7) (h82 : g8 < lo2 ∨ v.heap.size ≤ g8) :
    CutM W5 ka oa kb ob ta tb kidsa kidsb (.pointer (some ⟨g7, 0, none⟩)) (.pointer (some ⟨g8, 0, none⟩)) (S4 (S4 v g7 ka oa ta kidsa Ax cx) g8 kb ob tb kidsb Ay cy) := by
  refine cutM (u := u) (S4.pw (S4.pw hp p7) p8) (S4.off (S4.off (Off.refl _ _ _) (.inl rfl)) (.inr rfl)) ha hb h71 h81 h72 h82 ((S4.far hne).trans (S4.blk n7)) (S4.blk ?_)
  exact (S4.far (Ne.symm hne)).trans n8
theorem cut2 (hp : PW W5 v) (ha : NdR v lo1 u.heap.size kidsa Ax cx yx) (hb : NdR v lo2 v.heap.size kidsb Ay cy yy) (n7 : NR v g7) (p7 : W5.heap.size ≤ g7) (huv : u.heap.size ≤ v.heap.size)
    (h71 : g7 < lo1 ∨ u.heap.size ≤ g7) (h72 : g7 < lo2 ∨ v.heap.size ≤ g7) :
    CutM W5 ka oa kb ob ta tb kidsa kidsb (.pointer (some ⟨g7, 0, none⟩)) (.pointer (some ⟨v.heap.size, 0, none⟩)) ((S4 v g7 ka oa ta kidsa Ax cx).alloc (.cells #[.int .i64 kb, .string ⟨tb.toArray⟩, .slice Ay kidsb.len cy, .int .i64 ob] 31)) := by
  have hlt := heap_lt n7
  have hn := heap_alloc_new (S4 v g7 ka oa ta kidsa Ax cx) (.cells #[.int .i64 kb, .string ⟨tb.toArray⟩, .slice Ay kidsb.len cy, .int .i64 ob] 31)
  rw [S4.size] at hn
  exact cutM (u := u) ((S4.pw hp p7).alloc _) ((S4.off (Off.refl _ _ _) (.inl rfl)).alloc _) ha hb h71 (.inr huv) h72 (.inr (Nat.le_refl _)) ((Below.heap_alloc _ _ _ (by rw [S4.size]; exact hlt)).trans (S4.blk n7)) hn
theorem cut3 (hp : PW W5 v) (ha : NdR v lo1 u.heap.size kidsa Ax cx yx) (hb : NdR v lo2 v.heap.size kidsb Ay cy yy) (n8 : NR v g8) (p8 : W5.heap.size ≤ g8) (huv : u.heap.size ≤ v.heap.size)
    (h81 : g8 < lo1 ∨ u.heap.size ≤ g8) (h82 : g8 < lo2 ∨ v.heap.size ≤ g8) :
    CutM W5 ka oa kb ob ta tb kidsa kidsb (.pointer (some ⟨v.heap.size, 0, none⟩)) (.pointer (some ⟨g8, 0, none⟩)) ((S4 v g8 kb ob tb kidsb Ay cy).alloc (.cells #[.int .i64 ka, .string ⟨ta.toArray⟩, .slice Ax kidsa.len cx, .int .i64 oa] 31)) := by
  have hlt := heap_lt n8
  have hn := heap_alloc_new (S4 v g8 kb ob tb kidsb Ay cy) (.cells #[.int .i64 ka, .string ⟨ta.toArray⟩, .slice Ax kidsa.len cx, .int .i64 oa] 31)
  rw [S4.size] at hn
  exact cutM (u := u) ((S4.pw hp p8).alloc _) ((S4.off (Off.refl _ _ _) (.inr rfl)).alloc _) ha hb (.inr huv) h81 (.inr (Nat.le_refl _)) h82 hn ((Below.heap_alloc _ _ _ (by rw [S4.size]; exact hlt)).trans (S4.blk n8))
theorem cut4 (hp : PW W5 v) (ha : NdR v lo1 u.heap.size kidsa Ax cx yx) (hb : NdR v lo2 v.heap.size kidsb Ay cy yy) (huv : u.heap.size ≤ v.heap.size) :
    CutM W5 ka oa kb ob ta tb kidsa kidsb (.pointer (some ⟨v.heap.size, 0, none⟩)) (.pointer (some ⟨v.heap.size + 1, 0, none⟩)) ((v.alloc (.cells #[.int .i64 ka, .string ⟨ta.toArray⟩, .slice Ax kidsa.len cx, .int .i64 oa] 31)).alloc (.cells #[.int .i64 kb, .string ⟨tb.toArray⟩, .slice Ay kidsb.len cy, .int .i64 ob] 31)) := by
  have hn := heap_alloc_new (v.alloc (.cells #[.int .i64 ka, .string ⟨ta.toArray⟩, .slice Ax kidsa.len cx, .int .i64 oa] 31)) (.cells #[.int .i64 kb, .string ⟨tb.toArray⟩, .slice Ay kidsb.len cy, .int .i64 ob] 31)
  rw [World.size_alloc] at hn
  exact cutM (u := u) ((hp.alloc _).alloc _) (((Off.refl _ _ _).alloc _).alloc _) ha hb (.inr huv) (.inr (by omega)) (.inr (Nat.le_refl _)) (.inr (by omega)) ((Below.heap_alloc _ _ _ (by simp)).trans (heap_alloc_new v _)) hn
theorem cut5 (hp : PW W5 v) (ha : NdR v lo1 u.heap.size kidsa Ax cx yx) (hb : NdR v lo2 v.heap.size kidsb Ay cy yy) (huv : u.heap.size ≤ v.heap.size) :
    CutM W5 ka oa kb ob ta tb kidsa kidsb (.pointer (some ⟨v.heap.size + 1, 0, none⟩)) (.pointer (some ⟨v.heap.size, 0, none⟩)) ((v.alloc (.cells #[.int .i64 kb, .string ⟨tb.toArray⟩, .slice Ay kidsb.len cy, .int .i64 ob] 31)).alloc (.cells #[.int .i64 ka, .string ⟨ta.toArray⟩, .slice Ax kidsa.len cx, .int .i64 oa] 31)) := by
  have hn := heap_alloc_new (v.alloc (.cells #[.int .i64 kb, .string ⟨tb.toArray⟩, .slice Ay kidsb.len cy, .int .i64 ob] 31)) (.cells #[.int .i64 ka, .string ⟨ta.toArray⟩, .slice Ax kidsa.len cx, .int .i64 oa] 31)
  rw [World.size_alloc] at hn
  exact cutM (u := u) ((hp.alloc _).alloc _) (((Off.refl _ _ _).alloc _).alloc _) ha hb (.inr (by omega)) (.inr huv) (.inr (by omega)) (.inr (Nat.le_refl _)) hn ((Below.heap_alloc _ _ _ (by simp)).trans (heap_alloc_new v _))
end
end Go.Proofs.YtljfondbldmfcaaDoor

/- What SexprMeasures holds between its statements. No condition. -/
import Derived.Test.YtljfondbldmfcaaDoorLaw
import Derived.Test.YtljfondbldmfcaaDoorAnyB
import Derived.Test.YtljfondbldmfcaaDoorNod
import Derived.Test.YtljfondbldmfcaaDoorEqR
import Derived.Test.YtljfondbldmfcaaDoorEqS
import Derived.Test.YtljfondbldmfcaaDoorCheck
import Derived.Test.YtljfondbldmfcaaDoorCnt
import Derived.Test.YtljfondbldmfcaaDoorCn2
import Derived.Test.YtljfondbldmfcaaDoorDep
import Derived.Test.YtljfondbldmfcaaDoorDe2
import Derived.Deep.DeepCutAuto
set_option linter.unusedVariables false
set_option linter.unusedSimpArgs false
namespace Go.Proofs.YtljfondbldmfcaaDoor
open Go.RowKit Sx

theorem fsize_okB {W T : List (List UInt8)} {bad : Bool} (f : Fo) : ∀ d, okF W T bad d f → fsize f ≤ f.len * (5 ^ (d + 1)) := by
  induction f with
  | nil => intro d _; simp [fsize]
  | cons k t kids o rest ihk ihr =>
    intro d h
    obtain ⟨h1, h2⟩ := h
    have r1 := ihr d h2
    have hp : 1 ≤ 5 ^ d := Nat.one_le_pow _ _ (by decide)
    have e : 5 ^ (d + 1) = 5 ^ d * 5 := Nat.pow_succ ..
    have hk : fsize kids + 1 ≤ 5 ^ (d + 1) := by
      rcases h1 with ⟨_, rfl, _⟩ | ⟨_, _, _, hd, h4, hk⟩ | ⟨_, _, _, _, _, u, _, rfl⟩ | ⟨_, _, _, rfl⟩
      · simp [fsize]; omega
      · obtain ⟨d, rfl⟩ : ∃ d', d = d' + 1 := ⟨d - 1, by omega⟩
        have h1 := ihk d hk
        have h5 : kids.len * 5 ^ (d + 1) ≤ 4 * 5 ^ (d + 1) := Nat.mul_le_mul_right _ h4
        omega
      · simp [fsize, Fo.one]; omega
      · simp [fsize]; omega
    simp only [fsize, Fo.len, Nat.add_mul]
    omega

theorem kids_size {W T : List (List UInt8)} {bad : Bool} {d : Nat} {k o : Int} {t : List UInt8} {kids : Fo} (hd : d ≤ 4) (h : okF W T bad d (.one k t kids o)) : fsize kids ≤ 3125 := by
  have h2 := fsize_okB _ d h
  simp only [Fo.one, Fo.len, Nat.zero_add, Nat.one_mul, fsize] at h2
  have e : d = 0 ∨ d = 1 ∨ d = 2 ∨ d = 3 ∨ d = 4 := by omega
  rcases e with rfl | rfl | rfl | rfl | rfl <;> omega

/-- a node's children lie somewhere -/
def Nd (W : World) (kids : Fo) (A : Option Addr) (c : Nat) (ys : List Value) : Prop := kids.len ≤ c ∧ readsAt W (fun _ => True) A kids.len ys ∧ rowOf W (fun _ => True) kids ys
theorem Nd.below {W W' : World} {kids : Fo} {A : Option Addr} {c : Nat} {ys : List Value} (h : Nd W kids A c ys) (hb : Below W.heap.size W W') : Nd W' kids A c ys :=
  ⟨h.1, h.2.1.keep hb.size fun x _ hl => ⟨hb.block x hl, trivial⟩, h.2.2.keep hb.size (fun x _ hl => ⟨hb.block x hl, trivial⟩) _⟩
theorem Nd.of {W W' : World} {S : Nat → Prop} {kids : Fo} {A : Option Addr} {c : Nat} {ys : List Value} (hc : kids.len ≤ c) (hr : readsAt W S A kids.len ys) (hk : rowOf W S kids ys) (hb : Below W.heap.size W W') : Nd W' kids A c ys :=
  ⟨hc, hr.keep hb.size fun x _ hl => ⟨hb.block x hl, trivial⟩, hk.keep hb.size (fun x _ hl => ⟨hb.block x hl, trivial⟩) _⟩

/-- the four cells of a node's block -/
def Blk (W : World) (g : Nat) (ty : TypeId) (k o : Int) (t : List UInt8) (kids : Fo) (A : Option Addr) (c : Nat) : Prop :=
  W.heap[g]? = some (.cells #[.int .i64 k, .string ⟨t.toArray⟩, .slice A kids.len c, .int .i64 o] ty (0, 0))
theorem Blk.below {W W' : World} {g : Nat} {ty : TypeId} {k o : Int} {t : List UInt8} {kids : Fo} {A : Option Addr} {c : Nat} (h : Blk W g ty k o t kids A c) (hb : Below W.heap.size W W') : Blk W' g ty k o t kids A c := (hb.block g (heap_lt h)).trans h

theorem sliceOf_two {W : World} {g : Nat} {ty : TypeId} {ka oa kb ob : Int} {ta tb : List UInt8} {kidsa kidsb : Fo} {Aa Ab : Option Addr} {ca cb : Nat} {ysa ysb : List Value}
    (h : W.heap[g]? = some (.cells #[.int .i64 ka, .string ⟨ta.toArray⟩, .slice Aa kidsa.len ca, .int .i64 oa, .int .i64 kb, .string ⟨tb.toArray⟩, .slice Ab kidsb.len cb, .int .i64 ob] ty (0, 0))) (ha : Nd W kidsa Aa ca ysa) (hb : Nd W kidsb Ab cb ysb) :
    sliceOf W (fun _ => True) (.cons ka ta kidsa oa (.cons kb tb kidsb ob .nil)) (.slice (some ⟨g, 0, none⟩) 2 2) := by
  refine ⟨some ⟨g, 0, none⟩, 2, [.int .i64 ka, .string ⟨ta.toArray⟩, .slice Aa kidsa.len ca, .int .i64 oa, .int .i64 kb, .string ⟨tb.toArray⟩, .slice Ab kidsb.len cb, .int .i64 ob], rfl, Nat.le_refl _, ?_, ?_⟩
  · intro _
    refine ⟨g, 0, rfl, trivial, heap_lt h, fun j u hu => ?_⟩
    rw [Nat.zero_add, cell_of_row _ _ j _ _ _ h]
    simpa using hu
  · exact ⟨Aa, ca, ysa, _, rfl, ha.1, ha.2.1, ha.2.2, Ab, cb, ysb, [], rfl, hb.1, hb.2.1, hb.2.2, rfl⟩
end Go.Proofs.YtljfondbldmfcaaDoor

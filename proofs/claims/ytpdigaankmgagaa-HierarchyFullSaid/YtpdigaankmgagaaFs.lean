/- The size of a list of nodes with all that hang under them; cells of a row. No condition. -/
import Derived.Test.YtpdigaankmgagaaMem
import Derived.Test.YtpdigaankmgagaaUtil2
set_option linter.unusedVariables false
set_option linter.unusedSimpArgs false
namespace Go.Proofs.Ytpdigaankmgagaa
open Go.RowKit Sx

theorem wrap64_in {x : Int} (h0 : -9223372036854775808 ≤ x) (h1 : x ≤ 9223372036854775807) : wrap64 x = x := by
  unfold wrap64
  omega

def fsize : Fo → Nat
  | .nil => 0
  | .cons _ _ kids _ rest => fsize kids + fsize rest + 1
theorem len_le_fsize (f : Fo) : f.len ≤ fsize f := by
  induction f with
  | nil => simp [Fo.len]
  | cons k t kids o r _ ih => simp only [Fo.len, fsize]; omega

def cellsAt (w : World) (g off : Nat) (xs : List Value) : Prop := ∀ j u, xs[j]? = some u → w.cell? ⟨g, off + j, none⟩ = some u
def dep : Fo → Nat
  | .nil => 0
  | .cons k _ kids _ rest => max (dep kids + (if k = 3 then 1 else 0)) (dep rest)
theorem dep_le (f : Fo) : dep f ≤ fsize f := by
  induction f with
  | nil => simp [dep]
  | cons k t kids o r ih1 ih2 => simp only [dep, fsize]; split <;> omega

/-- the cells of a slice, said for whatever address it has -/
def rowAt (w : World) (A : Option Addr) (i : Nat) (xs : List Value) : Prop := ∀ g off, A = some ⟨g, off, none⟩ → cellsAt w g (off + i * 4) xs

theorem rowAt_start {w : World} {S : Nat → Prop} {A : Option Addr} {f : Fo} {xs : List Value} (hr : readsAt w S A f.len xs) (hx : rowOf w S f xs) : rowAt w A 0 xs := by
  intro g off hA j u hu
  have hl := rowOf.len f xs hx
  rcases Nat.eq_zero_or_pos f.len with h | h
  · rw [h] at hl
    rw [List.getElem?_eq_none (by omega)] at hu
    cases hu
  · obtain ⟨g', off', hA', _, _, hc⟩ := hr h
    rw [hA] at hA'
    cases hA'
    simpa using hc j u hu
theorem rowAt_next {w : World} {A : Option Addr} {i : Nat} {a b c d : Value} {zs : List Value} (h : rowAt w A i (a :: b :: c :: d :: zs)) : rowAt w A (i + 1) zs := by
  intro g off hA j u hu
  have := h g off hA (4 + j) u (by rw [show 4 + j = j + 4 from by omega]; exact hu)
  rw [show off + (i + 1) * 4 + j = off + i * 4 + (4 + j) from by omega]
  exact this

theorem sliceOf.below {w w' : World} {S : Nat → Prop} {f : Fo} {v : Value} (h : sliceOf w S f v) (hb : Below w.heap.size w w') : sliceOf w' S f v := h.keep hb.size fun x hx hl => ⟨hb.block x hl, hx⟩
end Go.Proofs.Ytpdigaankmgagaa

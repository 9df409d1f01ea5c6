/- What the two readers return, said in one form. No condition. -/
import Derived.Test.YtkndlbcmbfgoaaaCheck
import Derived.Test.YtkndlbcmbfgoaaaRParse
import Derived.Test.YtkndlbcmbfgoaaaSz
set_option linter.unusedVariables false
set_option linter.unusedSimpArgs false
namespace Go.Proofs.Ytkndlbcmbfgoaaa
open Go.RowKit Sx

def kindR : Res → Int
  | .bad k _ => k
  | .ok _ _ => 0
def offR : Res → Int
  | .bad _ a => (a : Int)
  | .ok _ _ => 0
def nodesR : Res → Fo
  | .bad _ _ => .nil
  | .ok ns _ => ns

theorem nodesR_size (l : List UInt8) : fsize (nodesR (parseR l)) ≤ 65536 := by
  rcases h : parseR l with ⟨k, a⟩ | ⟨ns, q⟩
  · simp [nodesR, fsize]
  · exact parse_size _ _ _ h

theorem sliceOf_nil (w : World) (S : Nat → Prop) : sliceOf w S .nil (.slice none 0 0) := ⟨none, 0, [], rfl, Nat.le_refl _, readsAt.none_ _ _, rfl⟩

theorem parse_res (s : ByteArray) (w : World) (hs : s.size ≤ maxLen) :
    Calls Try.prog 6 #[.string s] w fun e w' => ∃ A c, e = .returned (.tuple #[.slice A (nodesR (parseR s.data.toList)).len c, .agg #[.int .i64 (kindR (parseR s.data.toList)), .int .i64 (offR (parseR s.data.toList))]]) ∧
      sliceOf w' (fun x => w.heap.size ≤ x) (nodesR (parseR s.data.toList)) (.slice A (nodesR (parseR s.data.toList)).len c) ∧ Below w.heap.size w w' :=
  (parse_any s w hs).mono fun e w' h => by
    unfold ParsePost at h
    rcases hp : parseR s.data.toList with ⟨k, a⟩ | ⟨ns, q⟩
    · rw [hp] at h
      obtain ⟨rfl, hb⟩ := h
      exact ⟨none, 0, rfl, sliceOf_nil _ _, hb⟩
    · rw [hp] at h
      obtain ⟨⟨v, rfl, hsl⟩, hb⟩ := h
      obtain ⟨A, c, ys, rfl, rest⟩ := hsl
      exact ⟨A, c, rfl, ⟨A, c, ys, rfl, rest⟩, hb⟩

theorem rParse_res (s : ByteArray) (w : World) (hs : s.size ≤ maxLen) :
    Calls Try.prog 7 #[.string s] w fun e w' => ∃ A c, e = .returned (.tuple #[.slice A (nodesR (parseR s.data.toList)).len c, .agg #[.int .i64 (kindR (parseR s.data.toList)), .int .i64 (offR (parseR s.data.toList))]]) ∧
      sliceOf w' (fun x => w.heap.size ≤ x) (nodesR (parseR s.data.toList)) (.slice A (nodesR (parseR s.data.toList)).len c) ∧ Below w.heap.size w w' :=
  (rParse_any s w hs).mono fun e w' h => by
    unfold RParsePost at h
    rcases hp : parseR s.data.toList with ⟨k, a⟩ | ⟨ns, q⟩
    · rw [hp] at h
      obtain ⟨rfl, hb⟩ := h
      exact ⟨none, 0, rfl, sliceOf_nil _ _, hb⟩
    · rw [hp] at h
      obtain ⟨⟨v, rfl, hsl⟩, hb⟩ := h
      obtain ⟨A, c, ys, rfl, rest⟩ := hsl
      exact ⟨A, c, rfl, ⟨A, c, ys, rfl, rest⟩, hb⟩

/-- A slice of nodes stands while only new blocks are made. -/
theorem sliceOf.below {w w' : World} {S : Nat → Prop} {f : Fo} {v : Value} (h : sliceOf w S f v) (hb : Below w.heap.size w w') : sliceOf w' S f v := h.keep hb.size fun x hx hl => ⟨hb.block x hl, hx⟩
end Go.Proofs.Ytkndlbcmbfgoaaa

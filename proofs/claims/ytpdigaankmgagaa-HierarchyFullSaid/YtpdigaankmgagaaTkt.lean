/- Blocks that hold one, two, three terms. No condition. -/
import Derived.Test.YtpdigaankmgagaaTK
set_option linter.unusedVariables false
set_option linter.unusedSimpArgs false
namespace Go.Proofs.Ytpdigaankmgagaa
open Go.RowKit Sx

theorem kt0 (X : World) : KT X .nil none 0 := ⟨Nat.le_refl _, [], fun h => absurd h (by simp [Fo.len]), rfl⟩
theorem kt1 {X : World} {g : Nat} {e : TypeId} {k o : Int} {t : List UInt8} {kids : Fo} {A : Option Addr} {c : Nat} (h : X.heap[g]? = some (.cells #[.int .i64 k, .string ⟨t.toArray⟩, .int .i64 o, .slice A kids.len c] e (0, 0))) (hk : KT X kids A c) : KT X (.cons k t kids o .nil) (some ⟨g, 0, none⟩) 1 := by
  obtain ⟨hc, ys, q1, q2⟩ := hk
  refine ⟨Nat.le_refl _, [.int .i64 k, .string ⟨t.toArray⟩, .int .i64 o, .slice A kids.len c], fun _ => ⟨g, 0, rfl, trivial, heap_lt h, fun j u hu => ?_⟩, A, c, ys, [], rfl, hc, q1, q2, rfl⟩
  rw [Nat.zero_add, cell_of_row _ _ j _ _ _ h]
  simpa using hu
theorem kt2 {X : World} {g : Nat} {e : TypeId} {k o k2 o2 : Int} {t t2 : List UInt8} {kids kids2 : Fo} {A A2 : Option Addr} {c c2 : Nat} (h : X.heap[g]? = some (.cells #[.int .i64 k, .string ⟨t.toArray⟩, .int .i64 o, .slice A kids.len c, .int .i64 k2, .string ⟨t2.toArray⟩, .int .i64 o2, .slice A2 kids2.len c2] e (0, 0))) (hk : KT X kids A c) (hk2 : KT X kids2 A2 c2) :
    KT X (.cons k t kids o (.cons k2 t2 kids2 o2 .nil)) (some ⟨g, 0, none⟩) 2 := by
  obtain ⟨hc, ys, q1, q2⟩ := hk
  obtain ⟨hc', ys', q1', q2'⟩ := hk2
  refine ⟨Nat.le_refl _, [.int .i64 k, .string ⟨t.toArray⟩, .int .i64 o, .slice A kids.len c, .int .i64 k2, .string ⟨t2.toArray⟩, .int .i64 o2, .slice A2 kids2.len c2], fun _ => ⟨g, 0, rfl, trivial, heap_lt h, fun j u hu => ?_⟩, A, c, ys, _, rfl, hc, q1, q2, A2, c2, ys', [], rfl, hc', q1', q2', rfl⟩
  rw [Nat.zero_add, cell_of_row _ _ j _ _ _ h]
  simpa using hu
theorem kt3 {X : World} {g : Nat} {e : TypeId} {k o k2 o2 k3 o3 : Int} {t t2 t3 : List UInt8} {kids kids2 kids3 : Fo} {A A2 A3 : Option Addr} {c c2 c3 : Nat} (h : X.heap[g]? = some (.cells #[.int .i64 k, .string ⟨t.toArray⟩, .int .i64 o, .slice A kids.len c, .int .i64 k2, .string ⟨t2.toArray⟩, .int .i64 o2, .slice A2 kids2.len c2, .int .i64 k3, .string ⟨t3.toArray⟩, .int .i64 o3, .slice A3 kids3.len c3] e (0, 0))) (hk : KT X kids A c) (hk2 : KT X kids2 A2 c2) (hk3 : KT X kids3 A3 c3) :
    KT X (.cons k t kids o (.cons k2 t2 kids2 o2 (.cons k3 t3 kids3 o3 .nil))) (some ⟨g, 0, none⟩) 3 := by
  obtain ⟨hc, ys, q1, q2⟩ := hk
  obtain ⟨hc', ys', q1', q2'⟩ := hk2
  obtain ⟨hd, zs, r1, r2⟩ := hk3
  refine ⟨Nat.le_refl _, [.int .i64 k, .string ⟨t.toArray⟩, .int .i64 o, .slice A kids.len c, .int .i64 k2, .string ⟨t2.toArray⟩, .int .i64 o2, .slice A2 kids2.len c2, .int .i64 k3, .string ⟨t3.toArray⟩, .int .i64 o3, .slice A3 kids3.len c3], fun _ => ⟨g, 0, rfl, trivial, heap_lt h, fun j u hu => ?_⟩, A, c, ys, _, rfl, hc, q1, q2, A2, c2, ys', _, rfl, hc', q1', q2', A3, c3, zs, [], rfl, hd, r1, r2, rfl⟩
  rw [Nat.zero_add, cell_of_row _ _ j _ _ _ h]
  simpa using hu

end Go.Proofs.Ytpdigaankmgagaa

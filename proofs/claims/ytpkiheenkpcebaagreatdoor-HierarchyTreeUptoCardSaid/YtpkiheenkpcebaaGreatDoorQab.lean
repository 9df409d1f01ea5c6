/- telmake.term: what it calls. No condition but what it reads. -/
import Derived.Test.YtpkiheenkpcebaaGreatDoorQaa
set_option linter.unusedVariables false
set_option linter.unusedSimpArgs false
namespace Go.Proofs.YtpkiheenkpcebaaGreatDoor
open Go.RowKit Sx

set_option maxHeartbeats 1000000 in
theorem existsC2 (k1 o1 k2 o2 : Int) (s1 s2 : ByteArray) (A1 A2 : Option Addr) (n1 c1 n2 c2 : Nat) (w : World) :
    Calls Tryz.prog 97 #[.agg #[.int .i64 k1, .string s1, .int .i64 o1, .slice A1 n1 c1], .agg #[.int .i64 k2, .string s2, .int .i64 o2, .slice A2 n2 c2]] w fun e w' =>
      ∃ g, w.heap.size ≤ g ∧ e = .returned (.agg #[.int .i64 6, .string ⟨#[]⟩, .int .i64 0, .slice (some ⟨g, 0, none⟩) 2 2]) ∧ w'.heap[g]? = some (.cells #[.int .i64 k1, .string s1, .int .i64 o1, .slice A1 n1 c1, .int .i64 k2, .string s2, .int .i64 o2, .slice A2 n2 c2] 34 (0, 0)) ∧ BH w w' := by
  obtain ⟨b0, b1, b2, b3⟩ := box4 w (.int .i64 k1) (.string s1) (.int .i64 o1) (.slice A1 n1 c1) 34
  have ha := heap_alloc_new w (.cells #[.int .i64 k1, .string s1, .int .i64 o1, .slice A1 n1 c1] 34 (0, 0))
  go_enter Tryz.func97, Tryz.ntmps97
  go_wp2_with (fail)
  obtain ⟨wb, hwb⟩ : ∃ wb, (w.alloc (.cells #[.int .i64 k1, .string s1, .int .i64 o1, .slice A1 n1 c1] 34)).alloc (.cells #[.int .i64 k2, .string s2, .int .i64 o2, .slice A2 n2 c2] 34) = wb := ⟨_, rfl⟩
  have hs : wb.heap.size = w.heap.size + 2 := by rw [← hwb]; simp
  have hb : BH w wb := by rw [← hwb]; exact ((Below.refl _ _).alloc (Nat.le_refl _) _).alloc (by simp) _
  rw [hwb]
  have h1 := heap_alloc_new wb (.cells #[.int .i64 6, .string ⟨#[]⟩, .int .i64 0, .slice (some ⟨w.heap.size + 1 + 1 + 1, 0, none⟩) 2 2] 34 (0, 0))
  rw [hs] at h1
  have h2 := (Below.heap_alloc (wb.alloc (.cells #[.int .i64 6, .string ⟨#[]⟩, .int .i64 0, .slice (some ⟨w.heap.size + 1 + 1 + 1, 0, none⟩) 2 2] 34 (0, 0))) (.cells #[.int .i64 k1, .string s1, .int .i64 o1, .slice A1 n1 c1, .int .i64 k2, .string s2, .int .i64 o2, .slice A2 n2 c2] 34 (0, 0)) (w.heap.size + 2) (by simp [hs])).trans h1
  have h3 := heap_alloc_new (wb.alloc (.cells #[.int .i64 6, .string ⟨#[]⟩, .int .i64 0, .slice (some ⟨w.heap.size + 1 + 1 + 1, 0, none⟩) 2 2] 34 (0, 0))) (.cells #[.int .i64 k1, .string s1, .int .i64 o1, .slice A1 n1 c1, .int .i64 k2, .string s2, .int .i64 o2, .slice A2 n2 c2] 34 (0, 0))
  have hs3 : (wb.alloc (.cells #[.int .i64 6, .string ⟨#[]⟩, .int .i64 0, .slice (some ⟨w.heap.size + 1 + 1 + 1, 0, none⟩) 2 2] 34 (0, 0))).heap.size = w.heap.size + 1 + 1 + 1 := by simp [hs]
  rw [hs3] at h3
  obtain ⟨m0, m1, m2, m3, _⟩ := row4 h2
  exact bodyPost_ret (v := .agg #[.int .i64 6, .string ⟨#[]⟩, .int .i64 0, .slice (some ⟨w.heap.size + 1 + 1 + 1, 0, none⟩) 2 2]) (by simp [results, Tryz.results97, go_sem, m0, m1, m2, m3]) rfl
    ⟨_, by omega, rfl, h3, Below.alloc (Below.alloc hb (by omega) _) (by simp; omega) _⟩


theorem unionC (A : Option Addr) (n c : Nat) (w : World) : Calls Tryz.prog 96 #[.slice A n c] w fun e w' => e = .returned (.agg #[.int .i64 4, .string ⟨#[]⟩, .int .i64 0, .slice A n c]) ∧ BH w w' := by
  go_enter Tryz.func96, Tryz.ntmps96
  go_wp2_with (fail)
  obtain ⟨m0, m1, m2, m3⟩ := box4 w (.int .i64 4) (.string ⟨#[]⟩) (.int .i64 0) (.slice A n c) 34
  exact bodyPost_ret (v := .agg #[.int .i64 4, .string ⟨#[]⟩, .int .i64 0, .slice A n c]) (by simp [results, Tryz.results96, go_sem, m0, m1, m2, m3]) rfl ⟨rfl, (Below.refl _ _).alloc (Nat.le_refl _) _⟩
theorem neverC (w : World) : Calls Tryz.prog 98 #[] w fun e w' => e = .returned (.agg #[.int .i64 1, .string ⟨#[]⟩, .int .i64 0, .slice none 0 0]) ∧ BH w w' := by
  go_enter Tryz.func98, Tryz.ntmps98
  go_wp2_with (fail)
  obtain ⟨m0, m1, m2, m3⟩ := box4 w (.int .i64 1) (.string ⟨#[]⟩) (.int .i64 0) (.slice none 0 0) 34
  exact bodyPost_ret (v := .agg #[.int .i64 1, .string ⟨#[]⟩, .int .i64 0, .slice none 0 0]) (by simp [results, Tryz.results98, go_sem, m0, m1, m2, m3]) rfl ⟨rfl, (Below.refl _ _).alloc (Nat.le_refl _) _⟩

/-- a block that holds terms -/
theorem blk_reads {w : World} {S : Nat → Prop} {g n : Nat} {e : TypeId} {cs : Array Value} (h : w.heap[g]? = some (.cells cs e (0, 0))) (hS : S g) : readsAt w S (some ⟨g, 0, none⟩) n cs.toList := by
  intro _
  refine ⟨g, 0, rfl, hS, heap_lt h, fun j u hu => ?_⟩
  rw [Nat.zero_add, cell_of_row _ _ j _ _ _ h]
  simpa using hu
theorem row_one {w : World} {S : Nat → Prop} {q o : Int} {t : List UInt8} {kids : Fo} {A : Option Addr} {c : Nat} {ys : List Value} (hc : kids.len ≤ c) (hr : readsAt w S A kids.len ys) (hk : rowT w S kids ys) :
    rowT w S (.cons q t kids o .nil) [.int .i64 q, .string ⟨t.toArray⟩, .int .i64 o, .slice A kids.len c] :=
  ⟨A, c, ys, [], rfl, hc, hr, hk, rfl⟩
theorem row_two {w : World} {S : Nat → Prop} {q o q2 o2 : Int} {t t2 : List UInt8} {kids kids2 : Fo} {A A2 : Option Addr} {c c2 : Nat} {ys ys2 : List Value} (hc : kids.len ≤ c) (hr : readsAt w S A kids.len ys) (hk : rowT w S kids ys)
    (hc2 : kids2.len ≤ c2) (hr2 : readsAt w S A2 kids2.len ys2) (hk2 : rowT w S kids2 ys2) :
    rowT w S (.cons q t kids o (.cons q2 t2 kids2 o2 .nil)) [.int .i64 q, .string ⟨t.toArray⟩, .int .i64 o, .slice A kids.len c, .int .i64 q2, .string ⟨t2.toArray⟩, .int .i64 o2, .slice A2 kids2.len c2] :=
  ⟨A, c, ys, _, rfl, hc, hr, hk, row_one hc2 hr2 hk2⟩
theorem closed_two {q1 o1 q2 o2 : Int} {t1 t2 : List UInt8} {f1 f2 : Fo} {b : Int} (h1 : closed1 q1 o1 f1 b = true) (h2 : closed1 q2 o2 f2 b = true) : closedL 0 0 b (.cons q1 t1 f1 o1 (.cons q2 t2 f2 o2 .nil)) = true := by
  rw [show (Fo.cons q1 t1 f1 o1 (.cons q2 t2 f2 o2 .nil)) = (Fo.one q1 t1 f1 o1).app (.one q2 t2 f2 o2) from rfl, closedL_app, closed1_one h1, closed1_one h2]
  rfl

/-- what lies in new blocks stays there behind a call that touches the stream alone -/
theorem row_far {w1 w2 : World} {b N : Nat} {S : Nat → Prop} {kids : Fo} {A : Option Addr} {ys : List Value} (hg : w1.grownBy w2 (some b)) (hb : b ≤ N) (hS : ∀ x, S x → N < x) (hr : readsAt w1 S A kids.len ys) (hk : rowT w1 S kids ys) :
    readsAt w2 (fun x => N < x) A kids.len ys ∧ rowT w2 (fun x => N < x) kids ys := by
  have hkeep : ∀ x, S x → x < w1.heap.size → w2.heap[x]? = w1.heap[x]? ∧ N < x := fun x hx hl => ⟨hg.block x hl (by have := hS x hx; simp; omega), hS x hx⟩
  exact ⟨hr.keep hg.size hkeep, hk.keep hg.size hkeep _⟩
theorem row_bh {w1 w2 : World} {N : Nat} {S : Nat → Prop} {kids : Fo} {A : Option Addr} {ys : List Value} (hg : BH w1 w2) (hS : ∀ x, S x → N < x) (hr : readsAt w1 S A kids.len ys) (hk : rowT w1 S kids ys) :
    readsAt w2 (fun x => N < x) A kids.len ys ∧ rowT w2 (fun x => N < x) kids ys := by
  have hkeep : ∀ x, S x → x < w1.heap.size → w2.heap[x]? = w1.heap[x]? ∧ N < x := fun x hx hl => ⟨Below.block hg x hl, hS x hx⟩
  exact ⟨hr.keep (Below.size hg) hkeep, hk.keep (Below.size hg) hkeep _⟩
end Go.Proofs.YtpkiheenkpcebaaGreatDoor

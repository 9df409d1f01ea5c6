/- The specification's own reader: bytes, its parser in memory, fail, skip. -/
import Derived.Test.YtkndlbcmbfgoaaaUtil
import Derived.Test.YtkndlbcmbfgoaaaUtil2
import Derived.Test.YtkndlbcmbfgoaaaSx
set_option linter.unusedVariables false
set_option linter.unusedSimpArgs false
namespace Go.Proofs.Ytkndlbcmbfgoaaa
open Go.RowKit Sx

theorem rIsLetter_any (n : Int) (w : World) (h0 : 0 ≤ n) (h1 : n ≤ 255) :
    Calls Try.prog 37 #[.int .u8 n] w fun e w' => e = .returned (.bool (letterB n)) ∧ w = w' := by
  go_enter Try.func37, Try.ntmps37
  go_wp2
  all_goals go_ret
  all_goals exact ⟨ret_bool (by rw [Bool.eq_iff_iff]; simp [letterB] <;> omega), rfl⟩
theorem rIsDigit_any (n : Int) (w : World) (h0 : 0 ≤ n) (h1 : n ≤ 255) :
    Calls Try.prog 38 #[.int .u8 n] w fun e w' => e = .returned (.bool (digitB n)) ∧ w = w' := by
  go_enter Try.func38, Try.ntmps38
  go_wp2
  all_goals go_ret
  all_goals exact ⟨ret_bool (by rw [Bool.eq_iff_iff]; simp [digitB] <;> omega), rfl⟩
theorem rIsWordByte_any (n : Int) (w : World) (h0 : 0 ≤ n) (h1 : n ≤ 255) :
    Calls Try.prog 31 #[.int .u8 n] w fun e w' => e = .returned (.bool (wordB n)) ∧ w = w' := by
  go_enter Try.func31, Try.ntmps31
  go_wp2_with (first | (go_at_call 37; refine (rIsLetter_any _ _ (by assumption) (by assumption)).mono ?_; rintro e w' ⟨rfl, rfl⟩) | (go_at_call 38; refine (rIsDigit_any _ _ (by assumption) (by assumption)).mono ?_; rintro e w' ⟨rfl, rfl⟩))
  all_goals go_ret
  all_goals exact ⟨ret_bool (by rw [Bool.eq_iff_iff]; simp_all [wordB]), rfl⟩
theorem rIsWordByte_yes (n : Int) (w : World) (h0 : 0 ≤ n) (h1 : n ≤ 255) (h : wordB n = true) :
    Calls Try.prog 31 #[.int .u8 n] w fun e w' => e = .returned (.bool true) ∧ w = w' :=
  (rIsWordByte_any n w h0 h1).mono fun _ _ ⟨he, hw⟩ => ⟨by rw [he, h], hw⟩
theorem rIsWordByte_no (n : Int) (w : World) (h0 : 0 ≤ n) (h1 : n ≤ 255) (h : wordB n = false) :
    Calls Try.prog 31 #[.int .u8 n] w fun e w' => e = .returned (.bool false) ∧ w = w' :=
  (rIsWordByte_any n w h0 h1).mono fun _ _ ⟨he, hw⟩ => ⟨by rw [he, h], hw⟩

/-- Block b is a parser of telref1: its text, its position, its fault. -/
def RA (w : World) (b : Nat) (s : ByteArray) (p : Nat) (k o : Int) : Prop := w.heap[b]? = some (.cells #[.string s, .int .i64 (p : Int), .int .i64 k, .int .i64 o] 48 (0, 0))

section
variable {w w' : World} {b p : Nat} {s : ByteArray} {k o : Int}
theorem RA.row (h : RA w b s p k o) : w.cell? ⟨b, 0, none⟩ = some (.string s) ∧ w.cell? ⟨b, 1, none⟩ = some (.int .i64 (p : Int)) ∧ w.cell? ⟨b, 2, none⟩ = some (.int .i64 k) ∧ w.cell? ⟨b, 3, none⟩ = some (.int .i64 o) ∧
    w.frozen? ⟨b, 0, none⟩ = false ∧ w.frozen? ⟨b, 1, none⟩ = false ∧ w.frozen? ⟨b, 2, none⟩ = false ∧ w.frozen? ⟨b, 3, none⟩ = false := row4 h
theorem RA.set (h : RA w b s p k o) (q : Nat) : RA (w.setCell ⟨b, 1, none⟩ (.int .i64 (q : Int))) b s q k o := heap_set h _
theorem RA.setK (h : RA w b s p k o) (k' o' : Int) : RA ((w.setCell ⟨b, 2, none⟩ (.int .i64 k')).setCell ⟨b, 3, none⟩ (.int .i64 o')) b s p k' o' := heap_set (heap_set h _) _
theorem RA.drewN (h : RA w b s p k o) (n : Nat) : RA (w.drewN n) b s p k o := h
theorem RA.lt (h : RA w b s p k o) : b < w.heap.size := heap_lt h
theorem RA.alloc (h : RA w b s p k o) (ob : Obj) : RA (w.alloc ob) b s p k o := (Below.heap_alloc w ob b h.lt).trans h
theorem RA.kept (h : RA w b s p k o) (hk : w'.heap[b]? = w.heap[b]?) : RA w' b s p k o := hk.trans h
theorem RA.far (h : RA w b s p k o) {a : Addr} (ha : b ≠ a.block) (u : Value) : RA (w.setCell a u) b s p k o := (Below.heap_setCell w a u b ha).trans h
theorem RA.pos (h : RA w b s p k o) : (match w.cell? ⟨b, 1, none⟩ with | some (.int _ n) => n.toNat | _ => 0) = p := by rw [h.row.2.1]; simp
end

def posR (w : World) (b : Nat) : Nat := match w.cell? ⟨b, 1, none⟩ with | some (.int _ n) => n.toNat | _ => 0
theorem RA.posR {w : World} {b : Nat} {s : ByteArray} {p : Nat} {k o : Int} (h : RA w b s p k o) : posR w b = p := h.pos

set_option maxHeartbeats 400000 in
theorem rFail_any (b : Nat) (s : ByteArray) (p : Nat) (o e off : Int) (w : World) (h : RA w b s p 0 o) :
    Calls Try.prog 29 #[.pointer (some ⟨b, 0, none⟩), .int .i64 e, .int .i64 off] w fun en w' => en = .returned (.tuple #[]) ∧ RA w' b s p e off ∧ w.grownBy w' (some b) := by
  obtain ⟨c0, c1, c2, c3, z0, z1, z2, z3⟩ := h.row
  go_enter Try.func29, Try.ntmps29
  go_wp2
  go_end0
  refine ⟨rfl, h.setK e off, ?_⟩
  refine gb_setCell ?_ (.inl rfl) _
  refine gb_setCell ?_ (.inl rfl) _
  exact World.grownBy.refl _ _

set_option maxHeartbeats 1000000 in
theorem rSkip_any (b : Nat) (s : ByteArray) (p : Nat) (k o : Int) (w : World) (h : RA w b s p k o) (hs : s.size ≤ maxLen) (hp : p ≤ s.size) :
    Calls Try.prog 28 #[.pointer (some ⟨b, 0, none⟩)] w fun e w' => e = .returned (.tuple #[]) ∧ RA w' b s (p + skipN false (s.data.toList.drop p)) k o ∧ w.grownBy w' (some b) := by
  unfold maxLen at hs
  go_enter Try.func28, Try.ntmps28
  go_wp2_with (fail)
  go_loopw [] (fun wr => ∃ q : Nat, q ≤ s.size ∧ RA wr b s q k o ∧ w.grownBy wr (some b) ∧ q + skipN false (s.data.toList.drop q) = p + skipN false (s.data.toList.drop p)) (fun wr => s.size - posR wr b)
  case atStart => exact ⟨p, hp, h, World.grownBy.refl _ _, rfl⟩
  case round =>
    obtain ⟨q, hq, hRA, hg, he⟩ := hrel
    have He := Lib.hid he
    clear he
    obtain ⟨c0, c1, c2, c3, z0, z1, z2, z3⟩ := hRA.row
    by_cases hlt : q < s.size
    · have hget := Lib.hid (drop_at s q hlt)
      have hti : decide ((q : Int) < (s.size : Int)) = true := by simp; omega
      have b0 := byte_lo s[q]
      have b1 := byte_hi s[q]
      cases t10 : ((s[q].toNat : Int) == 10)
      · cases t32 : ((s[q].toNat : Int) == 32)
        · cases t59 : ((s[q].toNat : Int) == 59)
          · go_wp2_with (fail)
            go_quiet (fail)
            go_wp2_with (fail)
            go_quiet (fail)
            go_wp2_with (fail)
            refine bodyPost_ret (results_none rfl _ _ _) rfl ?_
            have he := He.out
            rw [hget.out, skipN_else t10 t32 t59] at he
            refine ⟨rfl, ?_, gb_drewN hg _⟩
            rw [← he]
            exact hRA
          · go_wp2_with (fail)
            go_quiet (fail)
            go_wp2_with (fail)
            go_quiet (fail)
            go_wp2_with (fail)
            have he := He.out
            rw [hget.out, skipN_59 t10 t32 t59] at he
            have He3 := Lib.hid (show q + skipN true (s.data.toList.drop q) = p + skipN false (s.data.toList.drop p) from by rw [hget.out, skipN_true t10]; exact he)
            clear he He
            obtain ⟨wo, rfl⟩ : ∃ wo : World, wo = wr := ⟨_, rfl⟩
            go_loopw [] (fun wi => ∃ q' : Nat, q ≤ q' ∧ q' ≤ s.size ∧ RA wi b s q' k o ∧ w.grownBy wi (some b) ∧ q' + skipN true (s.data.toList.drop q') = p + skipN false (s.data.toList.drop p)) (fun wi => s.size - posR wi b)
            case atStart => exact ⟨q, Nat.le_refl _, hq, hRA, gb_drewN hg _, He3.out⟩
            case round =>
              obtain ⟨q', hqq, hq', hRA', hg', he'⟩ := hrel
              have He' := Lib.hid he'
              clear he' He3 c0 c1 c2 c3 z0 z1 z2 z3 hti b0 b1
              have T10 := Lib.hid t10
              clear t10 t32 t59
              obtain ⟨c0, c1, c2, c3, z0, z1, z2, z3⟩ := hRA'.row
              by_cases hlt' : q' < s.size
              · have hget' := Lib.hid (drop_at s q' hlt')
                have hti' : decide ((q' : Int) < (s.size : Int)) = true := by simp; omega
                cases t : ((s[q'].toNat : Int) == 10)
                · have t' : ((s[q'].toNat : Int) != 10) = true := by simp [bne, t]
                  go_wp2_with (fail)
                  go_quiet (fail)
                  go_wp2_with (fail)
                  have he' := He'.out
                  rw [hget'.out, skipN_true t] at he'
                  exact ⟨⟨q' + 1, by omega, by omega, (hRA'.drewN _).set (q' + 1), gb_setCell (gb_drewN hg' _) (.inl rfl) _, by omega⟩, meas hRA'.posR ((hRA'.drewN _).set (q' + 1)).posR hlt'⟩
                · have t' : ((s[q'].toNat : Int) != 10) = false := by simp [bne, t]
                  go_wp2_with (fail)
                  go_quiet (fail)
                  go_wp2_with (fail)
                  have he' := He'.out
                  rw [hget'.out, skipN_10 t, ← skipN_10 (ic := false) t, ← hget'.out] at he'
                  have hlt2 : q < q' := by
                    rcases Nat.lt_or_ge q q' with hh | hh
                    · exact hh
                    · have e : q' = q := by omega
                      subst e
                      rw [T10.out] at t
                      cases t
                  exact ⟨⟨q', hq', hRA'.drewN _, gb_drewN hg' _, he'⟩, meas2 hRA.posR (hRA'.drewN _).posR hlt hlt2⟩
              · have hti' : decide ((q' : Int) < (s.size : Int)) = false := by simp; omega
                go_wp2_with (fail)
                go_quiet (fail)
                go_wp2_with (fail)
                have he' := He'.out
                rw [drop_end s q' (by omega)] at he'
                exact ⟨⟨q', hq', hRA'.drewN _, gb_drewN hg' _, by rw [drop_end s q' (by omega)]; exact he'⟩, meas2 hRA.posR (hRA'.drewN _).posR hlt (by omega)⟩
        · go_wp2_with (fail)
          go_quiet (fail)
          go_wp2_with (fail)
          go_quiet (fail)
          go_wp2_with (fail)
          have he := He.out
          rw [hget.out, skipN_32 t10 t32] at he
          exact ⟨⟨q + 1, by omega, (hRA.drewN _).set (q + 1), gb_setCell (gb_drewN hg _) (.inl rfl) _, by omega⟩, meas hRA.posR ((hRA.drewN _).set (q + 1)).posR hlt⟩
      · go_wp2_with (fail)
        go_quiet (fail)
        go_wp2_with (fail)
        go_quiet (fail)
        go_wp2_with (fail)
        all_goals have he := He.out
        all_goals rw [hget.out, skipN_10 t10] at he
        all_goals exact ⟨⟨q + 1, by omega, (hRA.drewN _).set (q + 1), gb_setCell (gb_drewN hg _) (.inl rfl) _, by omega⟩, meas hRA.posR ((hRA.drewN _).set (q + 1)).posR hlt⟩
    · have hti : decide ((q : Int) < (s.size : Int)) = false := by simp; omega
      go_wp2_with (fail)
      go_quiet (fail)
      go_wp2_with (fail)
      go_end0
      have he := He.out
      rw [drop_end s q (by omega)] at he
      refine ⟨rfl, ?_, gb_drewN hg _⟩
      rw [← he]
      exact hRA
end Go.Proofs.Ytkndlbcmbfgoaaa

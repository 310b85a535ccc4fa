/- The reference's Size of a value, up to a limit. -/
import Derived.Test.YtohoobgbmhondaaCodLies
namespace Go.Proofs.Ytohoobgbmhondaa.Cod
open Go Go.RowKit

theorem size_n : ∀ (n : Nat) (t : T) (v : Value) (F : Nat → Prop) (w : World) (m : Nat), szT t ≤ n → Lies w F t v → 1 ≤ m → m ≤ 1000000 →
    Calls Try.prog 26 #[v, .int .i64 m] w fun e w' => e = .returned (.int .i64 ((min (szT t) m : Nat) : Int)) ∧ Below w.heap.size w w' := by
  intro n
  induction n with
  | zero => intro t v F w m h; have := szT_pos t; omega
  | succ n ih =>
    intro t v F w m hn hL hm1 hm2
    obtain ⟨k, i, s, l⟩ := t
    obtain ⟨sb, A, c, rfl, _, hk, hi, _, hl, hA⟩ := hL.node
    have hsz : Hid (szT (.node k i s l) = 1 + szL l) := Lib.hid rfl
    clear hL
    have IH := Lib.hid ih
    clear ih
    obtain ⟨W1, hW1⟩ : ∃ W1, W1 = w.alloc (.cells #[.int .i64 k, .int .i64 i, .string sb, .slice A l.length c] 27) := ⟨_, rfl⟩
    have HW1 := Lib.hid hW1
    have hB1 : Below w.heap.size w W1 := by rw [hW1]; exact (Below.refl _ _).alloc (Nat.le_refl _) _
    have hA1 := hA.below hB1
    have hc3 : W1.cell? ⟨w.heap.size, 3, none⟩ = some (.slice A l.length c) := by rw [hW1]; simp
    clear hA
    go_enter Try.func26, Try.ntmps26
    go_wp2
    rw [← HW1.out]
    go_loopw [5, 6] (fun a b wr => ∃ j : Nat, j ≤ l.length ∧ b = .int .i64 j ∧ a = .int .i64 ((min (1 + szL (l.take j)) m : Nat) : Int) ∧ Below W1.heap.size W1 wr)
      (fun _ b _ => l.length - (intOf b).toNat)
    case atStart => exact ⟨0, Nat.zero_le _, rfl, by simp [szL]; omega, Below.refl _ _⟩
    case round =>
      obtain ⟨j, hj, rfl, rfl, hb⟩ := hrel
      have hcw := (hb.cell (World.block_lt_of_cell? _ _ hc3)).trans hc3
      have hAw := hA1.below hb
      have hB := hB1.trans (hb.mono hB1.size)
      obtain ⟨N, hN⟩ : ∃ N, min (1 + szL (l.take j)) m = N := ⟨_, rfl⟩
      rw [hN]
      have hN1 : 1 ≤ N := by omega
      have hNm : N ≤ m := by omega
      by_cases hlt : j < l.length
      · by_cases hm : N < m
        · obtain ⟨b, off, v0, v1, v2, v3, rfl, hF, c0, c1, c2, c3, hLj⟩ := hAw.get hlt
          have hszj : szT l[j] ≤ n := by have h1 := szL_get hlt; have h2 := hsz.out; omega
          have hnext : Hid (N + min (szT l[j]) (m - N) = min (1 + szL (l.take (j + 1))) m) := Lib.hid (by
            rw [List.take_succ_eq_append_getElem hlt, szL_append]; simp only [szL]; omega)
          have hlast : min (szT l[j]) (m - N) ≤ m := by omega
          have hmn : ((m - N : Nat) : Int) = (m : Int) - N := by omega
          have HC := Lib.hid (IH.out l[j] _ F wr (m - N) hszj hLj (by omega) (by omega))
          rw [hmn] at HC
          clear hN hAw hmn
          go_wp2_with (first | (go_at_call 26; refine HC.out.mono ?_; rintro e w' ⟨rfl, hb'⟩) | fail)
          go_roundw
          case rel => exact ⟨j + 1, by omega, by go_num, by rw [← hnext.out]; go_num, hb.trans (hb'.mono hb.size)⟩
          case measure => simp [intOf]; omega
        · have hfin : Hid (min (szT (.node k i s l)) m = N) := Lib.hid (by
            have h1 := hsz.out
            have h2 := szL_take l j
            omega)
          clear hN hAw
          go_wp2_with fail
          go_ret
          exact ⟨ret_nat hfin.out.symm, hB⟩
      · have hfin : Hid (min (szT (.node k i s l)) m = N) := Lib.hid (by rw [hsz.out, ← hN, List.take_of_length_le (by omega)])
        clear hN hAw
        go_wp2_with fail
        go_ret
        exact ⟨ret_nat hfin.out.symm, hB⟩
theorem size_any {t : T} {v : Value} {F : Nat → Prop} {w : World} (m : Nat) (h : Lies w F t v) (h1 : 1 ≤ m) (h2 : m ≤ 1000000) :
    Calls Try.prog 26 #[v, .int .i64 m] w fun e w' => e = .returned (.int .i64 ((min (szT t) m : Nat) : Int)) ∧ Below w.heap.size w w' := size_n _ t v F w m (Nat.le_refl _) h h1 h2

/-- short -/
theorem short_n : ∀ (n : Nat) (t : T) (v : Value) (F : Nat → Prop) (w : World), szT t ≤ n → Lies w F t v →
    Calls Try.prog 27 #[v] w fun e w' => e = .returned (.bool (shT t)) ∧ Below w.heap.size w w' := by
  intro n
  induction n with
  | zero => intro t v F w h; have := szT_pos t; omega
  | succ n ih =>
    intro t v F w hn hL
    obtain ⟨k, i, s, l⟩ := t
    obtain ⟨sb, A, c, rfl, hs, hk, hi, hs2, hl, hA⟩ := hL.node
    have hss : sb.size = s.length := by subst hs; simp
    have hsb : sb.size ≤ 9223372036854775807 := by omega
    have HSS := Lib.hid hss
    have hsz : Hid (szT (.node k i s l) = 1 + szL l) := Lib.hid rfl
    have IH := Lib.hid ih
    clear hL ih hs hss
    obtain ⟨W1, hW1⟩ : ∃ W1, W1 = w.alloc (.cells #[.int .i64 k, .int .i64 i, .string sb, .slice A l.length c] 27) := ⟨_, rfl⟩
    have HW1 := Lib.hid hW1
    have hB1 : Below w.heap.size w W1 := by rw [hW1]; exact (Below.refl _ _).alloc (Nat.le_refl _) _
    have hA1 := hA.below hB1
    have hc3 : W1.cell? ⟨w.heap.size, 3, none⟩ = some (.slice A l.length c) := by rw [hW1]; simp
    have hc2 : W1.cell? ⟨w.heap.size, 2, none⟩ = some (.string sb) := by rw [hW1]; simp
    clear hA hW1
    go_enter Try.func27, Try.ntmps27
    go_wp2
    rw [← HW1.out]
    go_loopw [3] (fun b wr => ∃ j : Nat, j ≤ l.length ∧ b = .int .i64 j ∧ Hid (shL l = shL (l.drop j)) ∧ Below W1.heap.size W1 wr)
      (fun b _ => l.length - (intOf b).toNat)
    case atStart => exact ⟨0, Nat.zero_le _, rfl, Lib.hid rfl, Below.refl _ _⟩
    case round =>
      obtain ⟨j, hj, rfl, hall, hb⟩ := hrel
      have hcw := (hb.cell (World.block_lt_of_cell? _ _ hc3)).trans hc3
      have hcx := (hb.cell (World.block_lt_of_cell? _ _ hc2)).trans hc2
      have hAw := hA1.below hb
      have hB := hB1.trans (hb.mono hB1.size)
      by_cases hlt : j < l.length
      · obtain ⟨b, off, v0, v1, v2, v3, rfl, hF, c0, c1, c2, c3, hLj⟩ := hAw.get hlt
        have hszj : szT l[j] ≤ n := by have h1 := szL_get hlt; have h2 := hsz.out; omega
        have HC := Lib.hid (IH.out l[j] _ F wr hszj hLj)
        cases hv : shT l[j] with
        | true =>
          have hnext : Hid (shL l = shL (l.drop (j + 1))) := Lib.hid (by rw [hall.out, shL_drop hlt, hv]; rfl)
          rw [hv] at HC
          clear hAw hv
          go_wp2_with (first | (go_at_call 27; refine HC.out.mono ?_; rintro e w' ⟨rfl, hb'⟩) | fail)
          go_roundw
          case rel => exact ⟨j + 1, by omega, by go_num, hnext, hb.trans (hb'.mono hb.size)⟩
          case measure => simp [intOf]; omega
        | false =>
          have hfin : Hid (shT (.node k i s l) = false) := Lib.hid (by rw [shT, hall.out, shL_drop hlt, hv]; rfl)
          rw [hv] at HC
          clear hAw hv
          go_wp2_with (first | (go_at_call 27; refine HC.out.mono ?_; rintro e w' ⟨rfl, hb'⟩) | fail)
          go_ret
          exact ⟨ret_bool hfin.out.symm, hB.trans (hb'.mono hB.size)⟩
      · have hfin : Hid (shT (.node k i s l) = decide ((sb.size : Int) ≤ 5000)) := Lib.hid (by
          rw [shT, hall.out, shL_end hlt, HSS.out, Bool.true_and, decide_eq_decide]; omega)
        clear hAw
        go_wp2_with fail
        go_ret
        exact ⟨ret_bool hfin.out.symm, hB⟩
theorem short_any {t : T} {v : Value} {F : Nat → Prop} {w : World} (h : Lies w F t v) :
    Calls Try.prog 27 #[v] w fun e w' => e = .returned (.bool (shT t)) ∧ Below w.heap.size w w' := short_n _ t v F w (Nat.le_refl _) h
end Go.Proofs.Ytohoobgbmhondaa.Cod

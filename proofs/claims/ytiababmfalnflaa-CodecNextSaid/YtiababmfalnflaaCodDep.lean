/- Depth of package codec and of the reference; the reference's proper and Valid. -/
import Derived.Test.YtiababmfalnflaaCodVal
namespace Go.Proofs.Ytiababmfalnflaa.Cod
open Go Go.RowKit

/-- codec.Depth -/
theorem depth_n : ∀ (n : Nat) (t : T) (v : Value) (F : Nat → Prop) (w : World), szT t ≤ n → szT t ≤ 1000000 → Lies w F t v →
    Calls Try.prog 17 #[v] w fun e w' => e = .returned (.int .i64 ((depT t : Nat) : Int)) ∧ Below w.heap.size w w' := by
  intro n
  induction n with
  | zero => intro t v F w h; have := szT_pos t; omega
  | succ n ih =>
    intro t v F w hn hm hL
    obtain ⟨k, i, s, l⟩ := t
    obtain ⟨sb, A, c, rfl, hs, hk, hi, hs2, hl, hA⟩ := hL.node
    have hsz : Hid (szT (.node k i s l) = 1 + szL l) := Lib.hid rfl
    have IH := Lib.hid ih
    obtain ⟨N, hN⟩ : ∃ N, w.heap.size = N := ⟨_, rfl⟩
    obtain ⟨W1, hW1⟩ : ∃ W1, W1 = w.alloc (.cells #[.int .i64 k, .int .i64 i, .string sb, .slice A l.length c] 29) := ⟨_, rfl⟩
    have HW1 := Lib.hid hW1
    have hs1 : W1.heap.size = N + 1 := by rw [hW1]; exact size_new hN _
    have hB1 : Below N w W1 := by rw [hW1, ← hN]; exact below_new _ _
    have hc3 : W1.cell? ⟨N, 3, none⟩ = some (.slice A l.length c) := by rw [hW1]; exact new_cell hN _ _ 3 rfl
    have hA1 : ListAt W1 F A l := hA.below (by rw [hN]; exact hB1)
    have HN := Lib.hid hN
    clear hL ih hs hA hW1
    by_cases hk3 : k = 3
    · subst hk3
      have heq : Hid (depT (.node 3 i s l) = depL l + 1) := Lib.hid (by simp [depT])
      go_enter Try.func17, Try.ntmps17
      go_wp2
      rw [← HW1.out]
      go_loopw [3, 12] (fun a b wr => ∃ (j q : Nat), j ≤ l.length ∧ b = .int .i64 j ∧ a = .int .i64 q ∧ q ≤ 1000000 ∧ Hid (depL l = max q (depL (l.drop j))) ∧ Below W1.heap.size W1 wr)
        (fun _ b _ => l.length - (intOf b).toNat)
      case atStart => exact ⟨0, 0, Nat.zero_le _, rfl, rfl, by omega, Lib.hid (by simp), Below.refl _ _⟩
      case round =>
        obtain ⟨j, q, hj, rfl, rfl, hq, hall, hb⟩ := hrel
        have hAw := hA1.below hb
        have hB := hB1.trans (hb.mono (by omega))
        by_cases hlt : j < l.length
        · obtain ⟨b, off, xa, xi, xs, xB, xn, xc, rfl, hF, c0, c1, c2, c3, hLj⟩ := hAw.at hlt
          have hszj : szT l[j] ≤ n := by have h1 := szL_get hlt; have h2 := hsz.out; omega
          have hszm : szT l[j] ≤ 1000000 := by have h1 := szL_get hlt; have h2 := hsz.out; omega
          obtain ⟨p, hp⟩ : ∃ p, depT l[j] = p := ⟨_, rfl⟩
          have hp2 : p ≤ 1000000 := by rw [← hp]; have := dep_sz l[j]; omega
          have HC : Hid (Calls Try.prog 17 #[.agg #[.int .i64 xa, .int .i64 xi, .string xs, .slice xB xn xc]] (wr.alloc (.cells #[.int .i64 xa, .int .i64 xi, .string xs, .slice xB xn xc] 29)) fun e w' => e = .returned (.int .i64 (p : Int)) ∧ Below (wr.alloc (.cells #[.int .i64 xa, .int .i64 xi, .string xs, .slice xB xn xc] 29)).heap.size (wr.alloc (.cells #[.int .i64 xa, .int .i64 xi, .string xs, .slice xB xn xc] 29)) w') :=
            Lib.hid (by rw [← hp]; exact IH.out l[j] _ F _ hszj hszm (hLj.below (below_new _ _)))
          have HBN := Lib.hid (below_new wr (.cells #[.int .i64 xa, .int .i64 xi, .string xs, .slice xB xn xc] 29))
          have hnext : Hid (depL l = max (max q p) (depL (l.drop (j + 1)))) := Lib.hid (by rw [hall.out, depL_drop hlt, hp]; omega)
          clear hAw hN hp
          go_wp2_with (first | (go_at_call 17; refine HC.out.mono ?_; rintro e w' ⟨rfl, hb'⟩) | fail)
          go_roundw
          case rel => exact ⟨j + 1, max q p, by omega, by go_num, by congr 1; split <;> omega, by omega, hnext, hb.trans (((HBN.out).trans (hb'.mono HBN.out.size)).mono hb.size)⟩
          case measure => simp [intOf]; omega
        · have hfin : Hid (((depT (.node 3 i s l) : Nat) : Int) = 1 + (q : Int)) := Lib.hid (by rw [heq.out, hall.out, depL_end hlt]; omega)
          clear hAw
          go_wp2_with fail
          go_ret
          refine ⟨ret_int hfin.out.symm, ?_⟩
          rw [HN.out]
          exact hB
    · have heq : Hid (depT (.node k i s l) = 1) := Lib.hid (by rw [depT, if_neg hk3])
      have hkn : (k == 3) = false := by simpa using hk3
      have hkn2 : (k != 3) = true := by simpa using hk3
      clear hN hk3
      go_enter Try.func17, Try.ntmps17
      go_wp2_with fail
      go_ret
      exact ⟨ret_int (by rw [heq.out]; rfl), below_new w _⟩
/-- the reference's Depth -/
theorem rdepth_n : ∀ (n : Nat) (t : T) (v : Value) (F : Nat → Prop) (w : World), szT t ≤ n → szT t ≤ 1000000 → Lies w F t v →
    Calls Try.prog 18 #[v] w fun e w' => e = .returned (.int .i64 ((depT t : Nat) : Int)) ∧ Below w.heap.size w w' := by
  intro n
  induction n with
  | zero => intro t v F w h; have := szT_pos t; omega
  | succ n ih =>
    intro t v F w hn hm hL
    obtain ⟨k, i, s, l⟩ := t
    obtain ⟨sb, A, c, rfl, hs, hk, hi, hs2, hl, hA⟩ := hL.node
    have hsz : Hid (szT (.node k i s l) = 1 + szL l) := Lib.hid rfl
    have IH := Lib.hid ih
    obtain ⟨N, hN⟩ : ∃ N, w.heap.size = N := ⟨_, rfl⟩
    obtain ⟨W1, hW1⟩ : ∃ W1, W1 = w.alloc (.cells #[.int .i64 k, .int .i64 i, .string sb, .slice A l.length c] 24) := ⟨_, rfl⟩
    have HW1 := Lib.hid hW1
    have hs1 : W1.heap.size = N + 1 := by rw [hW1]; exact size_new hN _
    have hB1 : Below N w W1 := by rw [hW1, ← hN]; exact below_new _ _
    have hc3 : W1.cell? ⟨N, 3, none⟩ = some (.slice A l.length c) := by rw [hW1]; exact new_cell hN _ _ 3 rfl
    have hA1 : ListAt W1 F A l := hA.below (by rw [hN]; exact hB1)
    have HN := Lib.hid hN
    clear hL ih hs hA hW1
    by_cases hk3 : k = 3
    · subst hk3
      have heq : Hid (depT (.node 3 i s l) = depL l + 1) := Lib.hid (by simp [depT])
      go_enter Try.func18, Try.ntmps18
      go_wp2
      rw [← HW1.out]
      go_loopw [3, 4] (fun a b wr => ∃ (j q : Nat), j ≤ l.length ∧ b = .int .i64 j ∧ a = .int .i64 q ∧ q ≤ 1000000 ∧ Hid (depL l = max q (depL (l.drop j))) ∧ Below W1.heap.size W1 wr)
        (fun _ b _ => l.length - (intOf b).toNat)
      case atStart => exact ⟨0, 0, Nat.zero_le _, rfl, rfl, by omega, Lib.hid (by simp), Below.refl _ _⟩
      case round =>
        obtain ⟨j, q, hj, rfl, rfl, hq, hall, hb⟩ := hrel
        have hAw := hA1.below hb
        have hB := hB1.trans (hb.mono (by omega))
        have e3 := old_cell hb hc3 (by omega)
        by_cases hlt : j < l.length
        · obtain ⟨b, off, xa, xi, xs, xB, xn, xc, rfl, hF, c0, c1, c2, c3, hLj⟩ := hAw.at hlt
          have hszj : szT l[j] ≤ n := by have h1 := szL_get hlt; have h2 := hsz.out; omega
          have hszm : szT l[j] ≤ 1000000 := by have h1 := szL_get hlt; have h2 := hsz.out; omega
          obtain ⟨p, hp⟩ : ∃ p, depT l[j] = p := ⟨_, rfl⟩
          have hp2 : p ≤ 1000000 := by rw [← hp]; have := dep_sz l[j]; omega
          have HC : Hid (Calls Try.prog 18 #[.agg #[.int .i64 xa, .int .i64 xi, .string xs, .slice xB xn xc]] wr fun e w' => e = .returned (.int .i64 (p : Int)) ∧ Below wr.heap.size wr w') :=
            Lib.hid (by rw [← hp]; exact IH.out l[j] _ F _ hszj hszm hLj)
          have hnext : Hid (depL l = max (max q p) (depL (l.drop (j + 1)))) := Lib.hid (by rw [hall.out, depL_drop hlt, hp]; omega)
          clear hAw hN hp
          go_wp2_with (first | (go_at_call 18; refine HC.out.mono ?_; rintro e w' ⟨rfl, hb'⟩) | fail)
          go_roundw
          case rel => exact ⟨j + 1, max q p, by omega, by go_num, by congr 1; split <;> omega, by omega, hnext, hb.trans (hb'.mono hb.size)⟩
          case measure => simp [intOf]; omega
        · have hfin : Hid (((depT (.node 3 i s l) : Nat) : Int) = (q : Int) + 1) := Lib.hid (by rw [heq.out, hall.out, depL_end hlt]; omega)
          clear hAw
          go_wp2_with fail
          go_ret
          refine ⟨ret_int hfin.out.symm, ?_⟩
          rw [HN.out]
          exact hB
    · have heq : Hid (depT (.node k i s l) = 1) := Lib.hid (by rw [depT, if_neg hk3])
      have hkn : (k == 3) = false := by simpa using hk3
      clear hN hk3
      go_enter Try.func18, Try.ntmps18
      go_wp2_with fail
      go_ret
      exact ⟨ret_int (by rw [heq.out]; rfl), below_new w _⟩
theorem own_a {k i : Int} {s : List UInt8} {n : Nat} (h : k = 1) (h1 : s = []) (h2 : ¬ 0 < n) : ownB k i s n = true := by
  subst h h1; obtain rfl : n = 0 := by omega
  rfl
theorem own_b {k i : Int} {s : List UInt8} {n : Nat} (h : k = 2) (h1 : i = 0) (h2 : ¬ 0 < n) : ownB k i s n = true := by
  subst h h1; obtain rfl : n = 0 := by omega
  rfl
theorem own_c {k i : Int} {s : List UInt8} {n : Nat} (h : k = 3) (h1 : i = 0) (h2 : s = []) : ownB k i s n = true := by
  subst h h1 h2
  rfl
set_option maxHeartbeats 1000000 in
/-- the reference's proper -/
theorem proper_n : ∀ (n : Nat) (t : T) (v : Value) (F : Nat → Prop) (w : World), szT t ≤ n → Lies w F t v →
    Calls Try.prog 32 #[v] w fun e w' => e = .returned (.bool (propT t)) ∧ Below w.heap.size w w' := by
  intro n
  induction n with
  | zero => intro t v F w h; have := szT_pos t; omega
  | succ n ih =>
    intro t v F w hn hL
    obtain ⟨k, i, s, l⟩ := t
    obtain ⟨sb, A, c, rfl, hs, hk, hi, hs2, hl, hA⟩ := hL.node
    have hsz : Hid (szT (.node k i s l) = 1 + szL l) := Lib.hid rfl
    have IH := Lib.hid ih
    obtain ⟨N, hN⟩ : ∃ N, w.heap.size = N := ⟨_, rfl⟩
    obtain ⟨W1, hW1⟩ : ∃ W1, W1 = w.alloc (.cells #[.int .i64 k, .int .i64 i, .string sb, .slice A l.length c] 24) := ⟨_, rfl⟩
    have HW1 := Lib.hid hW1
    have hs1 : W1.heap.size = N + 1 := by rw [hW1]; exact size_new hN _
    have hB1 : Below N w W1 := by rw [hW1, ← hN]; exact below_new _ _
    have hc3 : W1.cell? ⟨N, 3, none⟩ = some (.slice A l.length c) := by rw [hW1]; exact new_cell hN _ _ 3 rfl
    have hA1 : ListAt W1 F A l := hA.below (by rw [hN]; exact hB1)
    have HN := Lib.hid hN
    have HS := Lib.hid (str_empty hs)
    have HE : Hid (sb.toList.isEmpty = s.isEmpty) := Lib.hid (by rw [Go.ByteArray.toList_eq, hs])
    clear hL ih hs hA hW1
    cases ho : ownB k i s l.length with
    | false =>
      have hfin : Hid (propT (.node k i s l) = false) := Lib.hid (by rw [propT, ho]; rfl)
      have HO := Lib.hid ho
      clear ho
      go_enter Try.func32, Try.ntmps32
      go_wp2
      all_goals first
        | (go_ret; exact ⟨ret_bool hfin.out.symm, below_new _ _⟩)
        | exact absurd ((own_a ‹k = 1› (HS.out.mp ‹sb.toList = []›) ‹¬ 0 < l.length›).symm.trans HO.out) (by decide)
        | exact absurd ((own_b ‹k = 2› ‹i = 0› ‹¬ 0 < l.length›).symm.trans HO.out) (by decide)
        | exact absurd ((own_c ‹k = 3› ‹i = 0› (HS.out.mp ‹sb.toList = []›)).symm.trans HO.out) (by decide)
        | (go_ret; exact ⟨ret_bool hfin.out.symm, by rw [← HN.out]; exact below_new _ _⟩)
    | true =>
      have hfin : Hid (propT (.node k i s l) = propL l) := Lib.hid (by rw [propT, ho]; rfl)
      rcases own_kind ho with ⟨rfl, hs0, hl0⟩ | ⟨rfl, rfl, hl0⟩ | ⟨rfl, rfl, hs0⟩
      · have hz := HS.out.mpr hs0
        have HL0 := Lib.hid hl0
        have hl1 : ¬ 0 < l.length := by omega
        clear hl0
        clear ho
        go_enter Try.func32, Try.ntmps32
        go_wp2
        rw [← HW1.out]
        go_loopw [3] (fun b wr => ∃ j : Nat, j ≤ l.length ∧ b = .int .i64 j ∧ Hid (propL l = propL (l.drop j)) ∧ Below W1.heap.size W1 wr)
          (fun b _ => l.length - (intOf b).toNat)
        case atStart => exact ⟨0, Nat.zero_le _, rfl, Lib.hid (by simp), Below.refl _ _⟩
        case round =>
          obtain ⟨j, hj, rfl, hall, hb⟩ := hrel
          have hAw := hA1.below hb
          have hB := hB1.trans (hb.mono (by omega))
          have e3 := old_cell hb hc3 (by omega)
          have hlt : ¬ j < l.length := by have := HL0.out; omega
          have hfn : Hid (propT (.node 1 i s l) = true) := Lib.hid (by rw [hfin.out, hall.out, propL_end hlt])
          clear hAw
          go_wp2_with fail
          go_ret
          refine ⟨ret_bool hfn.out.symm, ?_⟩
          rw [HN.out]
          exact hB
      · have HL0 := Lib.hid hl0
        have hl1 : ¬ 0 < l.length := by omega
        clear hl0
        clear ho
        go_enter Try.func32, Try.ntmps32
        go_wp2
        rw [← HW1.out]
        go_loopw [3] (fun b wr => ∃ j : Nat, j ≤ l.length ∧ b = .int .i64 j ∧ Hid (propL l = propL (l.drop j)) ∧ Below W1.heap.size W1 wr)
          (fun b _ => l.length - (intOf b).toNat)
        case atStart => exact ⟨0, Nat.zero_le _, rfl, Lib.hid (by simp), Below.refl _ _⟩
        case round =>
          obtain ⟨j, hj, rfl, hall, hb⟩ := hrel
          have hAw := hA1.below hb
          have hB := hB1.trans (hb.mono (by omega))
          have e3 := old_cell hb hc3 (by omega)
          have hlt : ¬ j < l.length := by have := HL0.out; omega
          have hfn : Hid (propT (.node 2 0 s l) = true) := Lib.hid (by rw [hfin.out, hall.out, propL_end hlt])
          clear hAw
          go_wp2_with fail
          go_ret
          refine ⟨ret_bool hfn.out.symm, ?_⟩
          rw [HN.out]
          exact hB
      · have hz := HS.out.mpr hs0
        clear ho
        go_enter Try.func32, Try.ntmps32
        go_wp2
        rw [← HW1.out]
        go_loopw [3] (fun b wr => ∃ j : Nat, j ≤ l.length ∧ b = .int .i64 j ∧ Hid (propL l = propL (l.drop j)) ∧ Below W1.heap.size W1 wr)
          (fun b _ => l.length - (intOf b).toNat)
        case atStart => exact ⟨0, Nat.zero_le _, rfl, Lib.hid (by simp), Below.refl _ _⟩
        case round =>
          obtain ⟨j, hj, rfl, hall, hb⟩ := hrel
          have hAw := hA1.below hb
          have hB := hB1.trans (hb.mono (by omega))
          have e3 := old_cell hb hc3 (by omega)
          by_cases hlt : j < l.length
          · obtain ⟨b, off, xa, xi, xs, xB, xn, xc, rfl, hF, c0, c1, c2, c3, hLj⟩ := hAw.at hlt
            have hszj : szT l[j] ≤ n := by have h1 := szL_get hlt; have h2 := hsz.out; omega
            have HC := Lib.hid (IH.out l[j] _ F wr hszj hLj)
            cases hv : propT l[j] with
            | true =>
              have hnext : Hid (propL l = propL (l.drop (j + 1))) := Lib.hid (by rw [hall.out, propL_drop hlt, hv]; rfl)
              rw [hv] at HC
              clear hAw hv hN
              go_wp2_with (first | (go_at_call 32; refine HC.out.mono ?_; rintro e w' ⟨rfl, hb'⟩) | fail)
              go_roundw
              case rel => exact ⟨j + 1, by omega, by go_num, hnext, hb.trans (hb'.mono hb.size)⟩
              case measure => simp [intOf]; omega
            | false =>
              have hfn : Hid (propT (.node 3 0 s l) = false) := Lib.hid (by rw [hfin.out, hall.out, propL_drop hlt, hv]; rfl)
              rw [hv] at HC
              clear hAw hv
              go_wp2_with (first | (go_at_call 32; refine HC.out.mono ?_; rintro e w' ⟨rfl, hb'⟩) | fail)
              go_ret
              refine ⟨ret_bool hfn.out.symm, ?_⟩
              rw [HN.out]
              exact hB.trans (hb'.mono (by have := hb.size; omega))
          · have hfn : Hid (propT (.node 3 0 s l) = true) := Lib.hid (by rw [hfin.out, hall.out, propL_end hlt])
            clear hAw
            go_wp2_with fail
            go_ret
            refine ⟨ret_bool hfn.out.symm, ?_⟩
            rw [HN.out]
            exact hB
theorem proper_any {t : T} {v : Value} {F : Nat → Prop} {w : World} (h : Lies w F t v) :
    Calls Try.prog 32 #[v] w fun e w' => e = .returned (.bool (propT t)) ∧ Below w.heap.size w w' := proper_n _ t v F w (Nat.le_refl _) h
theorem depth_any {t : T} {v : Value} {F : Nat → Prop} {w : World} (h : Lies w F t v) (hm : szT t ≤ 1000000) :
    Calls Try.prog 17 #[v] w fun e w' => e = .returned (.int .i64 ((depT t : Nat) : Int)) ∧ Below w.heap.size w w' := depth_n _ t v F w (Nat.le_refl _) hm h
theorem rdepth_any {t : T} {v : Value} {F : Nat → Prop} {w : World} (h : Lies w F t v) (hm : szT t ≤ 1000000) :
    Calls Try.prog 18 #[v] w fun e w' => e = .returned (.int .i64 ((depT t : Nat) : Int)) ∧ Below w.heap.size w w' := rdepth_n _ t v F w (Nat.le_refl _) hm h
end Go.Proofs.Ytiababmfalnflaa.Cod

/- size of the law, and the digest of a tree. -/
import Derived.Test.YtohoobgbmhondaaDigRJoin
import Derived.Test.YtohoobgbmhondaaNums
import Derived.Test.YtohoobgbmhondaaNodOpen
namespace Go.Proofs.Ytohoobgbmhondaa.Nod
open Go Go.RowKit By

mutual
def digN : N → Int
  | .node k s c l => updI startI (joinL k c s (digNL l))
def digNL : List N → List Int
  | [] => []
  | t :: r => digN t :: digNL r
end
theorem digNL_len (l : List N) : (digNL l).length = l.length := by
  induction l with
  | nil => rfl
  | cons t r ih => simp [digNL, ih]
theorem digNL_get {l : List N} {j : Nat} (h : j < l.length) : (digNL l)[j]'(by rw [digNL_len]; exact h) = digN l[j] := by
  induction l generalizing j with
  | nil => simp at h
  | cons t r ih =>
    cases j with
    | zero => simp [digNL]
    | succ j => simpa [digNL] using ih (j := j) (by simpa using h)
theorem digNL_take (l : List N) (j : Nat) : digNL (l.take j) = (digNL l).take j := by
  induction l generalizing j with
  | nil => simp [digNL]
  | cons t r ih => cases j with
    | zero => simp [digNL]
    | succ j => simp [digNL, ih]
theorem dig_bd (t : N) : U64 (digN t) := by cases t; simp only [digN]; exact updI_bd start_bd _
theorem digNL_bd (l : List N) : ∀ x ∈ digNL l, U64 x := by
  induction l with
  | nil => intro x h; simp [digNL] at h
  | cons t r ih =>
    intro x h
    simp only [digNL, List.mem_cons] at h
    rcases h with rfl | h
    · exact dig_bd t
    · exact ih x h
theorem min_step {o a b m : Nat} (ho : o = min a m) (h : o < m) : o + min b (m - o) = min (a + b) m := by omega
set_option maxRecDepth 100000 in
set_option maxHeartbeats 1000000 in
/-- size of the law -/
theorem size_n : ∀ (n : Nat) (t : N) (tv : Value) (F : Nat → Prop) (w : World) (m : Nat), szN t ≤ n → 1 ≤ m → m ≤ 1000000 → Lies w F t tv →
    Calls Try.prog 23 #[tv, .int .i64 (m : Int)] w fun e w' => e = .returned (.int .i64 (min (szN t) m : Nat)) ∧ Below w.heap.size w w' := by
  intro n
  induction n with
  | zero => intro t tv F w m h; have := szN_pos t; omega
  | succ n ih =>
    intro t tv F w m hn hm1 hm2 hT
    obtain ⟨k, s, i, l⟩ := t
    have hT0 := hT
    obtain ⟨sb, A, c, rfl, hs, hk, hi, hs2, hl, hA⟩ := hT.node
    have hsz : Hid (szN (.node k s i l) = 1 + szNL l) := Lib.hid rfl
    have IH := Lib.hid ih
    obtain ⟨R, hR⟩ : ∃ R, min (szN (.node k s i l)) m = R := ⟨_, rfl⟩
    have HR := Lib.hid hR
    rw [hR]
    obtain ⟨N0, hN⟩ : ∃ N, w.heap.size = N := ⟨_, rfl⟩
    obtain ⟨W1, hW1⟩ : ∃ W1, W1 = w.alloc (.cells #[.int .i64 k, .string sb, .int .i64 i, .slice A l.length c] 49) := ⟨_, rfl⟩
    have HW1 := Lib.hid hW1
    have hs1 : W1.heap.size = N0 + 1 := by rw [hW1]; exact size_new hN _
    have hB1 : Below w.heap.size w W1 := by rw [hW1]; exact below_new _ _
    have hc3 : W1.cell? ⟨N0, 3, none⟩ = some (.slice A l.length c) := by rw [hW1]; exact new_cell hN _ _ 3 rfl
    have hA1 := Lib.hid (hA.below hB1)
    have HB := Lib.hid hB1
    have HN := Lib.hid hN
    have hm3 : (m : Int) ≤ 1000000 := by omega
    have H0 : Hid (1 = min (1 + szNL (l.take 0)) m) := Lib.hid (by simp [szNL]; omega)
    have HL : Hid ((l.length : Int) ≤ 9223372036854775807) := Lib.hid (by omega)
    have hl2 : (l.length : Int) ≤ 9223372036854775807 := by omega
    clear hT hT0 ih hs hA hW1 hi hk hR hB1
    go_enter Try.func23, Try.ntmps23
    go_wp2_with fail
    rw [← HW1.out]
    go_loopw [5, 6] (fun a b wr => ∃ (j o : Nat), j ≤ l.length ∧ b = .int .i64 (j : Int) ∧ a = .int .i64 (o : Int) ∧ Hid (o = min (1 + szNL (l.take j)) m) ∧ Hid (Below W1.heap.size W1 wr))
      (fun _ b _ => l.length - (intOf b).toNat)
    case atStart => exact ⟨0, 1, Nat.zero_le _, rfl, rfl, H0, Lib.hid (Below.refl _ _)⟩
    case round =>
      obtain ⟨j, o, hj, rfl, rfl, HO, HGm⟩ := hrel
      have y3 := old_cell HGm.out hc3 (by omega)
      have hom : (o : Int) ≤ (m : Int) := by have := HO.out; omega
      by_cases hlt : j < l.length ∧ o < m
      · obtain ⟨hlt, hom2⟩ := hlt
        obtain ⟨b, off, xa, xi, xs, xB, xn, xc, rfl, hF, d0, d1, d2, d3, hLj⟩ := (hA1.out.below HGm.out).at hlt
        have hszj : szN l[j] ≤ n := by have h1 := szNL_get hlt; have h2 := hsz.out; omega
        obtain ⟨r, hr⟩ : ∃ r, m - o = r := ⟨_, rfl⟩
        obtain ⟨q, hq⟩ : ∃ q, min (szN l[j]) r = q := ⟨_, rfl⟩
        have HX : Hid (o + q = min (1 + szNL (l.take (j + 1))) m) := Lib.hid (by
          rw [szNL_take_succ hlt, ← Nat.add_assoc, ← hq, ← hr]; exact min_step HO.out hom2)
        have hsub : (m : Int) - (o : Int) = (r : Int) := by omega
        have HC : Hid (Calls Try.prog 23 #[.agg #[.int .i64 xa, .string xs, .int .i64 xi, .slice xB xn xc], .int .i64 (r : Int)] wr fun e w' => e = .returned (.int .i64 (q : Int)) ∧ Below wr.heap.size wr w') :=
          Lib.hid (hq ▸ IH.out l[j] _ F wr r hszj (by omega) (by omega) hLj)
        have hq2 : (q : Int) ≤ 1000000 := by have := HX.out; omega
        have HSUB := Lib.hid hsub
        have ho2 : (o : Int) < (m : Int) := by omega
        clear hLj hq hr hsub
        go_wp2_with (first
          | (go_at_call 23
             rw [HSUB.out]
             refine HC.out.mono ?_
             rintro e w6 ⟨rfl, hb6⟩
             have HBW6 := Lib.hid (below_self HGm.out hb6)
             clear hb6)
          | fail)
        go_roundw
        case rel => exact ⟨j + 1, o + q, by omega, by go_num, by go_num, HX, HBW6⟩
        case measure => simp [intOf]; omega
      · have HF : Hid (o = R) := Lib.hid (by
          rw [← HR.out, HO.out, hsz.out]
          by_cases h1 : j < l.length
          · have h2 : ¬ o < m := fun h => hlt ⟨h1, h⟩
            have h3 := szNL_take l j
            have := HO.out
            omega
          · rw [List.take_of_length_le (by omega)])
        by_cases h1 : j < l.length
        · have h2 : ¬ (o : Int) < (m : Int) := fun h => hlt ⟨h1, by omega⟩
          clear hlt
          go_wp2_with fail
          go_ret
          exact ⟨ret_nat HF.out, hN ▸ below_self HB.out HGm.out⟩
        · have h1' : ¬ (j : Int) < (l.length : Int) := by omega
          clear hlt
          go_wp2_with fail
          go_ret
          exact ⟨ret_nat HF.out, hN ▸ below_self HB.out HGm.out⟩
end Go.Proofs.Ytohoobgbmhondaa.Nod

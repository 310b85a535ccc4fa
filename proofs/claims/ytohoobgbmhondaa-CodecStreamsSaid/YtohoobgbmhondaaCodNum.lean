/- number of package codec. -/
import Derived.Test.YtohoobgbmhondaaCodLies
import Derived.Test.YtohoobgbmhondaaShelf
import Derived.Lib.BitFns
import Derived.Lib.ItoaNum
namespace Go.Proofs.Ytohoobgbmhondaa.Cod
open Go Go.RowKit

theorem ret_u64 {a b : Int} (h : a = b) : Ending.returned (.int .u64 a) = .returned (.int .u64 b) := by rw [h]
/-- codec.number -/
theorem number_any {k i : Int} {sb : ByteArray} {s : List UInt8} {A : Option Addr} {l : List T} {c : Nat} (hs : sb.data.toList = s) (hi : I64 i) (h1 : s.length ≤ 9223372036854775807) (h2 : l.length ≤ 9223372036854775807) (w : World) :
    Calls Try.prog 36 #[.agg #[.int .i64 k, .int .i64 i, .string sb, .slice A l.length c]] w fun e w' => e = .returned (.int .u64 ((numT (.node k i s l) : Nat) : Int)) ∧ Below w.heap.size w w' := by
  have hss : sb.size = s.length := by subst hs; simp
  have hsz : sb.size ≤ 9223372036854775807 := by omega
  have HN : Hid (numT (.node k i s l) = if k = 2 then sb.size else if k = 3 then l.length else if i < 0 then 2 * (-(i + 1)).toNat + 1 else 2 * i.toNat) := Lib.hid (by rw [numT, hss])
  obtain ⟨hi1, hi2⟩ := hi
  clear hs hss
  go_enter Try.func36, Try.ntmps36
  go_wp2
  all_goals go_ret
  all_goals refine ⟨ret_u64 ?_, below_new _ _⟩
  all_goals rw [HN.out]
  all_goals
    simp only [beq_iff_eq, beq_eq_false_iff_ne, ne_eq] at *
    repeat' split
  all_goals omega

/-! the bytes of a number, one by one -/
theorem be_get {k n j : Nat} (h : j < (be k n).length) : (be k n)[j] = UInt8.ofNat (n / 256 ^ (k - 1 - j) % 256) := by
  induction k generalizing n with
  | zero => simp [be] at h
  | succ k ih =>
    rw [be_len] at h
    simp only [be]
    rcases Nat.lt_or_ge j k with hj | hj
    · rw [List.getElem_append_left (by rw [be_len]; exact hj), ih (by rw [be_len]; exact hj), Nat.div_div_eq_div_mul]
      congr 2
      rw [show k + 1 - 1 - j = (k - 1 - j) + 1 by omega, Nat.pow_succ, Nat.mul_comm]
    · have hjk : j = k := by omega
      subst hjk
      rw [List.getElem_append_right (by rw [be_len]; exact Nat.le_refl _)]
      simp [be_len]
theorem be_next {k n m : Nat} (hm : m < k) : (be k n).take (k - m) = (be k n).take (k - (m + 1)) ++ [UInt8.ofNat (n / 256 ^ m % 256)] := by
  have h : k - (m + 1) < (be k n).length := by rw [be_len]; omega
  rw [show k - m = (k - (m + 1)) + 1 by omega, List.take_succ_eq_append_getElem h, be_get h, show k - 1 - (k - (m + 1)) = m by omega]
theorem nb_len {n : Nat} (h : n < 18446744073709551616) : (Lib.bitLen n + 7) / 8 = nb n := by
  have h8 := nb8 h
  have h1 : Lib.bitLen n ≤ 8 * nb n := Lib.bitLen_le n (8 * nb n) (by omega) (by have := lt_nb n; rwa [show (256 : Nat) = 2 ^ 8 from rfl, ← Nat.pow_mul] at this)
  have h2 : nb n ≤ (Lib.bitLen n + 7) / 8 := nb_le (by
    have hlt : n < 2 ^ Lib.bitLen n := by
      by_cases h0 : n = 0
      · subst h0; exact Nat.pow_pos (by omega)
      · exact (Lib.bitLenAux_bounds 64 n (by simpa using h) h0).2.2
    have h3 : 2 ^ Lib.bitLen n ≤ 2 ^ (8 * ((Lib.bitLen n + 7) / 8)) := Nat.pow_le_pow_right (by omega) (by omega)
    rw [show (256 : Nat) = 2 ^ 8 from rfl, ← Nat.pow_mul]
    omega)
  omega
end Go.Proofs.Ytohoobgbmhondaa.Cod

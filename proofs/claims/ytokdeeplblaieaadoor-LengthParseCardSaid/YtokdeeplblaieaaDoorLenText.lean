/- The contract of length.Text: the text of every length; nothing that lay in memory has turned. -/
import Derived.Test.YtokdeeplblaieaaDoorLenWalks
import Derived.Test.YtokdeeplblaieaaDoorTabs
namespace Go.Proofs.YtokdeeplblaieaaDoor.Len
open Go Go.RowKit

/-- The digits behind the point. -/
def restL (r : Int) : List UInt8 := Lib.trimRightB ((Lib.itoa (1000 + r)).drop 1) 48
/-- The text of a length, byte by byte. -/
def textL (n : Int) : List UInt8 :=
  (if n < 0 then [45] else []) ++ (Lib.itoa (absZ n / 1000) ++ (if absZ n % 1000 = 0 then [] else 46 :: restL (absZ n % 1000))) ++ [112, 116]

theorem itoa_any (n : Int) (w : World) (h0 : -9223372036854775808 ≤ n) (h1 : n ≤ 9223372036854775807) (hT : Tabs w) :
    Calls Tryd.prog 29 #[.int .i64 n] w fun e w' => e = .returned (.string ⟨(Lib.itoa n).toArray⟩) ∧ Below w.heap.size w w' :=
  (Tryd.strconv_Itoa n h0 h1 w hT.pow).mono fun e w' ⟨he, k, os, hw⟩ => ⟨he, by rw [hw]; exact below_grow _ _ _⟩

theorem trim_any (L : List UInt8) (w : World) (hL : L.length ≤ 2000000000) :
    Calls Tryd.prog 31 #[.string (ByteArray.extract ⟨L.toArray⟩ 1 L.length), .string ⟨#[48]⟩] w fun e w' => e = .returned (.string ⟨(Lib.trimRightB (L.drop 1) 48).toArray⟩) ∧ w' = w := by
  have hd : (ByteArray.extract ⟨L.toArray⟩ 1 L.length).data.toList = L.drop 1 := by
    simp only [ByteArray.data_extract, Array.toList_extract, List.extract_eq_take_drop]
    rw [List.take_of_length_le (by simp)]
  have hs : (ByteArray.extract ⟨L.toArray⟩ 1 L.length).size ≤ 9223372036854775807 := by
    show (ByteArray.extract ⟨L.toArray⟩ 1 L.length).data.size ≤ _
    rw [← Array.length_toList, hd, List.length_drop]; omega
  have h := Tryd.strings_TrimRight_one (ByteArray.extract ⟨L.toArray⟩ 1 L.length) 48 (by decide) w hs
  rw [hd] at h
  exact h

theorem string_eq {b : ByteArray} {l : List UInt8} (h : b.data.toList = l) : Ending.returned (.string b) = .returned (.string ⟨l.toArray⟩) := by
  subst h; rfl
theorem dec_len (u : Nat) : (Lib.decDigits u).length ≤ u + 1 := by
  induction u using Nat.strongRecOn with
  | _ u ih =>
    rw [Lib.decDigits]
    split
    · simp
    · have := ih (u / 10) (by omega)
      rw [List.length_append, List.length_singleton]; omega
theorem itoa_pos (n : Int) (h0 : 0 ≤ n) : Lib.itoa n = Lib.decDigits n.toNat := by unfold Lib.itoa; rw [if_neg (by omega)]
theorem itoa_len (n : Int) (h0 : 0 ≤ n) (h1 : n ≤ 1073741824) : (Lib.itoa n).length ≤ 1073741825 := by
  rw [itoa_pos n h0]
  have := dec_len n.toNat
  omega
theorem trim_len (l : List UInt8) (c : UInt8) : (Lib.trimRightB l c).length ≤ l.length := by
  unfold Lib.trimRightB
  rw [List.length_reverse]
  exact Nat.le_trans (List.dropWhile_sublist _).length_le (by simp)

theorem text_rest (n : Int) (w : World) (neg : Bool) (hneg : decide (n < 0) = neg) (h0 : -1073741824 ≤ n) (h2 : n ≤ 1073741824) (hT : Tabs w) (hr : (absZ n % 1000 != 0) = true) (hl : 1 ≤ (Lib.itoa (1000 + absZ n % 1000)).length) :
    Calls Tryd.prog 23 #[.int .i64 n] w fun e w' => e = .returned (.string ⟨(textL n).toArray⟩) ∧ Below w.heap.size w w' := by
  have hv := valid_of h0 h2
  obtain ⟨ha, hb⟩ := absZ_le h0 h2
  have hq := Int.ediv_nonneg ha (show (0 : Int) ≤ 1000 by omega)
  have hq2 := Int.ediv_le_self 1000 ha
  have hm1 := Int.emod_nonneg (absZ n) (show (1000 : Int) ≠ 0 by omega)
  have hm2 := Int.emod_lt_of_pos (absZ n) (show (0 : Int) < 1000 by omega)
  have hl2 := itoa_len (absZ n / 1000) hq (by omega)
  have hl3 := itoa_len (1000 + absZ n % 1000) (by omega) (by omega)
  have hl4 : (Lib.trimRightB (Lib.itoa (1000 + absZ n % 1000)).tail 48).length ≤ 1073741825 := Nat.le_trans (trim_len _ _) (by rw [List.length_tail]; omega)
  have hfin : Hid (∀ b : ByteArray, b.data.toList = (if neg then [45] else []) ++ (Lib.itoa (absZ n / 1000) ++ 46 :: Lib.trimRightB (Lib.itoa (1000 + absZ n % 1000)).tail 48) ++ [112, 116] → Ending.returned (.string b) = .returned (.string ⟨(textL n).toArray⟩)) := Lib.hid fun b h => string_eq (by
    rw [h, textL, restL, if_neg (show ¬ absZ n % 1000 = 0 by simpa using hr), List.drop_one]
    congr 2
    subst hneg
    by_cases h : n < 0 <;> simp [h])
  cases neg
  all_goals
    go_enter Tryd.func23, Tryd.ntmps23
    go_wp2_with (first | (go_at_call 11; refine (valid_any _ _).mono ?_; rintro e w' ⟨rfl, rfl⟩) | (go_at_call 30; refine (abs_any _ _ (by omega) (by omega)).mono ?_; rintro e w' ⟨rfl, rfl⟩))
    refine (itoa_any _ _ (by omega) (by omega) hT).mono ?_
    rintro e w1 ⟨rfl, hb1⟩
    have hT1 := hT.below hb1
    go_wp2_with (first | (go_at_call 11; refine (valid_any _ _).mono ?_; rintro e w' ⟨rfl, rfl⟩) | (go_at_call 30; refine (abs_any _ _ (by omega) (by omega)).mono ?_; rintro e w' ⟨rfl, rfl⟩))
    refine (itoa_any _ _ (by omega) (by omega) hT1).mono ?_
    rintro e w2 ⟨rfl, hb2⟩
    go_wp2_with fail
    refine (trim_any _ _ (by omega)).mono ?_
    rintro e w3 ⟨rfl, rfl⟩
    go_wp2_with fail
    go_ret
    exact ⟨hfin.out _ (by simp), hb1.trans (hb2.mono hb1.size)⟩

theorem text_whole (n : Int) (w : World) (neg : Bool) (hneg : decide (n < 0) = neg) (h0 : -1073741824 ≤ n) (h2 : n ≤ 1073741824) (hT : Tabs w) (hr : (absZ n % 1000 != 0) = false) :
    Calls Tryd.prog 23 #[.int .i64 n] w fun e w' => e = .returned (.string ⟨(textL n).toArray⟩) ∧ Below w.heap.size w w' := by
  have hv := valid_of h0 h2
  obtain ⟨ha, hb⟩ := absZ_le h0 h2
  have hq := Int.ediv_nonneg ha (show (0 : Int) ≤ 1000 by omega)
  have hq2 := Int.ediv_le_self 1000 ha
  have hm1 := Int.emod_nonneg (absZ n) (show (1000 : Int) ≠ 0 by omega)
  have hm2 := Int.emod_lt_of_pos (absZ n) (show (0 : Int) < 1000 by omega)
  have hl2 := itoa_len (absZ n / 1000) hq (by omega)
  have hfin : Hid (∀ b : ByteArray, b.data.toList = (if neg then [45] else []) ++ Lib.itoa (absZ n / 1000) ++ [112, 116] → Ending.returned (.string b) = .returned (.string ⟨(textL n).toArray⟩)) := Lib.hid fun b h => string_eq (by
    rw [h, textL, if_pos (show absZ n % 1000 = 0 by simpa using hr)]
    subst hneg
    by_cases h : n < 0 <;> simp [h])
  cases neg
  all_goals
    go_enter Tryd.func23, Tryd.ntmps23
    go_wp2_with (first | (go_at_call 11; refine (valid_any _ _).mono ?_; rintro e w' ⟨rfl, rfl⟩) | (go_at_call 30; refine (abs_any _ _ (by omega) (by omega)).mono ?_; rintro e w' ⟨rfl, rfl⟩))
    refine (itoa_any _ _ (by omega) (by omega) hT).mono ?_
    rintro e w1 ⟨rfl, hb1⟩
    have hT1 := hT.below hb1
    go_wp2_with (first | (go_at_call 11; refine (valid_any _ _).mono ?_; rintro e w' ⟨rfl, rfl⟩) | (go_at_call 30; refine (abs_any _ _ (by omega) (by omega)).mono ?_; rintro e w' ⟨rfl, rfl⟩))
    go_ret
    exact ⟨hfin.out _ (by simp), hb1⟩

theorem dec_pos (u : Nat) : 1 ≤ (Lib.decDigits u).length := by
  rw [Lib.decDigits]
  split
  · simp
  · rw [List.length_append, List.length_singleton]; omega

/-- length.Text, at a length. -/
theorem text_any (n : Int) (w : World) (h0 : -1073741824 ≤ n) (h2 : n ≤ 1073741824) (hT : Tabs w) :
    Calls Tryd.prog 23 #[.int .i64 n] w fun e w' => e = .returned (.string ⟨(textL n).toArray⟩) ∧ Below w.heap.size w w' := by
  cases hr : (absZ n % 1000 != 0) with
  | false => exact text_whole n w _ rfl h0 h2 hT hr
  | true =>
    refine text_rest n w _ rfl h0 h2 hT hr ?_
    have := absZ_le h0 h2
    have hm1 := Int.emod_nonneg (absZ n) (show (1000 : Int) ≠ 0 by omega)
    rw [itoa_pos _ (by omega)]
    exact dec_pos _
/-- length.Text, at any other integer. -/
theorem text_no (n : Int) (w : World) (h : validZ n = false) :
    Calls Tryd.prog 23 #[.int .i64 n] w fun e w' => e = .returned (.string ⟨#[]⟩) ∧ w' = w := by
  go_enter Tryd.func23, Tryd.ntmps23
  go_wp2_with (go_at_call 11; refine (valid_any _ _).mono ?_; rintro e w' ⟨rfl, rfl⟩)
  go_ret
  exact ⟨rfl, rfl⟩

/-- 12.34pt -/
theorem text_12340 : textL 12340 = [49, 50, 46, 51, 52, 112, 116] := by
  decide +kernel
end Go.Proofs.YtokdeeplblaieaaDoor.Len

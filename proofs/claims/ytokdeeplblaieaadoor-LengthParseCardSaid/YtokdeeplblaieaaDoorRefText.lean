/- Contracts of the reference's Digits, run and Text. -/
import Derived.Test.YtokdeeplblaieaaDoorMathInv
import Derived.Test.YtokdeeplblaieaaDoorLenWalks
import Derived.Test.YtokdeeplblaieaaDoorLenParse
import Derived.Laws.IdiomStrings
import Derived.Lib.SmallJoins
namespace Go.Proofs.YtokdeeplblaieaaDoor.Len
open Go Go.RowKit

theorem ret_list {l m : List UInt8} (h : l = m) : Ending.returned (.string ⟨l.toArray⟩) = .returned (.string ⟨m.toArray⟩) := by rw [h]

set_option maxRecDepth 100000 in
theorem digit_walk (u : Nat) (w : World) (h : u < 10) :
    Calls Tryd.prog 38 #[.int .i64 u] w fun e w' => e = .returned (.string ⟨(Lib.decDigits u).toArray⟩) ∧ Below w.heap.size w w' := by
  obtain ⟨c, hc⟩ : ∃ c, UInt8.ofNat (48 + u) = c := ⟨_, rfl⟩
  have hbyte : (c.toNat : Int) = 48 + (u : Int) := by
    rw [← hc, UInt8.toNat_ofNat']; omega
  have fin : Hid ([c] = Lib.decDigits u) := Lib.hid (by rw [dec_small h, hc])
  clear hc
  have hconv : (convert 60 9 (.slice (some ⟨w.heap.size, 0, none⟩) 1 1)).run Tryd.prog (w.alloc (.cells #[.int .u8 (48 + (u : Int))] 5)) = .ok (.string ⟨#[c]⟩) (w.alloc (.cells #[.int .u8 (48 + (u : Int))] 5)) :=
    run_convert_bytes_back _ _ _ _ _ 1 [c] Tryd.underlying60 Tryd.underlying5 Tryd.underlying9 (fun j hj => by
      have hj0 : j = 0 := by simp at hj; exact hj
      subst hj0
      rw [List.getElem_cons_zero, hbyte]
      simp [Addr.add])
  clear hbyte
  go_enter Tryd.func38, Tryd.ntmps38
  go_wp2_with fail
  go_ret
  exact ⟨ret_list fin.out, (Below.refl _ _).alloc (Nat.le_refl _) _⟩

/-- the reference's Digits -/
theorem refdigits_any (u : Nat) : ∀ w : World, u ≤ 2000000000 →
    Calls Tryd.prog 38 #[.int .i64 u] w fun e w' => e = .returned (.string ⟨(Lib.decDigits u).toArray⟩) ∧ Below w.heap.size w w' := by
  induction u using Nat.strongRecOn with
  | _ u ih =>
    intro w hu
    by_cases h : u < 10
    · exact digit_walk u w h
    · have i1 : Hid (∀ w : World, Calls Tryd.prog 38 #[.int .i64 ((u : Int) / 10)] w fun e w' => e = .returned (.string ⟨(Lib.decDigits (u / 10)).toArray⟩) ∧ Below w.heap.size w w') := Lib.hid fun W => by
        rw [show (u : Int) / 10 = ((u / 10 : Nat) : Int) by omega]; exact ih (u / 10) (by omega) W (by omega)
      have i2 : Hid (∀ w : World, Calls Tryd.prog 38 #[.int .i64 ((u : Int) % 10)] w fun e w' => e = .returned (.string ⟨(Lib.decDigits (u % 10)).toArray⟩) ∧ Below w.heap.size w w') := Lib.hid fun W => by
        rw [show (u : Int) % 10 = ((u % 10 : Nat) : Int) by omega]; exact ih (u % 10) (by omega) W (by omega)
      have hl1 := dec_len (u / 10)
      have hl2 := dec_len (u % 10)
      have fin : Hid (Lib.decDigits (u / 10) ++ Lib.decDigits (u % 10) = Lib.decDigits u) := Lib.hid (by rw [dec_big h, dec_small (u := u % 10) (by omega)])
      clear ih
      go_enter Tryd.func38, Tryd.ntmps38
      go_wp2_with fail
      refine (i1.out _).mono ?_
      rintro e w1 ⟨rfl, hb1⟩
      go_wp2_with fail
      refine (i2.out _).mono ?_
      rintro e w2 ⟨rfl, hb2⟩
      go_wp2_with fail
      go_ret
      exact ⟨string_eq (by rw [← fin.out]; simp), hb1.trans (hb2.mono hb1.size)⟩

theorem run_at {l : List UInt8} {k : Nat} (h : (l.take k).all isD = true) (hk : k ≤ l.length) (hx : ∀ c r, l.drop k = c :: r → isD c = false) : runL l = k := by
  have := run_stop (l.take k) (l.drop k) h hx
  rw [List.take_append_drop, List.length_take] at this
  omega
theorem drop_byte (s : ByteArray) (k : Nat) (h : k < s.size) : s.data.toList.drop k = s[k] :: s.data.toList.drop (k + 1) := by
  rw [List.drop_eq_getElem_cons (by simpa using h)]; rfl

/-- the reference's run -/
theorem run_any (s : ByteArray) (w : World) (hs : s.size ≤ 4611686018427387904) :
    Calls Tryd.prog 40 #[.string s] w fun e w' => e = .returned (.int .i64 (runL s.data.toList : Int)) ∧ w' = w := by
  have hsz : s.data.toList.length = s.size := by simp
  have HZ := Lib.hid hsz
  clear hsz
  go_enter Tryd.func40, Tryd.ntmps40
  go_wp2
  go_loop [3] (fun i => ∃ k : Nat, k ≤ s.size ∧ i = .int .i64 k ∧ (s.data.toList.take k).all isD = true) (fun i => s.size - (intOf i).toNat)
  case atStart => exact ⟨0, Nat.zero_le _, rfl, rfl⟩
  case round =>
    obtain ⟨k, hk, rfl, hall⟩ := hrel
    have HA := Lib.hid hall
    clear hall
    by_cases hlt : k < s.size
    · by_cases h1 : (s[k].toNat : Int) < 48
      · have fin : Hid (runL s.data.toList = k) := Lib.hid (run_at HA.out (by rw [HZ.out]; exact hk) (fun c r e => by
          rw [drop_byte s k hlt] at e; injection e with e _; subst e; exact not_digit (.inl h1)))
        go_wp2
        go_ret
        exact ⟨ret_int (by rw [fin.out]), rfl⟩
      · by_cases h2 : 57 < (s[k].toNat : Int)
        · have fin : Hid (runL s.data.toList = k) := Lib.hid (run_at HA.out (by rw [HZ.out]; exact hk) (fun c r e => by
            rw [drop_byte s k hlt] at e; injection e with e _; subst e; exact not_digit (.inr h2)))
          go_wp2
          go_ret
          exact ⟨ret_int (by rw [fin.out]), rfl⟩
        · have nxt : Hid ((s.data.toList.take (k + 1)).all isD = true) := Lib.hid (by rw [byte_take s k hlt, List.all_append, HA.out]; simp [is_digit h1 h2])
          go_wp2
          go_round
          case rel => exact ⟨k + 1, by omega, by go_num, nxt.out⟩
          case measure => simp [intOf]; omega
    · have fin : Hid (runL s.data.toList = k) := Lib.hid (run_at HA.out (by rw [HZ.out]; exact hk) (fun c r e => by
        rw [List.drop_eq_nil_of_le (by rw [HZ.out]; omega)] at e; cases e))
      go_wp2
      go_ret
      exact ⟨ret_int (by rw [fin.out]), rfl⟩

theorem trim_zero (a : List UInt8) : Lib.trimRightB (a ++ [48]) 48 = Lib.trimRightB a 48 := by
  unfold Lib.trimRightB
  rw [List.reverse_append, List.reverse_singleton, List.singleton_append, List.dropWhile_cons_of_pos (by simp)]
theorem trim_other (a : List UInt8) (c : UInt8) (h : c ≠ 48) : Lib.trimRightB (a ++ [c]) 48 = a ++ [c] := by
  unfold Lib.trimRightB
  rw [List.reverse_append, List.reverse_singleton, List.singleton_append, List.dropWhile_cons_of_neg (by simpa using h)]
  simp
/-- A string's length, out of its slot. -/
def strLen : Value → Nat
  | .string b => b.size
  | _ => 0
theorem last_split {b : ByteArray} (h : 0 < b.size) : b.data.toList = (b.extract 0 (b.size - 1)).data.toList ++ [b[b.size - 1]'(Nat.sub_lt h Nat.one_pos)] := by
  have hl : b.data.toList.length = b.size := by simp
  have e : (b.extract 0 (b.size - 1)).data.toList = b.data.toList.take (b.size - 1) := by
    rw [ByteArray.data_extract, Array.toList_extract, List.extract_eq_take_drop]; simp
  rw [e]
  have h2 := byte_take b (b.size - 1) (by omega)
  rw [show b.size - 1 + 1 = b.size by omega, List.take_of_length_le (by omega)] at h2
  exact h2
theorem eq48 {c : UInt8} (h : ((c.toNat : Int) == 48) = true) : c = 48 := by
  have h1 : (c.toNat : Int) = 48 := by simpa using h
  have h2 : c.toNat = 48 := by omega
  exact UInt8.toNat_inj.1 h2
theorem ne48 {c : UInt8} (h : ((c.toNat : Int) == 48) = false) : c ≠ 48 := fun e => by subst e; simp at h

theorem refnum_any (z : Int) (w : World) (h0 : 0 ≤ z) (h1 : z ≤ 2000000000) :
    Calls Tryd.prog 38 #[.int .i64 z] w fun e w' => e = .returned (.string ⟨(Lib.itoa z).toArray⟩) ∧ Below w.heap.size w w' := by
  obtain ⟨k, rfl⟩ := Int.eq_ofNat_of_zero_le h0
  rw [itoa_nat]
  exact refdigits_any k w (by omega)

theorem reftext_whole (n : Int) (w : World) (neg : Bool) (hneg : decide (n < 0) = neg) (h0 : -1073741824 ≤ n) (h2 : n ≤ 1073741824) (hr : decide (0 < absZ n % 1000) = false) :
    Calls Tryd.prog 25 #[.int .i64 n] w fun e w' => e = .returned (.string ⟨(textL n).toArray⟩) ∧ Below w.heap.size w w' := by
  have hv := valid_of h0 h2
  obtain ⟨ha, hb⟩ := absZ_le h0 h2
  have hq := Int.ediv_nonneg ha (show (0 : Int) ≤ 1000 by omega)
  have hq2 := Int.ediv_le_self 1000 ha
  have hm1 := Int.emod_nonneg (absZ n) (show (1000 : Int) ≠ 0 by omega)
  have hl2 := itoa_len (absZ n / 1000) hq (by omega)
  have hfin : Hid (∀ b : ByteArray, b.data.toList = (if neg then [45] else []) ++ Lib.itoa (absZ n / 1000) ++ [112, 116] → Ending.returned (.string b) = .returned (.string ⟨(textL n).toArray⟩)) := Lib.hid fun b h => string_eq (by
    have hr' : absZ n % 1000 = 0 := by simp at hr; omega
    rw [h, textL, if_pos hr']
    subst hneg
    by_cases h : n < 0 <;> simp [h])
  cases neg
  all_goals
    go_enter Tryd.func25, Tryd.ntmps25
    go_wp2_with (first | (go_at_call 12; refine (refvalid_any _ _).mono ?_; rintro e w' ⟨rfl, rfl⟩) | (go_at_call 39; refine (size_any _ _ (by omega) (by omega)).mono ?_; rintro e w' ⟨rfl, rfl⟩))
    refine (refnum_any _ _ (by omega) (by omega)).mono ?_
    rintro e w1 ⟨rfl, hb1⟩
    go_wp2_with (first | (go_at_call 12; refine (refvalid_any _ _).mono ?_; rintro e w' ⟨rfl, rfl⟩) | (go_at_call 39; refine (size_any _ _ (by omega) (by omega)).mono ?_; rintro e w' ⟨rfl, rfl⟩))
    go_ret
    exact ⟨hfin.out _ (by simp), hb1⟩

theorem cut_first (L : List UInt8) : (ByteArray.extract ⟨L.toArray⟩ 1 L.length).data.toList = L.drop 1 := by
  simp only [ByteArray.data_extract, Array.toList_extract, List.extract_eq_take_drop]
  rw [List.take_of_length_le (by simp)]
theorem cut_first_size (L : List UInt8) : (ByteArray.extract ⟨L.toArray⟩ 1 L.length).size = L.length - 1 := by
  show (ByteArray.extract ⟨L.toArray⟩ 1 L.length).data.size = _
  rw [← Array.length_toList, cut_first, List.length_drop]

theorem reftext_rest (n : Int) (w : World) (neg : Bool) (hneg : decide (n < 0) = neg) (h0 : -1073741824 ≤ n) (h2 : n ≤ 1073741824) (hr : decide (0 < absZ n % 1000) = true) (hne : restL (absZ n % 1000) ≠ []) (hl : 1 ≤ (Lib.itoa (1000 + absZ n % 1000)).length) :
    Calls Tryd.prog 25 #[.int .i64 n] w fun e w' => e = .returned (.string ⟨(textL n).toArray⟩) ∧ Below w.heap.size w w' := by
  have hv := valid_of h0 h2
  obtain ⟨ha, hb⟩ := absZ_le h0 h2
  have hq := Int.ediv_nonneg ha (show (0 : Int) ≤ 1000 by omega)
  have hq2 := Int.ediv_le_self 1000 ha
  have hm1 := Int.emod_nonneg (absZ n) (show (1000 : Int) ≠ 0 by omega)
  have hm2 := Int.emod_lt_of_pos (absZ n) (show (0 : Int) < 1000 by omega)
  have hl2 := itoa_len (absZ n / 1000) hq (by omega)
  have hl3 := itoa_len (1000 + absZ n % 1000) (by omega) (by omega)
  have hfin : Hid (∀ b : ByteArray, b.data.toList = (if neg then [45] else []) ++ Lib.itoa (absZ n / 1000) ++ 46 :: restL (absZ n % 1000) ++ [112, 116] → Ending.returned (.string b) = .returned (.string ⟨(textL n).toArray⟩)) := Lib.hid fun b h => string_eq (by
    have hr' : ¬ absZ n % 1000 = 0 := by simp at hr; omega
    rw [h, textL, if_neg hr']
    subst hneg
    by_cases h : n < 0 <;> simp [h])
  have HN := Lib.hid hne
  clear hne
  cases neg
  all_goals
    go_enter Tryd.func25, Tryd.ntmps25
    go_wp2_with (first | (go_at_call 12; refine (refvalid_any _ _).mono ?_; rintro e w' ⟨rfl, rfl⟩) | (go_at_call 39; refine (size_any _ _ (by omega) (by omega)).mono ?_; rintro e w' ⟨rfl, rfl⟩))
    refine (refnum_any _ _ (by omega) (by omega)).mono ?_
    rintro e w1 ⟨rfl, hb1⟩
    go_wp2_with (first | (go_at_call 12; refine (refvalid_any _ _).mono ?_; rintro e w' ⟨rfl, rfl⟩) | (go_at_call 39; refine (size_any _ _ (by omega) (by omega)).mono ?_; rintro e w' ⟨rfl, rfl⟩))
    refine (refnum_any _ _ (by omega) (by omega)).mono ?_
    rintro e w2 ⟨rfl, hb2⟩
    go_wp2_with fail
    go_loop [5] (fun v => ∃ b : ByteArray, v = .string b ∧ Lib.trimRightB b.data.toList 48 = restL (absZ n % 1000) ∧ b.size ≤ 1073741825) strLen
    case atStart =>
      refine ⟨_, rfl, ?_, ?_⟩
      · rw [restL, cut_first]
      · rw [cut_first_size]; omega
    case round =>
      obtain ⟨b, rfl, htrim, hbs⟩ := hrel
      have hpos : 0 < b.size := by
        rcases Nat.eq_zero_or_pos b.size with h | h
        · have : b.data.toList = [] := List.eq_nil_of_length_eq_zero (by simpa using h)
          rw [this] at htrim
          exact absurd htrim.symm HN.out
        · exact h
      have HT := Lib.hid htrim
      clear htrim
      cases hx : (((b[b.size - 1]'(Nat.sub_lt hpos Nat.one_pos)).toNat : Int) == 48) with
      | true =>
        have nxt : Hid (Lib.trimRightB (b.extract 0 (b.size - 1)).data.toList 48 = restL (absZ n % 1000)) := Lib.hid (by
          rw [← HT.out, last_split hpos, eq48 hx, trim_zero])
        go_wp2_with fail
        go_round
        case rel => exact ⟨_, rfl, nxt.out, by simp; omega⟩
        case measure => simp [strLen]; omega
      | false =>
        have hfr : Hid (b.data.toList = restL (absZ n % 1000)) := Lib.hid (by
          rw [← HT.out]
          have e := last_split hpos
          generalize b[b.size - 1]'(Nat.sub_lt hpos Nat.one_pos) = c at hx e
          rw [e, trim_other _ c (ne48 hx)])
        go_wp2_with fail
        go_ret
        exact ⟨hfin.out _ (by simp [hfr.out]), hb1.trans (hb2.mono hb1.size)⟩

/-- the reference's Text, at a length -/
theorem reftext_any (n : Int) (w : World) (h0 : -1073741824 ≤ n) (h2 : n ≤ 1073741824) :
    Calls Tryd.prog 25 #[.int .i64 n] w fun e w' => e = .returned (.string ⟨(textL n).toArray⟩) ∧ Below w.heap.size w w' := by
  have ha := absZ_le h0 h2
  have hm1 := Int.emod_nonneg (absZ n) (show (1000 : Int) ≠ 0 by omega)
  have hm2 := Int.emod_lt_of_pos (absZ n) (show (0 : Int) < 1000 by omega)
  cases hr : decide (0 < absZ n % 1000) with
  | false => exact reftext_whole n w _ rfl h0 h2 hr
  | true =>
    have hr' : 0 < absZ n % 1000 := by simpa using hr
    refine reftext_rest n w _ rfl h0 h2 hr ?_ ?_
    · obtain ⟨r, hr2⟩ := Int.eq_ofNat_of_zero_le hm1
      rw [hr2, restL_nat]
      have hok := (rest_ok r (by omega) (by omega)).1
      intro e
      rw [e] at hok
      simp [restOk] at hok
    · rw [itoa_pos _ (by omega)]
      exact dec_pos _
end Go.Proofs.YtokdeeplblaieaaDoor.Len

/- Contracts of digits, point and Decimal of the reference. -/
import Derived.Test.YtggiljlndenjoaaDoorParseSpec
import Derived.Test.YtggiljlndenjoaaDoorRatBlk
namespace Go.Proofs.YtggiljlndenjoaaDoor.RatM
open Go Go.RowKit Len

theorem bytes_take (s : ByteArray) (k : Nat) (h : k < s.size) : s.data.toList.take (k + 1) = s.data.toList.take k ++ [s[k]] := by
  rw [List.take_succ_eq_append_getElem (by simpa using h)]; rfl
theorem bytes_in (s : ByteArray) (k : Nat) (h : k < s.size) : s[k] ∈ s.data.toList := by
  have : s[k] = s.data.toList[k]'(by simpa using h) := rfl
  rw [this]; exact List.getElem_mem _
theorem no_digit {c : UInt8} (h : (c.toNat : Int) < 48 ∨ 57 < (c.toNat : Int)) : isD c = false := by
  unfold isD; rw [decide_eq_false_iff_not]; omega
theorem a_digit {c : UInt8} (h1 : ¬ (c.toNat : Int) < 48) (h2 : ¬ 57 < (c.toNat : Int)) : isD c = true := by
  unfold isD; rw [decide_eq_true_eq]; omega

/-- the reference's digits -/
theorem refdigs_any (s : ByteArray) (w : World) (hs : s.size ≤ 4611686018427387904) :
    Calls Tryd.prog 47 #[.string s] w fun e w' => e = .returned (.bool (digB s.data.toList)) ∧ w = w' := by
  go_enter Tryd.func47, Tryd.ntmps47
  go_wp2
  go_loop [3] (fun i => ∃ k : Nat, k ≤ s.size ∧ i = .int .i64 k ∧ (s.data.toList.take k).all isD = true) (fun i => s.size - (intOf i).toNat)
  case atStart => exact ⟨0, Nat.zero_le _, rfl, rfl⟩
  case round =>
    obtain ⟨k, hk, rfl, hall⟩ := hrel
    have HA := Lib.hid hall
    clear hall
    by_cases hlt : k < s.size
    · by_cases h1 : (s[k].toNat : Int) < 48
      · have fin : Hid (digB s.data.toList = false) := Lib.hid (by
          unfold digB; rw [Bool.and_eq_false_iff]; left
          exact List.all_eq_false.2 ⟨s[k], bytes_in s k hlt, by rw [no_digit (.inl h1)]; simp⟩)
        go_wp2
        go_ret
        exact ⟨ret_bool fin.out.symm, rfl⟩
      · by_cases h2 : 57 < (s[k].toNat : Int)
        · have fin : Hid (digB s.data.toList = false) := Lib.hid (by
            unfold digB; rw [Bool.and_eq_false_iff]; left
            exact List.all_eq_false.2 ⟨s[k], bytes_in s k hlt, by rw [no_digit (.inr h2)]; simp⟩)
          go_wp2
          go_ret
          exact ⟨ret_bool fin.out.symm, rfl⟩
        · have nxt : Hid ((s.data.toList.take (k + 1)).all isD = true) := Lib.hid (by rw [bytes_take s k hlt, List.all_append, HA.out]; simp [a_digit h1 h2])
          go_wp2
          go_round
          case rel => exact ⟨k + 1, by omega, by go_num, nxt.out⟩
          case measure => simp [intOf]; omega
    · have hall : s.data.toList.all isD = true := by
        have := HA.out
        rwa [List.take_of_length_le (by simp; omega)] at this
      have fin : Hid (digB s.data.toList = decide (0 < s.size)) := Lib.hid (by
        unfold digB; rw [hall, Bool.true_and]
        have hl : s.data.toList.length = s.size := by simp
        rw [← hl]
        cases s.data.toList with
        | nil => rfl
        | cons c r => simp)
      clear hall
      go_wp2
      go_ret
      exact ⟨ret_bool (by rw [fin.out]), rfl⟩

/-- no point in front -/
def noPt (l : List UInt8) : Bool := l.all fun c => c != 46
theorem index_pt (d f : List UInt8) (hd : noPt d = true) : Lib.index (d ++ 46 :: f) [46] = d.length := by
  induction d with
  | nil => simp [Lib.index, List.isPrefixOf]
  | cons c r ih =>
    unfold noPt at hd ih
    simp only [List.all_cons, Bool.and_eq_true, bne_iff_ne] at hd
    have hne : (46 == c) = false := by rw [beq_eq_false_iff_ne]; exact fun e => hd.1 e.symm
    rw [List.cons_append, Lib.index, ih hd.2]
    have h1 : ([46] : List UInt8).isPrefixOf (c :: (r ++ 46 :: f)) = false := by simp [List.isPrefixOf, hne]
    rw [h1, if_neg (by simp), if_neg (by simp <;> omega)]
    simp
theorem index_nopt (d : List UInt8) (hd : noPt d = true) : Lib.index d [46] = -1 := by
  induction d with
  | nil => simp [Lib.index]
  | cons c r ih =>
    unfold noPt at hd ih
    simp only [List.all_cons, Bool.and_eq_true, bne_iff_ne] at hd
    have hne : (46 == c) = false := by rw [beq_eq_false_iff_ne]; exact fun e => hd.1 e.symm
    rw [Lib.index, ih hd.2]
    have h1 : ([46] : List UInt8).isPrefixOf (c :: r) = false := by simp [List.isPrefixOf, hne]
    rw [h1, if_neg (by simp)]
    simp
theorem byte_pt {c : UInt8} (h : c = 46) : ((c.toNat : Int) == 46) = true := by subst h; rfl
theorem byte_npt {c : UInt8} (h : c ≠ 46) : ((c.toNat : Int) == 46) = false := by
  rw [beq_eq_false_iff_ne]
  intro e
  exact h (UInt8.toNat_inj.1 (show c.toNat = (46 : UInt8).toNat by show c.toNat = 46; omega))
theorem split_at (s : ByteArray) (k : Nat) (h : k < s.size) : s.data.toList = s.data.toList.take k ++ s[k] :: s.data.toList.drop (k + 1) := by
  have hl : k < s.data.toList.length := by simpa using h
  have e : s[k] :: s.data.toList.drop (k + 1) = s.data.toList.drop k := by rw [List.drop_eq_getElem_cons hl]; rfl
  rw [e, List.take_append_drop]

/-- the reference's point -/
theorem point_any (s : ByteArray) (w : World) (hs : s.size ≤ 4611686018427387904) :
    Calls Tryd.prog 32 #[.string s] w fun e w' => e = .returned (.int .i64 (Lib.index s.data.toList [46])) ∧ w = w' := by
  go_enter Tryd.func32, Tryd.ntmps32
  go_wp2
  go_loop [3] (fun i => ∃ k : Nat, k ≤ s.size ∧ i = .int .i64 k ∧ noPt (s.data.toList.take k) = true) (fun i => s.size - (intOf i).toNat)
  case atStart => exact ⟨0, Nat.zero_le _, rfl, rfl⟩
  case round =>
    obtain ⟨k, hk, rfl, hall⟩ := hrel
    have HA := Lib.hid hall
    clear hall
    by_cases hlt : k < s.size
    · by_cases h1 : s[k] = 46
      · have fin : Hid (Lib.index s.data.toList [46] = k) := Lib.hid (by
          have e := split_at s k hlt
          rw [h1] at e
          rw [e, index_pt _ _ HA.out, List.length_take]
          have hl : s.data.toList.length = s.size := by simp
          omega)
        have h2 := byte_pt h1
        clear h1
        go_wp2
        go_ret
        exact ⟨ret_int fin.out.symm, rfl⟩
      · have nxt : Hid (noPt (s.data.toList.take (k + 1)) = true) := Lib.hid (by
          have := HA.out
          unfold noPt at this ⊢
          rw [bytes_take s k hlt, List.all_append, this]; simp [h1])
        have h2 := byte_npt h1
        clear h1
        go_wp2
        go_round
        case rel => exact ⟨k + 1, by omega, by go_num, nxt.out⟩
        case measure => simp [intOf]; omega
    · have fin : Hid (Lib.index s.data.toList [46] = -1) := Lib.hid (by
        have := HA.out
        rw [List.take_of_length_le (by simp; omega)] at this
        exact index_nopt _ this)
      go_wp2
      go_ret
      exact ⟨ret_int fin.out.symm, rfl⟩

/-- Is it a decimal? -/
def decB (l : List UInt8) : Bool := digB (Lib.cut l [46]).1 && (!(Lib.cut l [46]).2.2 || digB (Lib.cut l [46]).2.1)
theorem ext_take (b : ByteArray) (r : Nat) : (b.extract 0 r).data.toList = b.data.toList.take r := by
  rw [Lib.extract_data]; simp
theorem ext_drop (b : ByteArray) (r : Nat) : (b.extract r b.size).data.toList = b.data.toList.drop r := by
  rw [Lib.extract_data, List.take_of_length_le (by rw [List.length_drop]; simp)]
theorem decimal_any (s : ByteArray) (w : World) (hs : s.size ≤ 1000) :
    Calls Tryd.prog 31 #[.string s] w fun e w' => e = .returned (.bool (decB s.data.toList)) ∧ w = w' := by
  by_cases hi : 0 ≤ Lib.index s.data.toList [46]
  · obtain ⟨k, hk, e⟩ := index_at s.data.toList hi
    have hks : k < s.size := by
      have := congrArg List.length e
      simp at this
      omega
    have hcut : Lib.cut s.data.toList [46] = (s.data.toList.take k, s.data.toList.drop (k + 1), true) := by
      unfold Lib.cut; rw [if_pos hi, hk]; simp
    obtain ⟨d1, hd1⟩ : ∃ b, digB (s.data.toList.take k) = b := ⟨_, rfl⟩
    obtain ⟨d2, hd2⟩ : ∃ b, digB (s.data.toList.drop (k + 1)) = b := ⟨_, rfl⟩
    have fin : Hid (decB s.data.toList = (d1 && d2)) := Lib.hid (by unfold decB; rw [hcut]; simp only; rw [hd1, hd2]; simp)
    have hp : Hid (∀ w : World, Calls Tryd.prog 32 #[.string s] w fun e w' => e = .returned (.int .i64 (k : Nat)) ∧ w = w') := Lib.hid fun w => by have := point_any s w (by omega); rw [hk] at this; exact this
    have c1 : Hid (∀ w : World, Calls Tryd.prog 47 #[.string (s.extract 0 k)] w fun e w' => e = .returned (.bool d1) ∧ w = w') := Lib.hid fun w => by
      have := refdigs_any (s.extract 0 k) w (by simp; omega)
      rw [ext_take, hd1] at this
      exact this
    have c2 : Hid (∀ w : World, Calls Tryd.prog 47 #[.string (s.extract (k + 1) s.size)] w fun e w' => e = .returned (.bool d2) ∧ w = w') := Lib.hid fun w => by
      have := refdigs_any (s.extract (k + 1) s.size) w (by simp; omega)
      rw [ext_drop, hd2] at this
      exact this
    clear hk hcut hd1 hd2 hi e
    cases d1
    all_goals
      go_enter Tryd.func31, Tryd.ntmps31
      go_wp2_with fail
      refine (hp.out _).mono ?_
      rintro e w1 ⟨rfl, rfl⟩
      go_wp2_with fail
      refine (c1.out _).mono ?_
      rintro e w1 ⟨rfl, rfl⟩
      go_wp2_with fail
      first
        | (go_ret; exact ⟨ret_bool (by rw [fin.out]; simp), rfl⟩)
        | (refine (c2.out _).mono ?_
           rintro e w1 ⟨rfl, rfl⟩
           go_wp2_with fail
           go_ret
           exact ⟨ret_bool (by rw [fin.out]; simp), rfl⟩)
  · obtain ⟨d1, hd1⟩ : ∃ b, digB s.data.toList = b := ⟨_, rfl⟩
    have hi1 : Lib.index s.data.toList [46] = -1 := by have := Lib.index_ge s.data.toList [46]; omega
    have fin : Hid (decB s.data.toList = d1) := Lib.hid (by unfold decB Lib.cut; rw [if_neg hi]; simp only; rw [hd1]; simp)
    have hp : Hid (∀ w : World, Calls Tryd.prog 32 #[.string s] w fun e w' => e = .returned (.int .i64 (-1)) ∧ w = w') := Lib.hid fun w => by have := point_any s w (by omega); rw [hi1] at this; exact this
    have c1 : Hid (∀ w : World, Calls Tryd.prog 47 #[.string s] w fun e w' => e = .returned (.bool d1) ∧ w = w') := Lib.hid fun w => by
      have := refdigs_any s w (by omega)
      rw [hd1] at this
      exact this
    clear hi hi1 hd1
    go_enter Tryd.func31, Tryd.ntmps31
    go_wp2_with fail
    refine (hp.out _).mono ?_
    rintro e w1 ⟨rfl, rfl⟩
    go_wp2_with fail
    refine (c1.out _).mono ?_
    rintro e w1 ⟨rfl, rfl⟩
    go_wp2_with fail
    go_ret
    exact ⟨ret_bool fin.out.symm, rfl⟩
end Go.Proofs.YtggiljlndenjoaaDoor.RatM

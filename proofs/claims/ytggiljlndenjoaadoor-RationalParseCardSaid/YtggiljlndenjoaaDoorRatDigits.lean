/- Contracts of strconv.Itoa at this translation and of Digits and Number of the reference of layer 1. -/
import Derived.Test.YtggiljlndenjoaaDoorRatNeg
import Derived.Test.YtggiljlndenjoaaDoorTabs
import Derived.Test.YtggiljlndenjoaaDoorMathText
import Derived.Laws.IdiomStrings
import Derived.Lib.SmallJoins
namespace Go.Proofs.YtggiljlndenjoaaDoor.RatM
open Go Go.RowKit Len

theorem itoa_any (n : Int) (w : World) (h0 : -9223372036854775808 ≤ n) (h1 : n ≤ 9223372036854775807) (hT : Tabs w) :
    Calls Tryd.prog 40 #[.int .i64 n] w fun e w' => e = .returned (.string ⟨(Lib.itoa n).toArray⟩) ∧ Below w.heap.size w w' :=
  (Tryd.strconv_Itoa n h0 h1 w hT.pow).mono fun e w' ⟨he, k, os, hw⟩ => ⟨he, by rw [hw]; exact below_grow _ _ _⟩
theorem string_eq {b : ByteArray} {l : List UInt8} (h : b.data.toList = l) : Ending.returned (.string b) = .returned (.string ⟨l.toArray⟩) := by
  subst h; rfl
theorem dec_len (u : Nat) : (Lib.decDigits u).length ≤ u + 1 := by
  induction u using Nat.strongRecOn with
  | _ u ih =>
    rw [Lib.decDigits]
    split
    · simp
    · have := ih (u / 10) (by omega)
      rw [List.length_append, List.length_singleton]; omega
theorem itoa_nat (u : Nat) : Lib.itoa (u : Int) = Lib.decDigits u := by unfold Lib.itoa; rw [if_neg (by omega)]; rfl
theorem itoa_neg (n : Int) (h : n < 0) : Lib.itoa n = 45 :: Lib.decDigits n.natAbs := by
  unfold Lib.itoa; rw [if_pos h]
theorem ret_list {l m : List UInt8} (h : l = m) : Ending.returned (.string ⟨l.toArray⟩) = .returned (.string ⟨m.toArray⟩) := by rw [h]

set_option maxRecDepth 100000 in
theorem digit_walk (u : Nat) (w : World) (h : u < 10) :
    Calls Tryd.prog 53 #[.int .i64 u] w fun e w' => e = .returned (.string ⟨(Lib.decDigits u).toArray⟩) ∧ Below w.heap.size w w' := by
  obtain ⟨c, hc⟩ : ∃ c, UInt8.ofNat (48 + u) = c := ⟨_, rfl⟩
  have hbyte : (c.toNat : Int) = 48 + (u : Int) := by
    rw [← hc, UInt8.toNat_ofNat']; omega
  have fin : Hid ([c] = Lib.decDigits u) := Lib.hid (by rw [dec_small h, hc])
  clear hc
  have hconv : (convert 73 9 (.slice (some ⟨w.heap.size, 0, none⟩) 1 1)).run Tryd.prog (w.alloc (.cells #[.int .u8 (48 + (u : Int))] 5)) = .ok (.string ⟨#[c]⟩) (w.alloc (.cells #[.int .u8 (48 + (u : Int))] 5)) :=
    run_convert_bytes_back _ _ _ _ _ 1 [c] Tryd.underlying73 Tryd.underlying5 Tryd.underlying9 (fun j hj => by
      have hj0 : j = 0 := by simp at hj; exact hj
      subst hj0
      rw [List.getElem_cons_zero, hbyte]
      simp [Addr.add])
  clear hbyte
  go_enter Tryd.func53, Tryd.ntmps53
  go_wp2_with fail
  go_ret
  exact ⟨ret_list fin.out, (Below.refl _ _).alloc (Nat.le_refl _) _⟩

/-- the reference's Digits -/
theorem refdigits_any (u : Nat) : ∀ w : World, u ≤ 4000000000 →
    Calls Tryd.prog 53 #[.int .i64 u] w fun e w' => e = .returned (.string ⟨(Lib.decDigits u).toArray⟩) ∧ Below w.heap.size w w' := by
  induction u using Nat.strongRecOn with
  | _ u ih =>
    intro w hu
    by_cases h : u < 10
    · exact digit_walk u w h
    · have i1 : Hid (∀ w : World, Calls Tryd.prog 53 #[.int .i64 ((u : Int) / 10)] w fun e w' => e = .returned (.string ⟨(Lib.decDigits (u / 10)).toArray⟩) ∧ Below w.heap.size w w') := Lib.hid fun W => by
        rw [show (u : Int) / 10 = ((u / 10 : Nat) : Int) by omega]; exact ih (u / 10) (by omega) W (by omega)
      have i2 : Hid (∀ w : World, Calls Tryd.prog 53 #[.int .i64 ((u : Int) % 10)] w fun e w' => e = .returned (.string ⟨(Lib.decDigits (u % 10)).toArray⟩) ∧ Below w.heap.size w w') := Lib.hid fun W => by
        rw [show (u : Int) % 10 = ((u % 10 : Nat) : Int) by omega]; exact ih (u % 10) (by omega) W (by omega)
      have hl1 := dec_len (u / 10)
      have hl2 := dec_len (u % 10)
      have fin : Hid (Lib.decDigits (u / 10) ++ Lib.decDigits (u % 10) = Lib.decDigits u) := Lib.hid (by rw [dec_big h, dec_small (u := u % 10) (by omega)])
      clear ih
      go_enter Tryd.func53, Tryd.ntmps53
      go_wp2_with fail
      refine (i1.out _).mono ?_
      rintro e w1 ⟨rfl, hb1⟩
      go_wp2_with fail
      refine (i2.out _).mono ?_
      rintro e w2 ⟨rfl, hb2⟩
      go_wp2_with fail
      go_ret
      exact ⟨string_eq (by rw [← fin.out]; simp), hb1.trans (hb2.mono hb1.size)⟩

/-- the reference's Number -/
theorem refnumber_any (n : Int) (w : World) (h0 : -4000000000 ≤ n) (h1 : n ≤ 4000000000) :
    Calls Tryd.prog 39 #[.int .i64 n] w fun e w' => e = .returned (.string ⟨(Lib.itoa n).toArray⟩) ∧ Below w.heap.size w w' := by
  by_cases h : n < 0
  · obtain ⟨u, hu⟩ : ∃ u : Nat, -n = u := ⟨n.natAbs, by omega⟩
    have hl := dec_len u
    have hu2 : u ≤ 4000000000 := by omega
    have fin : Hid (Lib.itoa n = 45 :: Lib.decDigits u) := Lib.hid (by rw [itoa_neg n h, show n.natAbs = u by omega])
    have ic : Hid (∀ W : World, Calls Tryd.prog 53 #[.int .i64 (-n)] W fun e w' => e = .returned (.string ⟨(Lib.decDigits u).toArray⟩) ∧ Below W.heap.size W w') := Lib.hid fun W => by rw [hu]; exact refdigits_any u W (by omega)
    clear hu
    go_enter Tryd.func39, Tryd.ntmps39
    go_wp2_with fail
    refine (ic.out _).mono ?_
    rintro e w1 ⟨rfl, hb1⟩
    go_wp2_with fail
    go_ret
    exact ⟨string_eq (by rw [fin.out]; simp), hb1⟩
  · obtain ⟨u, rfl⟩ := Int.eq_ofNat_of_zero_le (show 0 ≤ n by omega)
    have fin : Hid (Lib.itoa (u : Int) = Lib.decDigits u) := Lib.hid (itoa_nat u)
    go_enter Tryd.func39, Tryd.ntmps39
    go_wp2_with fail
    refine (refdigits_any u _ (by omega)).mono ?_
    rintro e w1 ⟨rfl, hb1⟩
    go_wp2_with fail
    go_ret
    exact ⟨ret_list fin.out.symm, hb1⟩
end Go.Proofs.YtggiljlndenjoaaDoor.RatM

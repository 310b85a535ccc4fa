/- A number in 8 bytes, of the program and of the reference. -/
import Derived.Test.YtohoobgbmhondaaDigOwn
namespace Go.Proofs.Ytohoobgbmhondaa.By
open Go Go.RowKit

theorem eight_snoc (n : Int) {j : Nat} (h : j < 8) : (eightL n).take (j + 1) = (eightL n).take j ++ [UInt8.ofNat (n.toNat / 2 ^ (56 - 8 * j) % 256)] := by
  rw [List.take_succ_eq_append_getElem (by rw [eightL_len]; exact h)]
  congr 2
  simp [eightL]
theorem eight_byte2 {n : Int} (hn : U64 n) {s : Nat} : n / 2 ^ s % 256 = ((UInt8.ofNat (n.toNat / 2 ^ s % 256)).toNat : Int) := by
  obtain ⟨k, rfl, _⟩ := toNat_bd hn
  rw [byte_nat, Int.toNat_natCast]
  have e : ((k / 2 ^ s % 256 : Nat) : Int) = (k : Int) / 2 ^ s % 256 := by rw [Int.natCast_emod, Int.natCast_ediv, Int.natCast_pow]; rfl
  rw [e]
  exact (Int.emod_emod_of_dvd _ (Int.dvd_refl _)).symm
theorem eight_byte {n : Int} (hn : U64 n) {q : Nat} (hq : q ≤ 7) : n / 2 ^ (8 * q) % 256 = ((UInt8.ofNat (n.toNat / 2 ^ (56 - 8 * (8 - (q + 1))) % 256)).toNat : Int) := by
  rw [show 56 - 8 * (8 - (q + 1)) = 8 * q by omega]
  exact eight_byte2 hn
set_option maxHeartbeats 1000000 in
theorem num_any (base : Nat) (v : Value) (L : List UInt8) (n : Int) (w : World) (hn : U64 n) (hB : Byt w base v L) (hb : base ≤ w.heap.size) (hl : L.length + 8 ≤ 140737488355328) :
    Calls Try.prog 32 #[v, .int .u64 n] w (Put base w v (L ++ eightL n)) := by
  obtain ⟨i0, hi, hz0, hz1, hz2⟩ := info_parts info_u8
  obtain ⟨hn0, hn1⟩ := hn
  have HNN : Hid (U64 n) := Lib.hid ⟨hn0, hn1⟩
  have hn2 : n ≤ 18446744073709551615 := by omega
  clear hn1
  have HY : Hid (Byt w base v (L ++ (eightL n).take (8 - 8))) := Lib.hid (by rw [Nat.sub_self, List.take_zero, List.append_nil]; exact hB)
  have HG : Hid (Grew w w v v) := Lib.hid (Grew.refl w v)
  clear hB
  go_enter Try.func32, Try.ntmps32
  go_wp2_with fail
  go_loopw [0, 5] (fun b i wr => ∃ (m : Nat) (vb : Value), m ≤ 8 ∧ i = .int .i64 ((m : Int) - 1) ∧ vb = b ∧ Hid (Byt wr base vb (L ++ (eightL n).take (8 - m))) ∧ Hid (Grew w wr v vb))
    (fun _ i _ => (intOf i + 1).toNat)
  case atStart => exact ⟨8, v, Nat.le_refl _, rfl, rfl, HY, HG⟩
  case round =>
    obtain ⟨m, vb, hm, rfl, rfl, HYm, HGm⟩ := hrel
    by_cases hz : m = 0
    · subst hz
      have HF : Hid (Byt wr base vb (L ++ eightL n)) := Lib.hid (by have := HYm.out; rwa [List.take_of_length_le (by rw [eightL_len]; omega)] at this)
      go_wp2_with fail
      go_ret
      exact ⟨vb, rfl, HF.out, HGm.out⟩
    · obtain ⟨q, rfl⟩ : ∃ q, m = q + 1 := ⟨m - 1, by omega⟩
      have hq : (q : Int) ≤ 7 := by omega
      have HLT : Hid ((L ++ (eightL n).take (8 - (q + 1))).length + 1 ≤ 140737488355328) := Lib.hid (by rw [List.length_append, List.length_take]; omega)
      obtain ⟨P, hP⟩ : ∃ P, L ++ (eightL n).take (8 - (q + 1)) = P := ⟨_, rfl⟩
      rw [hP] at HLT HYm
      have HP := Lib.hid hP
      clear hP hz
      have hbw : base ≤ wr.heap.size := Nat.le_trans hb HGm.out.size
      go_wp2_with (first
        | (at_builtin; refine wpList_append_own_at _ rfl _ _ 24 rfl base 5 i0 (.int .u8 0) 1 1 Try.underlying24 hi hz0 hz1 hz2 rfl (by decide) vb P.length (cellsL P) rfl (HYm.out.below (below_new _ _)) ⟨wr.heap.size, 0, none⟩ 1 1 [_] rfl rfl (cell_one_new _ _ _) ?c2 ?c3 ?c4 ?c5 ?_)
        | fail)
      case c2 => intro u hu; simp at hu; subst hu; rfl
      case c3 => unfold maxLen; have := HLT.out; omega
      case c4 => have := HLT.out; omega
      case c5 => simp; omega
      intro v' w1 hown hgrow _ hat
      have HX : Hid (Byt w1 base v' (L ++ (eightL n).take (8 - q))) := Lib.hid (by
        have e := eight_snoc n (j := 8 - (q + 1)) (by omega)
        rw [show 8 - (q + 1) + 1 = 8 - q by omega] at e
        rw [e, ← List.append_assoc, HP.out]
        exact byt_snoc (eight_byte HNN.out (by omega)) hown)
      have HG2 : Hid (Grew w w1 v v') := Lib.hid (HGm.out.trans (Grew.app (below_new wr _) hgrow hat (Nat.le_succ _)))
      clear hown hgrow hat
      go_wp2
      go_roundw
      case rel => exact ⟨q, v', by omega, by go_num, rfl, HX, HG2⟩
      case measure => simp [intOf]
set_option maxHeartbeats 1000000 in
theorem eight_any (n : Int) (w : World) (hn : U64 n) :
    Calls Try.prog 33 #[.int .u64 n] w (Fresh w (eightL n)) := by
  obtain ⟨i0, hi, hz0, hz1, hz2⟩ := info_parts info_u8
  obtain ⟨hn0, hn1⟩ := hn
  have HNN : Hid (U64 n) := Lib.hid ⟨hn0, hn1⟩
  have hn2 : n ≤ 18446744073709551615 := by omega
  clear hn1
  have HY : Hid (Byt w w.heap.size (.slice none 0 0) ((eightL n).take 0)) := Lib.hid (by rw [List.take_zero]; exact Byt.nil _ _)
  have HG : Hid (Below w.heap.size w w) := Lib.hid (Below.refl _ _)
  go_enter Try.func33, Try.ntmps33
  go_wp2_with fail
  go_loopw [3, 4] (fun b i wr => ∃ (j : Nat) (vb : Value), j ≤ 8 ∧ i = .int .i64 (j : Int) ∧ vb = b ∧ Hid (Byt wr w.heap.size vb ((eightL n).take j)) ∧ Hid (Below w.heap.size w wr))
    (fun _ i _ => (8 - intOf i).toNat)
  case atStart => exact ⟨0, .slice none 0 0, by omega, rfl, rfl, HY, HG⟩
  case round =>
    obtain ⟨j, vb, hj, rfl, rfl, HYm, HGm⟩ := hrel
    by_cases hlt : j < 8
    · have hq : (j : Int) ≤ 7 := by omega
      have HLT : Hid (((eightL n).take j).length + 1 ≤ 140737488355328) := Lib.hid (by rw [List.length_take, eightL_len]; omega)
      obtain ⟨P, hP⟩ : ∃ P, (eightL n).take j = P := ⟨_, rfl⟩
      rw [hP] at HLT HYm
      have HP := Lib.hid hP
      clear hP
      have hbw : w.heap.size ≤ wr.heap.size := HGm.out.size
      go_wp2_with (first
        | (at_builtin; refine wpList_append_own_at _ rfl _ _ 24 rfl w.heap.size 5 i0 (.int .u8 0) 1 1 Try.underlying24 hi hz0 hz1 hz2 rfl (by decide) vb P.length (cellsL P) rfl (HYm.out.below (below_new _ _)) ⟨wr.heap.size, 0, none⟩ 1 1 [_] rfl rfl (cell_one_new _ _ _) ?c2 ?c3 ?c4 ?c5 ?_)
        | fail)
      case c2 => intro u hu; simp at hu; subst hu; rfl
      case c3 => unfold maxLen; have := HLT.out; omega
      case c4 => have := HLT.out; omega
      case c5 => simp; omega
      intro v' w1 hown hgrow _ hat
      have HX : Hid (Byt w1 w.heap.size v' ((eightL n).take (j + 1))) := Lib.hid (by
        rw [eight_snoc n hlt, HP.out]
        exact byt_snoc (eight_byte2 HNN.out) hown)
      have HG2 : Hid (Below w.heap.size w w1) := Lib.hid ((below_self HGm.out (below_new wr _)).grown hgrow (by simp; omega) (fun k hk => HYm.out.low k hk))
      clear hown hgrow hat
      go_wp2
      go_roundw
      case rel => exact ⟨j + 1, v', by omega, by go_num, rfl, HX, HG2⟩
      case measure => simp [intOf]; omega
    · have HF : Hid (Byt wr w.heap.size vb (eightL n)) := Lib.hid (by have := HYm.out; rwa [List.take_of_length_le (by rw [eightL_len]; omega)] at this)
      go_wp2_with fail
      go_ret
      exact Fresh.mk HF.out HGm.out
end Go.Proofs.Ytohoobgbmhondaa.By

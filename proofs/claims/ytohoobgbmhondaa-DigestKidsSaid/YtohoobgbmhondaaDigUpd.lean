/- Update and Bytes, of the program and of the reference; the example that every law asks first. -/
import Derived.Test.YtohoobgbmhondaaDigMath
import Derived.Test.YtohoobgbmhondaaOwnB
import Derived.Lib.SlBytesConst
namespace Go.Proofs.Ytohoobgbmhondaa.By
open Go Go.RowKit

set_option maxHeartbeats 1000000 in
theorem upd_any {w : World} {A : Option Addr} {n c : Nat} {l : List UInt8} (h : Int) (hn : n = l.length) (hB : BytAt w w.heap.size A l) (hl : l.length ≤ 9223372036854775807) :
    Calls Try.prog 19 #[.int .u64 h, .slice A n c] w fun e w' => e = .returned (.int .u64 (updI h l)) ∧ w' = w := by
  subst hn
  go_enter Try.func19, Try.ntmps19
  go_wp2
  go_loop [0, 9] (fun u i => ∃ (k : Nat), k ≤ l.length ∧ i = .int .i64 k ∧ u = .int .u64 (updI h (l.take k))) (fun _ i => l.length - (intOf i).toNat)
  case atStart => exact ⟨0, Nat.zero_le _, rfl, rfl⟩
  case round =>
    obtain ⟨k, hk, rfl, rfl⟩ := hrel
    by_cases hlt : k < l.length
    · obtain ⟨g, off, rfl, hg, hc⟩ := hB.pos (by omega)
      have hck := hc k hlt
      have hcb : (l[k].toNat : Int) < 256 := by have := UInt8.toNat_lt l[k]; omega
      have HS : Hid (updI h (l.take (k + 1)) = stepI (updI h (l.take k)) l[k].toNat) := Lib.hid (updI_take h hlt)
      clear hc
      go_wp2
      go_round
      case rel => exact ⟨k + 1, by omega, by go_num, by rw [HS.out, stepI]⟩
      case measure => simp [intOf]; omega
    · have HE : Hid (updI h (l.take k) = updI h l) := Lib.hid (by rw [List.take_of_length_le (by omega)])
      go_wp2
      go_ret
      exact ⟨ret_int HE.out, rfl⟩
set_option maxHeartbeats 1000000 in
theorem rupd_any {w : World} {A : Option Addr} {n c : Nat} {l : List UInt8} (h : Int) (hn : n = l.length) (hB : BytAt w w.heap.size A l) (hl : l.length ≤ 9223372036854775807) :
    Calls Try.prog 20 #[.int .u64 h, .slice A n c] w fun e w' => e = .returned (.int .u64 (updI h l)) ∧ w' = w := by
  subst hn
  go_enter Try.func20, Try.ntmps20
  go_wp2
  go_loop [0, 5] (fun u i => ∃ (k : Nat), k ≤ l.length ∧ i = .int .i64 k ∧ u = .int .u64 (updI h (l.take k))) (fun _ i => l.length - (intOf i).toNat)
  case atStart => exact ⟨0, Nat.zero_le _, rfl, rfl⟩
  case round =>
    obtain ⟨k, hk, rfl, rfl⟩ := hrel
    by_cases hlt : k < l.length
    · obtain ⟨g, off, rfl, hg, hc⟩ := hB.pos (by omega)
      have hck := hc k hlt
      have hcb : (l[k].toNat : Int) < 256 := by have := UInt8.toNat_lt l[k]; omega
      have HS : Hid (updI h (l.take (k + 1)) = stepI (updI h (l.take k)) l[k].toNat) := Lib.hid (updI_take h hlt)
      clear hc
      go_wp2
      go_round
      case rel => exact ⟨k + 1, by omega, by go_num, by rw [HS.out, stepI]⟩
      case measure => simp [intOf]; omega
    · have HE : Hid (updI h (l.take k) = updI h l) := Lib.hid (by rw [List.take_of_length_le (by omega)])
      go_wp2
      go_ret
      exact ⟨ret_int HE.out, rfl⟩
theorem bytes_any {w : World} {A : Option Addr} {n c : Nat} {l : List UInt8} (hn : n = l.length) (hB : BytAt w w.heap.size A l) (hl : l.length ≤ 9223372036854775807) :
    Calls Try.prog 17 #[.slice A n c] w fun e w' => e = .returned (.int .u64 (updI startI l)) ∧ w' = w := by
  have HC := Lib.hid (upd_any (c := c) startI hn hB hl)
  clear hn hB
  go_enter Try.func17, Try.ntmps17
  go_wp2_with (first | (go_at_call 19; refine HC.out.mono ?_; rintro e w' ⟨rfl, rfl⟩) | fail)
  go_ret
  exact ⟨rfl, rfl⟩
theorem rbytes_any {w : World} {A : Option Addr} {n c : Nat} {l : List UInt8} (hn : n = l.length) (hB : BytAt w w.heap.size A l) (hl : l.length ≤ 9223372036854775807) :
    Calls Try.prog 18 #[.slice A n c] w fun e w' => e = .returned (.int .u64 (updI startI l)) ∧ w' = w := by
  have HC := Lib.hid (rupd_any (c := c) startI hn hB hl)
  clear hn hB
  go_enter Try.func18, Try.ntmps18
  go_wp2_with (first | (go_at_call 20; refine HC.out.mono ?_; rintro e w' ⟨rfl, rfl⟩) | fail)
  go_ret
  exact ⟨rfl, rfl⟩
theorem upd_a : updI startI [97] = 12638187200555641996 := by decide +kernel
theorem awake_any (w : World) : Calls Try.prog 16 #[] w fun e w' => e = .returned (.bool true) ∧ Below w.heap.size w w' := by
  have HU := Lib.hid upd_a
  have HCV := Go.Lib.run_convert_bytes_const (P := Try.prog) w 24 5 #[.int .u8 97] 1 1 Try.underlying24 Try.underlying5
  go_enter Try.func16, Try.ntmps16
  go_wp2_with (first
    | (go_at_call 17
       refine (bytes_any (l := [97]) rfl (.inr ⟨w.heap.size, 0, rfl, by simp, fun j hj => by
         obtain rfl : j = 0 := by simp at hj; omega
         unfold World.cell?; rw [heap_alloc_new]; rfl⟩) (by simp)).mono ?_
       rintro e w' ⟨he, rfl⟩
       rw [HU.out] at he
       subst he)
    | fail)
  go_ret
  exact ⟨rfl, below_new _ _⟩
end Go.Proofs.Ytohoobgbmhondaa.By

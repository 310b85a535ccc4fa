/- Valid of package codec. -/
import Derived.Test.YtohoobgbmhondaaCodLies
namespace Go.Proofs.Ytohoobgbmhondaa.Cod
open Go Go.RowKit

theorem str_empty {sb : ByteArray} {s : List UInt8} (h : sb.data.toList = s) : (sb.toList = [] ↔ s = []) := by rw [Go.ByteArray.toList_eq, h]
theorem own1 {i : Int} {s : List UInt8} {n : Nat} : ownB 1 i s n = (s.isEmpty && n == 0) := by simp [ownB]
theorem own2 {i : Int} {s : List UInt8} {n : Nat} : ownB 2 i s n = (i == 0 && n == 0) := by simp [ownB]
theorem own3 {i : Int} {s : List UInt8} {n : Nat} : ownB 3 i s n = (i == 0 && s.isEmpty) := by simp [ownB]
/-- codec.hasOwnField -/
theorem own_field {k i : Int} {sb : ByteArray} {s : List UInt8} {A : Option Addr} {n c : Nat} (hs : sb.data.toList = s) (w : World) :
    Calls Try.prog 43 #[.agg #[.int .i64 k, .int .i64 i, .string sb, .slice A n c]] w fun e w' => e = .returned (.bool (ownB k i s n)) ∧ Below w.heap.size w w' := by
  have HS := Lib.hid (str_empty hs)
  have HE : Hid (sb.toList.isEmpty = s.isEmpty) := Lib.hid (by rw [Go.ByteArray.toList_eq, hs])
  clear hs
  go_enter Try.func43, Try.ntmps43
  go_wp2
  all_goals go_ret
  all_goals refine ⟨ret_bool ?_, below_new _ _⟩
  all_goals
    have e := HS.out
    have eb := HE.out
    have en : ((n : Int) == 0) = (n == 0) := by rw [Bool.eq_iff_iff]; simp
    unfold ownB
    simp_all
/-- codec.validWithin -/
theorem within_n : ∀ (n : Nat) (t : T) (v : Value) (F : Nat → Prop) (d : Nat) (w : World), szT t ≤ n → d ≤ 64 → Lies w F t v →
    Calls Try.prog 34 #[v, .int .i64 d] w fun e w' => e = .returned (.bool (valT d t)) ∧ Below w.heap.size w w' := by
  intro n
  induction n with
  | zero => intro t v F d w h; have := szT_pos t; omega
  | succ n ih =>
    intro t v F d w hn hd hL
    obtain ⟨k, i, s, l⟩ := t
    obtain ⟨sb, A, c, rfl, hs, hk, hi, hs2, hl, hA⟩ := hL.node
    have hsz : Hid (szT (.node k i s l) = 1 + szL l) := Lib.hid rfl
    have IH := Lib.hid ih
    obtain ⟨N, hN⟩ : ∃ N, w.heap.size = N := ⟨_, rfl⟩
    obtain ⟨W1, hW1⟩ : ∃ W1, W1 = w.alloc (.cells #[.int .i64 k, .int .i64 i, .string sb, .slice A l.length c] 33) := ⟨_, rfl⟩
    have HW1 := Lib.hid hW1
    have hs1 : W1.heap.size = N + 1 := by rw [hW1]; exact size_new hN _
    have hB1 : Below N w W1 := by rw [hW1, ← hN]; exact below_new _ _
    have hc0 : W1.cell? ⟨N, 0, none⟩ = some (.int .i64 k) := by rw [hW1]; exact new_cell hN _ _ 0 rfl
    have hc1 : W1.cell? ⟨N, 1, none⟩ = some (.int .i64 i) := by rw [hW1]; exact new_cell hN _ _ 1 rfl
    have hc2 : W1.cell? ⟨N, 2, none⟩ = some (.string sb) := by rw [hW1]; exact new_cell hN _ _ 2 rfl
    have hc3 : W1.cell? ⟨N, 3, none⟩ = some (.slice A l.length c) := by rw [hW1]; exact new_cell hN _ _ 3 rfl
    have hA1 : ListAt W1 F A l := hA.below (by rw [hN]; exact hB1)
    have HF : Hid (∀ W, Calls Try.prog 43 #[.agg #[.int .i64 k, .int .i64 i, .string sb, .slice A l.length c]] W fun e w' => e = .returned (.bool (ownB k i s l.length)) ∧ Below W.heap.size W w') := Lib.hid fun W => own_field hs W
    have HN := Lib.hid hN
    clear hL ih hs hA hW1
    by_cases h1 : 1 ≤ d
    · have hlt1 : ¬ (d : Int) < 1 := by omega
      cases ho : ownB k i s l.length with
      | false =>
        have hfin : Hid (valT d (.node k i s l) = false) := Lib.hid (by rw [valT, ho]; simp)
        rw [ho] at HF
        clear ho hN
        go_enter Try.func34, Try.ntmps34
        go_wp2_with (first | (go_at_call 43; refine (HF.out _).mono ?_; rintro e w' ⟨rfl, hb'⟩) | fail)
        go_ret
        exact ⟨ret_bool hfin.out.symm, (below_new w _).trans (hb'.mono (below_new w _).size)⟩
      | true =>
        have heq : Hid (valT d (.node k i s l) = valL (d - 1) l) := Lib.hid (by rw [valT, ho]; simp [h1])
        rw [ho] at HF
        clear ho
        go_enter Try.func34, Try.ntmps34
        go_wp2_with (first | (go_at_call 43; rw [← HW1.out]; refine (HF.out _).mono ?_; rintro e w2 ⟨rfl, hb2⟩; have e3 : w2.cell? ⟨N, 3, none⟩ = some (.slice A l.length c) := old_cell hb2 hc3 (by omega)) | fail)
        go_loopw [17] (fun a wr => ∃ j : Nat, j ≤ l.length ∧ a = .int .i64 j ∧ Hid (valL (d - 1) l = valL (d - 1) (l.drop j)) ∧ Below W1.heap.size W1 wr)
          (fun a _ => l.length - (intOf a).toNat)
        case atStart => exact ⟨0, Nat.zero_le _, rfl, Lib.hid rfl, hb2⟩
        case round =>
          obtain ⟨j, hj, rfl, hall, hb⟩ := hrel
          have hAw := hA1.below hb
          have hB := hB1.trans (hb.mono (by omega))
          by_cases hlt : j < l.length
          · obtain ⟨b, off, xa, xi, xs, xB, xn, xc, rfl, hF, c0, c1, c2, c3, hLj⟩ := hAw.at hlt
            have hszj : szT l[j] ≤ n := by have h1 := szL_get hlt; have h2 := hsz.out; omega
            have hd1 : (d : Int) - 1 = ((d - 1 : Nat) : Int) := by omega
            have HC : Hid (Calls Try.prog 34 #[.agg #[.int .i64 xa, .int .i64 xi, .string xs, .slice xB xn xc], .int .i64 ((d : Int) - 1)] (wr.alloc (.cells #[.int .i64 xa, .int .i64 xi, .string xs, .slice xB xn xc] 33)) fun e w' => e = .returned (.bool (valT (d - 1) l[j])) ∧ Below (wr.alloc (.cells #[.int .i64 xa, .int .i64 xi, .string xs, .slice xB xn xc] 33)).heap.size (wr.alloc (.cells #[.int .i64 xa, .int .i64 xi, .string xs, .slice xB xn xc] 33)) w') :=
              Lib.hid (by rw [hd1]; exact IH.out l[j] _ F (d - 1) _ hszj (by omega) (hLj.below (below_new _ _)))
            have HBN := Lib.hid (below_new wr (.cells #[.int .i64 xa, .int .i64 xi, .string xs, .slice xB xn xc] 33))
            clear hd1 hAw hN
            cases hv : valT (d - 1) l[j] with
            | true =>
              have hnext : Hid (valL (d - 1) l = valL (d - 1) (l.drop (j + 1))) := Lib.hid (by rw [hall.out, valL_drop hlt, hv]; rfl)
              rw [hv] at HC
              clear hv
              go_wp2_with (first | (go_at_call 34; refine HC.out.mono ?_; rintro e w' ⟨rfl, hb'⟩) | fail)
              go_roundw
              case rel => exact ⟨j + 1, by omega, by go_num, hnext, hb.trans (((HBN.out).trans (hb'.mono HBN.out.size)).mono hb.size)⟩
              case measure => simp [intOf]; omega
            | false =>
              have hfin : Hid (valT d (.node k i s l) = false) := Lib.hid (by rw [heq.out, hall.out, valL_drop hlt, hv]; rfl)
              rw [hv] at HC
              clear hv
              go_wp2_with (first | (go_at_call 34; refine HC.out.mono ?_; rintro e w' ⟨rfl, hb'⟩) | fail)
              go_ret
              refine ⟨ret_bool hfin.out.symm, ?_⟩
              rw [HN.out]
              exact hB.trans (((HBN.out).trans (hb'.mono HBN.out.size)).mono (by have := hB.size; rw [HN.out] at this; exact this))
          · have hfin : Hid (valT d (.node k i s l) = true) := Lib.hid (by rw [heq.out, hall.out, valL_end hlt])
            clear hAw
            go_wp2_with fail
            go_ret
            refine ⟨ret_bool hfin.out.symm, ?_⟩
            rw [HN.out]
            exact hB
    · have hd0 : d = 0 := by omega
      subst hd0
      have hfin : Hid (valT 0 (.node k i s l) = false) := Lib.hid (by rw [valT]; simp)
      clear hN
      go_enter Try.func34, Try.ntmps34
      go_wp2_with fail
      go_ret
      exact ⟨ret_bool hfin.out.symm, below_new w _⟩
/-- codec.Valid -/
theorem valid_any {t : T} {v : Value} {F : Nat → Prop} {w : World} (h : Lies w F t v) :
    Calls Try.prog 28 #[v] w fun e w' => e = .returned (.bool (valT 64 t)) ∧ Below w.heap.size w w' := by
  obtain ⟨k, i, s, l⟩ := t
  have hL := h
  obtain ⟨sb, A, c, rfl, hs, hk, hi, hs2, hl, hA⟩ := h.node
  have HC : Hid (Calls Try.prog 34 #[.agg #[.int .i64 k, .int .i64 i, .string sb, .slice A l.length c], .int .i64 64] (w.alloc (.cells #[.int .i64 k, .int .i64 i, .string sb, .slice A l.length c] 33)) fun e w' => e = .returned (.bool (valT 64 (.node k i s l))) ∧ Below (w.alloc (.cells #[.int .i64 k, .int .i64 i, .string sb, .slice A l.length c] 33)).heap.size (w.alloc (.cells #[.int .i64 k, .int .i64 i, .string sb, .slice A l.length c] 33)) w') :=
    Lib.hid (within_n _ _ _ F 64 _ (Nat.le_refl _) (Nat.le_refl _) (hL.below (below_new _ _)))
  generalize valT 64 (.node k i s l) = r at *
  clear hs hA hL h
  go_enter Try.func28, Try.ntmps28
  go_wp2_with (first | (go_at_call 34; refine HC.out.mono ?_; rintro e w' ⟨rfl, hb'⟩) | fail)
  go_ret
  exact ⟨rfl, (below_new w _).trans (hb'.mono (below_new w _).size)⟩
end Go.Proofs.Ytohoobgbmhondaa.Cod

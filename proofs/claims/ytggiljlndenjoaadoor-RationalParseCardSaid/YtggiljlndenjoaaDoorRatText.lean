/- Contracts of Text of package rational and of the reference's. -/
import Derived.Test.YtggiljlndenjoaaDoorRatDigits
import Derived.Deep.RegionHeld3
namespace Go.Proofs.YtggiljlndenjoaaDoor.RatM
open Go Go.RowKit Len

/-- The text of a number. -/
def textR (n d : Int) : List UInt8 := if validR n d = true then (if d = 1 then Lib.itoa n else Lib.itoa n ++ 47 :: Lib.itoa d) else []
/-- What stays true of the worlds that follow. -/
structure Kept (w0 w : World) : Prop where
  tabs : Tabs w
  below : Below w0.heap.size w0 w
theorem Kept.go {w0 w w' : World} (h : Kept w0 w) (hb : Below w.heap.size w w') : Kept w0 w' := ⟨h.tabs.below hb, h.below.trans (hb.mono h.below.size)⟩
theorem Kept.drewN {w0 w : World} (h : Kept w0 w) (n : Nat) : Kept w0 (w.drewN n) := h.go (below_drewN (Below.refl _ _) n)
theorem Kept.drew {w0 w : World} (h : Kept w0 w) : Kept w0 w.drew := h.go (below_drewN (Below.refl _ _) 1)
theorem itoa_size (n : Int) (h0 : -2147483647 ≤ n) (h1 : n ≤ 2147483647) : (Lib.itoa n).length ≤ 2147483649 := by
  by_cases h : n < 0
  · rw [itoa_neg n h, List.length_cons]; have := dec_len n.natAbs; omega
  · obtain ⟨u, rfl⟩ := Int.eq_ofNat_of_zero_le (show 0 ≤ n by omega)
    rw [itoa_nat]; have := dec_len u; omega

theorem cat1 (n : Int) (l1 : (Lib.itoa n).length ≤ 2147483649) : ∀ w : World, (Op.stringOp .add (⟨(Lib.itoa n).toArray⟩ : ByteArray) (⟨#[47]⟩ : ByteArray)).run Tryd.prog w = .ok (.string ((⟨(Lib.itoa n).toArray⟩ : ByteArray) ++ (⟨#[47]⟩ : ByteArray))) w := fun w =>
  run_string_add_sum _ _ _ (by show (Lib.itoa n).toArray.size + 1 ≤ _; rw [List.size_toArray]; omega)
theorem cat2 (n d : Int) (l1 : (Lib.itoa n).length ≤ 2147483649) (l2 : (Lib.itoa d).length ≤ 2147483649) : ∀ w : World, (Op.stringOp .add ((⟨(Lib.itoa n).toArray⟩ : ByteArray) ++ (⟨#[47]⟩ : ByteArray)) (⟨(Lib.itoa d).toArray⟩ : ByteArray)).run Tryd.prog w = .ok (.string ((⟨(Lib.itoa n).toArray⟩ : ByteArray) ++ (⟨#[47]⟩ : ByteArray) ++ (⟨(Lib.itoa d).toArray⟩ : ByteArray))) w := fun w =>
  run_string_add_sum _ _ _ (by
    rw [ByteArray.size_append]
    show (Lib.itoa n).toArray.size + 1 + (Lib.itoa d).toArray.size ≤ _
    rw [List.size_toArray, List.size_toArray]; omega)
theorem text_no (n d : Int) (w : World) (hn : I64 n) (hd : I64 d) (h : validR n d = false) :
    Calls Tryd.prog 25 #[.agg #[.int .i64 n, .int .i64 d]] w fun e w' => e = .returned (.string ⟨(textR n d).toArray⟩) ∧ Below w.heap.size w w' := by
  obtain ⟨n1, n2⟩ := hn
  obtain ⟨d1, d2⟩ := hd
  have fin : Hid (textR n d = []) := Lib.hid (by simp [textR, h])
  go_enter Tryd.func25, Tryd.ntmps25
  go_wp2_with fail
  refine (valid_any n d _ (by omega) (by omega) (by omega) (by omega)).mono ?_
  rintro e w1 ⟨rfl, hb1⟩
  obtain ⟨hc1, hf1⟩ := bcell hb1
  go_wp2
  go_ret
  exact ⟨string_eq (by rw [fin.out]), ((Below.refl _ _).alloc (Nat.le_refl _) _).trans (hb1.mono (by simp))⟩
theorem text_whole (n d : Int) (w : World) (hT : Tabs w) (h : validR n d = true) (hd : d = 1) :
    Calls Tryd.prog 25 #[.agg #[.int .i64 n, .int .i64 d]] w fun e w' => e = .returned (.string ⟨(textR n d).toArray⟩) ∧ Below w.heap.size w w' := by
  obtain ⟨p1, p2, p3, p4, _⟩ := valid_parts h
  have fin : Hid (textR n d = Lib.itoa n) := Lib.hid (by rw [textR, if_pos h, if_pos hd])
  have hx : (d == 1) = true := by simp [hd]
  clear hd
  go_enter Tryd.func25, Tryd.ntmps25
  go_wp2_with fail
  refine (valid_any n d _ (by omega) (by omega) (by omega) (by omega)).mono ?_
  rintro e w1 ⟨rfl, hb1⟩
  obtain ⟨hc1, hf1⟩ := bcell hb1
  have hB : Below w.heap.size w w1 := ((Below.refl _ _).alloc (Nat.le_refl _) _).trans (hb1.mono (by simp))
  have hT1 := hT.below hB
  go_wp2_with fail
  refine (itoa_any n _ (by omega) (by omega) hT1).mono ?_
  rintro e w2 ⟨rfl, hb2⟩
  go_wp2
  go_ret
  exact ⟨string_eq (by rw [fin.out]), hB.trans (hb2.mono hB.size)⟩
set_option maxHeartbeats 1000000 in
theorem text_part (n d : Int) (w : World) (hT : Tabs w) (h : validR n d = true) (hd : d ≠ 1) :
    Calls Tryd.prog 25 #[.agg #[.int .i64 n, .int .i64 d]] w fun e w' => e = .returned (.string ⟨(textR n d).toArray⟩) ∧ Below w.heap.size w w' := by
  obtain ⟨p1, p2, p3, p4, _⟩ := valid_parts h
  have fin : Hid (textR n d = Lib.itoa n ++ 47 :: Lib.itoa d) := Lib.hid (by rw [textR, if_pos h, if_neg hd])
  have l1 := itoa_size n p3 p4
  have l2 := itoa_size d (by omega) p2
  have hx : (d == 1) = false := by simp [hd]
  clear hd
  go_enter Tryd.func25, Tryd.ntmps25
  go_wp2_with fail
  refine (valid_any n d _ (by omega) (by omega) (by omega) (by omega)).mono ?_
  rintro e w1 ⟨rfl, hb1⟩
  have hB : Below w.heap.size w w1 := ((Below.refl _ _).alloc (Nat.le_refl _) _).trans (hb1.mono (by simp))
  have hK : Kept w w1 := ⟨hT.below hB, hB⟩
  have k0 : w1.cell? ⟨w.heap.size, 0, none⟩ = some (.int .i64 n) := by rw [(bcell hb1).1 _ _ (by simp)]; simp
  have k1 : w1.cell? ⟨w.heap.size, 1, none⟩ = some (.int .i64 d) := by rw [(bcell hb1).1 _ _ (by simp)]; simp
  clear hb1 hB
  go_wp2_with fail
  have s1 := cat1 n l1
  have s2 := cat2 n d l1 l2
  go_region_held3 (fun w' => w'.cell? ⟨w.heap.size, 0, none⟩ = some (.int .i64 n) ∧ w'.cell? ⟨w.heap.size, 1, none⟩ = some (.int .i64 d) ∧ Kept w w')
    (first
      | (refine ⟨?_, ?_, Kept.drew (by assumption)⟩
         · go_keep
         · go_keep)
      | (go_split_ands
         refine ⟨?_, ?_, ?_⟩
         · (rw [hbx.cell (World.block_lt_of_cell? _ _ (by assumption))]; assumption)
         · (rw [hbx.cell (World.block_lt_of_cell? _ _ (by assumption))]; assumption)
         · exact Kept.go (by assumption) hbx)
      | (go_split_ands
         refine ⟨?_, ?_, Kept.drew (by assumption)⟩
         · go_keep
         · go_keep)
      | (go_keep; done))
    (first | (go_at_call 40; go_split_ands; refine (itoa_any _ _ (by omega) (by omega) (Kept.tabs (w0 := w) (by assumption))).mono ?_; rintro e w' ⟨rfl, hbx⟩))
  all_goals go_wp2
  all_goals
    go_ret
    go_split_ands
    exact ⟨string_eq (by rw [fin.out]; simp), (by assumption : Kept w _).below⟩
/-- rational.Text -/
theorem text_any (n d : Int) (w : World) (hn : I64 n) (hd : I64 d) (hT : Tabs w) :
    Calls Tryd.prog 25 #[.agg #[.int .i64 n, .int .i64 d]] w fun e w' => e = .returned (.string ⟨(textR n d).toArray⟩) ∧ Below w.heap.size w w' := by
  cases h : validR n d with
  | false => exact text_no n d w hn hd h
  | true =>
    by_cases h1 : d = 1
    · exact text_whole n d w hT h h1
    · exact text_part n d w hT h h1
theorem reftext_no (n d : Int) (w : World) (hn : I64 n) (hd : I64 d) (h : validR n d = false) :
    Calls Tryd.prog 23 #[.agg #[.int .i64 n, .int .i64 d]] w fun e w' => e = .returned (.string ⟨(textR n d).toArray⟩) ∧ Below w.heap.size w w' := by
  obtain ⟨n1, n2⟩ := hn
  obtain ⟨d1, d2⟩ := hd
  have fin : Hid (textR n d = []) := Lib.hid (by simp [textR, h])
  go_enter Tryd.func23, Tryd.ntmps23
  go_wp2_with fail
  refine (refvalid_any n d _ (by omega) (by omega) (by omega) (by omega)).mono ?_
  rintro e w1 ⟨rfl, hb1⟩
  obtain ⟨hc1, hf1⟩ := bcell hb1
  go_wp2
  go_ret
  exact ⟨string_eq (by rw [fin.out]), ((Below.refl _ _).alloc (Nat.le_refl _) _).trans (hb1.mono (by simp))⟩
theorem reftext_whole (n d : Int) (w : World) (hT : Tabs w) (h : validR n d = true) (hd : d = 1) :
    Calls Tryd.prog 23 #[.agg #[.int .i64 n, .int .i64 d]] w fun e w' => e = .returned (.string ⟨(textR n d).toArray⟩) ∧ Below w.heap.size w w' := by
  obtain ⟨p1, p2, p3, p4, _⟩ := valid_parts h
  have fin : Hid (textR n d = Lib.itoa n) := Lib.hid (by rw [textR, if_pos h, if_pos hd])
  have hx : (d == 1) = true := by simp [hd]
  clear hd
  go_enter Tryd.func23, Tryd.ntmps23
  go_wp2_with fail
  refine (refvalid_any n d _ (by omega) (by omega) (by omega) (by omega)).mono ?_
  rintro e w1 ⟨rfl, hb1⟩
  obtain ⟨hc1, hf1⟩ := bcell hb1
  have hB : Below w.heap.size w w1 := ((Below.refl _ _).alloc (Nat.le_refl _) _).trans (hb1.mono (by simp))
  have hT1 := hT.below hB
  go_wp2_with fail
  refine (refnumber_any n _ (by omega) (by omega)).mono ?_
  rintro e w2 ⟨rfl, hb2⟩
  go_wp2
  go_ret
  exact ⟨string_eq (by rw [fin.out]), hB.trans (hb2.mono hB.size)⟩
set_option maxHeartbeats 1000000 in
theorem reftext_part (n d : Int) (w : World) (hT : Tabs w) (h : validR n d = true) (hd : d ≠ 1) :
    Calls Tryd.prog 23 #[.agg #[.int .i64 n, .int .i64 d]] w fun e w' => e = .returned (.string ⟨(textR n d).toArray⟩) ∧ Below w.heap.size w w' := by
  obtain ⟨p1, p2, p3, p4, _⟩ := valid_parts h
  have fin : Hid (textR n d = Lib.itoa n ++ 47 :: Lib.itoa d) := Lib.hid (by rw [textR, if_pos h, if_neg hd])
  have l1 := itoa_size n p3 p4
  have l2 := itoa_size d (by omega) p2
  have hx : (d == 1) = false := by simp [hd]
  clear hd
  go_enter Tryd.func23, Tryd.ntmps23
  go_wp2_with fail
  refine (refvalid_any n d _ (by omega) (by omega) (by omega) (by omega)).mono ?_
  rintro e w1 ⟨rfl, hb1⟩
  have hB : Below w.heap.size w w1 := ((Below.refl _ _).alloc (Nat.le_refl _) _).trans (hb1.mono (by simp))
  have hK : Kept w w1 := ⟨hT.below hB, hB⟩
  have k0 : w1.cell? ⟨w.heap.size, 0, none⟩ = some (.int .i64 n) := by rw [(bcell hb1).1 _ _ (by simp)]; simp
  have k1 : w1.cell? ⟨w.heap.size, 1, none⟩ = some (.int .i64 d) := by rw [(bcell hb1).1 _ _ (by simp)]; simp
  clear hb1 hB
  go_wp2_with fail
  have s1 := cat1 n l1
  have s2 := cat2 n d l1 l2
  go_region_held3 (fun w' => w'.cell? ⟨w.heap.size, 0, none⟩ = some (.int .i64 n) ∧ w'.cell? ⟨w.heap.size, 1, none⟩ = some (.int .i64 d) ∧ Kept w w')
    (first
      | (refine ⟨?_, ?_, Kept.drew (by assumption)⟩
         · go_keep
         · go_keep)
      | (go_split_ands
         refine ⟨?_, ?_, ?_⟩
         · (rw [hbx.cell (World.block_lt_of_cell? _ _ (by assumption))]; assumption)
         · (rw [hbx.cell (World.block_lt_of_cell? _ _ (by assumption))]; assumption)
         · exact Kept.go (by assumption) hbx)
      | (go_split_ands
         refine ⟨?_, ?_, Kept.drew (by assumption)⟩
         · go_keep
         · go_keep)
      | (go_keep; done))
    (first | (go_at_call 39; go_split_ands; refine (refnumber_any _ _ (by omega) (by omega)).mono ?_; rintro e w' ⟨rfl, hbx⟩))
  all_goals go_wp2
  all_goals
    go_ret
    go_split_ands
    exact ⟨string_eq (by rw [fin.out]; simp), (by assumption : Kept w _).below⟩
/-- the reference's Text -/
theorem reftext_any (n d : Int) (w : World) (hn : I64 n) (hd : I64 d) (hT : Tabs w) :
    Calls Tryd.prog 23 #[.agg #[.int .i64 n, .int .i64 d]] w fun e w' => e = .returned (.string ⟨(textR n d).toArray⟩) ∧ Below w.heap.size w w' := by
  cases h : validR n d with
  | false => exact reftext_no n d w hn hd h
  | true =>
    by_cases h1 : d = 1
    · exact reftext_whole n d w hT h h1
    · exact reftext_part n d w hT h h1
end Go.Proofs.YtggiljlndenjoaaDoor.RatM

/- The example that every statement of layer 3 checks first; and few. -/
import Derived.Test.YtohoobgbmhondaaCodEnc
import Derived.Test.YtohoobgbmhondaaCodSize
namespace Go.Proofs.Ytohoobgbmhondaa.Cod
open Go Go.RowKit

theorem Byt.conv {w : World} {base : Nat} {A : Option Addr} {c : Nat} {l : List UInt8} (h : Byt w base (.slice A l.length c) l) :
    (convert 24 9 (.slice A l.length c)).run Try.prog w = .ok (.string ⟨l.toArray⟩) w := by
  cases A with
  | none =>
    rcases h.2 with ⟨e1, e2⟩ | ⟨g, cap, cur, e1, _⟩
    · have hl := List.eq_nil_of_length_eq_zero e2
      subst hl
      exact Lib.run_convert_nil_bytes w _ _ _ c Try.underlying24 Try.underlying5 Try.underlying9
    · cases e1
  | some a =>
    obtain ⟨g, rfl, _, _, _, hc⟩ := h.cells
    exact run_convert_bytes_back w _ _ _ _ c l Try.underlying24 Try.underlying5 Try.underlying9 (fun j hj => by
      have := hc j hj
      rcases j with _ | j <;> simpa [Addr.add] using this)
theorem enc_28 : enc (.node 1 28 [] []) = [120, 56] := by
  have h : numT (.node 1 28 [] []) = 56 := by simp [numT]
  have h1 : nb 56 = 1 := by rw [nb_pos (by omega), show 56 / 256 = 0 from rfl, nb_zero]
  simp only [enc, encs, h]
  unfold headL
  rw [if_neg (by omega), h1]
  rfl
theorem awake_any (w : World) : Calls Try.prog 10 #[] w fun e w' => e = .returned (.bool true) ∧ Below w.heap.size w w' := by
  have hL : Lies w (fun _ => True) (.node 1 28 [] []) (.agg #[.int .i64 1, .int .i64 28, .string ⟨#[]⟩, .slice none 0 0]) :=
    Lies.mk rfl ⟨by omega, by omega⟩ ⟨by omega, by omega⟩ (by simp) (by simp) (.inl rfl) (fun _ => rfl)
  have HC : Hid (Calls Try.prog 12 #[.agg #[.int .i64 1, .int .i64 28, .string ⟨#[]⟩, .slice none 0 0]] w fun e w' => ∃ A c, e = .returned (.tuple #[.slice A 2 c, .int .i64 0]) ∧ Byt w' w.heap.size (.slice A 2 c) [120, 56] ∧ Below w.heap.size w w') := Lib.hid (by
    refine (encode_any hL rfl).mono ?_
    rintro e w' ⟨hb, ⟨h1, _⟩ | ⟨_, h1, _⟩ | ⟨_, _, A, c, h1, h2⟩⟩
    · exact absurd h1 (by simp [valT, valL, ownB])
    · rw [enc_28] at h1; simp at h1
    · rw [enc_28] at h1 h2; exact ⟨A, c, h1, h2, hb⟩)
  clear hL
  go_enter Try.func10, Try.ntmps10
  go_wp2_with (first | (go_at_call 12; refine HC.out.mono ?_; rintro e w' ⟨A, c, rfl, hB, hb⟩; have hcv : (convert 24 9 (.slice A 2 c)).run Try.prog w' = .ok (.string ⟨#[120, 56]⟩) w' := hB.conv) | fail)
  go_ret
  exact ⟨rfl, hb⟩
def fewB (t : T) : Bool := decide (szT t ≤ 300) && shT t
theorem few_any {t : T} {v : Value} {F : Nat → Prop} {w : World} (h : Lies w F t v) :
    Calls Try.prog 11 #[v] w fun e w' => e = .returned (.bool (fewB t)) ∧ Below w.heap.size w w' := by
  obtain ⟨k, i, s, l⟩ := t
  obtain ⟨sb, A, c, rfl, hs, hk, hi, hs2, hl, hA⟩ := h.node
  obtain ⟨t0, ht0⟩ : ∃ t0, T.node k i s l = t0 := ⟨_, rfl⟩
  rw [ht0] at h ⊢
  obtain ⟨W1, hW1⟩ : ∃ W1, W1 = w.alloc (.cells #[.int .i64 k, .int .i64 i, .string sb, .slice A l.length c] 27) := ⟨_, rfl⟩
  have HW1 := Lib.hid hW1
  have hB1 : Below w.heap.size w W1 := by rw [hW1]; exact below_new _ _
  have hc0 : W1.cell? ⟨w.heap.size, 0, none⟩ = some (.int .i64 k) := by rw [hW1]; exact new_cell rfl _ _ 0 rfl
  have hc1 : W1.cell? ⟨w.heap.size, 1, none⟩ = some (.int .i64 i) := by rw [hW1]; exact new_cell rfl _ _ 1 rfl
  have hc2 : W1.cell? ⟨w.heap.size, 2, none⟩ = some (.string sb) := by rw [hW1]; exact new_cell rfl _ _ 2 rfl
  have hc3 : W1.cell? ⟨w.heap.size, 3, none⟩ = some (.slice A l.length c) := by rw [hW1]; exact new_cell rfl _ _ 3 rfl
  have HL := Lib.hid (h.below hB1)
  have HS : Hid (Calls Try.prog 26 #[.agg #[.int .i64 k, .int .i64 i, .string sb, .slice A l.length c], .int .i64 301] W1 fun e w' => e = .returned (.int .i64 ((min (szT t0) 301 : Nat) : Int)) ∧ Below W1.heap.size W1 w') := Lib.hid (size_any 301 HL.out (by omega) (by omega))
  obtain ⟨m, hm⟩ : ∃ m, min (szT t0) 301 = m := ⟨_, rfl⟩
  have hm2 : m ≤ 301 := by omega
  rw [hm] at HS
  have HB := Lib.hid hB1
  clear hs hA h hW1 ht0 hB1
  by_cases h3 : m ≤ 300
  · have hf : Hid (fewB t0 = shT t0) := Lib.hid (by unfold fewB; rw [decide_eq_true (by omega : szT t0 ≤ 300)]; rfl)
    have hx : decide ((m : Int) ≤ 300) = true := by simp; omega
    clear hm
    go_enter Try.func11, Try.ntmps11
    go_wp2_with (first
      | (go_at_call 26; rw [← HW1.out]; refine HS.out.mono ?_; rintro e w2 ⟨rfl, hb2⟩
         have e0 := (hb2.cell (World.block_lt_of_cell? _ _ hc0)).trans hc0
         have e1 := (hb2.cell (World.block_lt_of_cell? _ _ hc1)).trans hc1
         have e2 := (hb2.cell (World.block_lt_of_cell? _ _ hc2)).trans hc2
         have e3 := (hb2.cell (World.block_lt_of_cell? _ _ hc3)).trans hc3)
      | (go_at_call 27; refine (short_any (HL.out.below hb2)).mono ?_; rintro e w3 ⟨rfl, hb3⟩)
      | fail)
    go_ret
    exact ⟨ret_bool hf.out.symm, below_self (below_self HB.out hb2) hb3⟩
  · have hf : Hid (fewB t0 = false) := Lib.hid (by unfold fewB; rw [decide_eq_false (by omega : ¬ szT t0 ≤ 300)]; rfl)
    have hx : decide ((m : Int) ≤ 300) = false := by simp; omega
    clear hm
    go_enter Try.func11, Try.ntmps11
    go_wp2_with (first
      | (go_at_call 26; rw [← HW1.out]; refine HS.out.mono ?_; rintro e w2 ⟨rfl, hb2⟩)
      | fail)
    go_ret
    exact ⟨ret_bool hf.out.symm, below_self HB.out hb2⟩
end Go.Proofs.Ytohoobgbmhondaa.Cod

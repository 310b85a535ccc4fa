/- The program's package font: slices.Clone over strings and parts. (Written by wip/tools/genclones.py.) -/
import Derived.Test.YtjhpajdkklklhaaFonRows
import Derived.Test.YtjhpajdkklklhaaFonStretch
import Derived.Lib.SliceRun
namespace Go.Proofs.Ytjhpajdkklklhaa.Fon
open Go Go.RowKit By

def ClnS (w : World) (l : List ByteArray) (e : Ending) (w' : World) : Prop := ∃ (A : Option Addr) (c : Nat), e = .returned (.slice A l.length c) ∧ StrsAt w' w'.heap.size A l ∧ (∀ a, A = some a → w.heap.size ≤ a.block) ∧ Below w.heap.size w w'
theorem info_str : (Try.prog.info? 9).map (fun i => (i.zero, i.size, i.bytes)) = some (some (.string ⟨#[]⟩), 1, 16) := by kernel_rfl
set_option maxRecDepth 100000 in
theorem clone_str {w : World} {A : Option Addr} {n c : Nat} {l : List ByteArray} (hn : n = l.length) (hl : l.length ≤ 100) (h : StrsAt w w.heap.size A l) :
    Calls Try.prog 38 #[.slice A n c] w (ClnS w l) := by
  cases A with
  | none =>
    obtain rfl : l = [] := by rcases h with h | ⟨_, _, e, _⟩; exact h; cases e
    obtain rfl : n = 0 := hn
    clear h hl
    have q22 : ∀ (w : World) (a : Option Addr) (n c n' c' : Nat), (binOp .eql 34 (.slice a n c) (.slice none n' c')).run Try.prog w = .ok (.bool a.isNone) w := fun w a n c n' c' => Lib.run_eql_slice_nil w _ _ a n c n' c' Try.underlying34
    go_enter Try.func38, Try.ntmps38
    go_wp2
    go_ret
    exact ⟨none, 0, rfl, .inl rfl, fun _ h => (by cases h), Below.refl _ _⟩
  | some a =>
    have HS := Lib.hid h.src
    have HN := Lib.hid hn
    have HL := Lib.hid hl
    obtain ⟨i0, hi0, hz0, hz1, hz2⟩ := info_parts info_str
    have HI := Lib.hid hi0
    have HZ := Lib.hid hz0
    have HY := Lib.hid hz1
    have HX := Lib.hid hz2
    clear h hn hl hi0 hz0 hz1 hz2
    have q22 : ∀ (w : World) (a : Option Addr) (n c n' c' : Nat), (binOp .eql 34 (.slice a n c) (.slice none n' c')).run Try.prog w = .ok (.bool a.isNone) w := fun w a n c n' c' => Lib.run_eql_slice_nil w _ _ a n c n' c' Try.underlying34
    go_enter Try.func38, Try.ntmps38
    go_wp2_with (first
      | (at_builtin; refine wpList_append_own _ rfl _ _ 34 rfl w.heap.size 9 i0 (.string ⟨#[]⟩) 1 16 Try.underlying34 HI.out HZ.out HY.out HX.out rfl (by decide) _ _ _ rfl (World.ownsRow_made w #[] 0 (Nat.le_refl _) (Nat.zero_le _) (by simp)) a n c (l.flatMap encS) rfl ?qc1 ?qc2 ?qc3 ?qc4 ?qc5 ?qc6 ?_)
      | fail)
    case qc1 => rw [flat_len encS_len, HN.out]
    case qc2 =>
      intro j u hj
      have h := HS.out j u hj
      exact (below_new w _).cell (p := a.add j) (World.block_lt_of_cell? _ _ h) |>.trans h
    case qc3 => exact one_of encS_one l
    case qc4 => unfold maxLen; have := HN.out; have := HL.out; omega
    case qc5 => have := HN.out; have := HL.out; omega
    case qc6 => simp
    intro v' w1 hown hgrow hnil
    have HO := Lib.hid hown
    have HB : Hid (Below w.heap.size w w1) := Lib.hid ((below_new w _).grown hgrow (by simp) (by intro k hk; simp [Value.ownBlock] at hk; omega))
    clear hown hgrow hnil
    go_wp2
    go_ret
    have hown := HO.out
    rw [HN.out] at hown
    obtain ⟨A', c', rfl⟩ : ∃ A' c', v' = .slice A' l.length c' := by
      rcases hown.2 with ⟨e1, e2⟩ | ⟨g, cap, cur, e1, _⟩
      · exact ⟨none, 0, by rw [e1, e2]⟩
      · exact ⟨_, _, e1⟩
    refine ⟨A', c', rfl, (strs_own hown).2, fun a' ha => ?_, HB.out⟩
    rcases own_row hown with ⟨e1, _⟩ | ⟨g, cap, e1, hg, _⟩
    · injection e1 with e1 _ _; rw [e1] at ha; cases ha
    · injection e1 with e1 _ _; rw [e1] at ha; injection ha with ha; subst ha; exact hg
def ClnP (w : World) (l : List Pa) (e : Ending) (w' : World) : Prop := ∃ (A : Option Addr) (c : Nat), e = .returned (.slice A l.length c) ∧ PasAt w' w'.heap.size A l ∧ (∀ a, A = some a → w.heap.size ≤ a.block) ∧ Below w.heap.size w w'
theorem info_part : (Try.prog.info? 59).map (fun i => (i.zero, i.size, i.bytes)) = some (some (.agg #[.string ⟨#[]⟩, .bool false]), 2, 24) := by kernel_rfl
set_option maxRecDepth 100000 in
theorem clone_part {w : World} {A : Option Addr} {n c : Nat} {l : List Pa} (hn : n = l.length) (hl : l.length ≤ 100) (h : PasAt w w.heap.size A l) :
    Calls Try.prog 39 #[.slice A n c] w (ClnP w l) := by
  cases A with
  | none =>
    obtain rfl : l = [] := by rcases h with h | ⟨_, _, e, _⟩; exact h; cases e
    obtain rfl : n = 0 := hn
    clear h hl
    have q22 : ∀ (w : World) (a : Option Addr) (n c n' c' : Nat), (binOp .eql 35 (.slice a n c) (.slice none n' c')).run Try.prog w = .ok (.bool a.isNone) w := fun w a n c n' c' => Lib.run_eql_slice_nil w _ _ a n c n' c' Try.underlying35
    go_enter Try.func39, Try.ntmps39
    go_wp2
    go_ret
    exact ⟨none, 0, rfl, .inl rfl, fun _ h => (by cases h), Below.refl _ _⟩
  | some a =>
    have HS := Lib.hid h.src
    have HN := Lib.hid hn
    have HL := Lib.hid hl
    obtain ⟨i0, hi0, hz0, hz1, hz2⟩ := info_parts info_part
    have HI := Lib.hid hi0
    have HZ := Lib.hid hz0
    have HY := Lib.hid hz1
    have HX := Lib.hid hz2
    clear h hn hl hi0 hz0 hz1 hz2
    have q22 : ∀ (w : World) (a : Option Addr) (n c n' c' : Nat), (binOp .eql 35 (.slice a n c) (.slice none n' c')).run Try.prog w = .ok (.bool a.isNone) w := fun w a n c n' c' => Lib.run_eql_slice_nil w _ _ a n c n' c' Try.underlying35
    go_enter Try.func39, Try.ntmps39
    go_wp2_with (first
      | (at_builtin; refine wpList_append_own _ rfl _ _ 35 rfl w.heap.size 59 i0 (.agg #[.string ⟨#[]⟩, .bool false]) 2 24 Try.underlying35 HI.out HZ.out HY.out HX.out rfl (by decide) _ _ _ rfl (World.ownsRow_made w #[] 0 (Nat.le_refl _) (Nat.zero_le _) (by simp)) a n c (l.flatMap encP) rfl ?qc1 ?qc2 ?qc3 ?qc4 ?qc5 ?qc6 ?_)
      | fail)
    case qc1 => rw [flat_len encP_len, HN.out]
    case qc2 =>
      intro j u hj
      have h := HS.out j u hj
      exact (below_new w _).cell (p := a.add j) (World.block_lt_of_cell? _ _ h) |>.trans h
    case qc3 => exact one_of encP_one l
    case qc4 => unfold maxLen; have := HN.out; have := HL.out; omega
    case qc5 => have := HN.out; have := HL.out; omega
    case qc6 => simp
    intro v' w1 hown hgrow hnil
    have HO := Lib.hid hown
    have HB : Hid (Below w.heap.size w w1) := Lib.hid ((below_new w _).grown hgrow (by simp) (by intro k hk; simp [Value.ownBlock] at hk; omega))
    clear hown hgrow hnil
    go_wp2
    go_ret
    have hown := HO.out
    rw [HN.out] at hown
    obtain ⟨A', c', rfl⟩ : ∃ A' c', v' = .slice A' l.length c' := by
      rcases hown.2 with ⟨e1, e2⟩ | ⟨g, cap, cur, e1, _⟩
      · exact ⟨none, 0, by rw [e1, e2]⟩
      · exact ⟨_, _, e1⟩
    refine ⟨A', c', rfl, (pas_own hown).2, fun a' ha => ?_, HB.out⟩
    rcases own_row hown with ⟨e1, _⟩ | ⟨g, cap, e1, hg, _⟩
    · injection e1 with e1 _ _; rw [e1] at ha; cases ha
    · injection e1 with e1 _ _; rw [e1] at ha; injection ha with ha; subst ha; exact hg
end Go.Proofs.Ytjhpajdkklklhaa.Fon

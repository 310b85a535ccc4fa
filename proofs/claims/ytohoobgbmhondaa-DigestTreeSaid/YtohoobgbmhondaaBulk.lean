/- What the bound of an 'Upto' statement gives. -/
import Derived.Test.YtohoobgbmhondaaRows
namespace Go.Proofs.Ytohoobgbmhondaa.Bulk
open Go

theorem pos {H : Type} (d : DataW H) : 1 ≤ Rows.uptoBulk d := by
  cases d with
  | lit l => cases l <;> simp [Rows.uptoBulk]
  | _ => simp [Rows.uptoBulk]
theorem mem {H : Type} {d : DataW H} : {l : List (DataW H)} → d ∈ l → Rows.uptoBulk d ≤ Rows.uptoBulkAll l
  | x :: r, h => by
    simp only [Rows.uptoBulkAll]
    rcases List.mem_cons.1 h with rfl | h
    · omega
    · have := mem h; omega
theorem len {H : Type} : (l : List (DataW H)) → l.length ≤ Rows.uptoBulkAll l
  | [] => by simp [Rows.uptoBulkAll]
  | x :: r => by have := pos x; have := len r; simp only [Rows.uptoBulkAll, List.length_cons]; omega
theorem all {H : Type} {l : List (DataW H)} (hk : Rows.uptoSmall H l = true) : Rows.uptoBulkAll l ≤ 1048576 := of_decide_eq_true hk
theorem one {H : Type} {l : List (DataW H)} (hk : Rows.uptoSmall H l = true) {j : Nat} {d : DataW H} (h : l[j]? = some d) : Rows.uptoBulk d ≤ 1048576 :=
  Nat.le_trans (mem (List.mem_of_getElem? h)) (all hk)
theorem slice {H : Type} (els spare : List (DataW H)) : els.length + spare.length ≤ Rows.uptoBulk (.slice els spare) := by
  have := len els; have := len spare
  simp only [Rows.uptoBulk]; omega
/-- how many elements a slice has -/
theorem slice_of {H : Type} {l : List (DataW H)} (hk : Rows.uptoSmall H l = true) {j : Nat} {d : DataW H} (h : l[j]? = some d) {α : Type} {m : List α} (hd : d = .nil ∧ m = [] ∨ ∃ els spare, d = .slice els spare ∧ els.length = m.length) : m.length ≤ 1048576 := by
  rcases hd with ⟨_, rfl⟩ | ⟨els, spare, rfl, hl⟩
  · simp
  · have := one hk h; have := slice els spare; omega
theorem string_of {H : Type} {l : List (DataW H)} (hk : Rows.uptoSmall H l = true) {j : Nat} {s : List UInt8} (h : l[j]? = some (.lit (.string s))) : s.length ≤ 1048576 := by
  have := one hk h
  simp only [Rows.uptoBulk] at this; omega
end Go.Proofs.Ytohoobgbmhondaa.Bulk

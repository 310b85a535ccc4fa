/- The reference of layer 5: SameGlyphBox, of two like boxes. (Written by wip/tools/gensamebox.py.) -/
import Derived.Test.YtjhpajdkklklhaaFonBox
namespace Go.Proofs.Ytjhpajdkklklhaa.Fon
open Go Go.RowKit By

set_option maxRecDepth 100000 in
set_option maxHeartbeats 4000000 in
theorem rsamebox_any (b : Bx) (w : World) : Calls Try.prog 26 #[.agg #[.int .i64 b.kind, .string b.name, .int .i64 b.size, .int .i64 b.W, .int .i64 b.H, .int .i64 b.D, .int .i64 0, .int .i64 0, .slice none 0 0, .int .i64 0, .slice none 0 0], .agg #[.int .i64 b.kind, .string b.name, .int .i64 b.size, .int .i64 b.W, .int .i64 b.H, .int .i64 b.D, .int .i64 0, .int .i64 0, .slice none 0 0, .int .i64 0, .slice none 0 0]] w fun e w' => e = .returned (.bool true) ∧ Below w.heap.size w w' := by
  obtain ⟨N, hN⟩ : ∃ N, w.heap.size = N := ⟨_, rfl⟩
  obtain ⟨Wa, hWa⟩ : ∃ W', W' = w.alloc (.cells #[.int .i64 b.kind, .string b.name, .int .i64 b.size, .int .i64 b.W, .int .i64 b.H, .int .i64 b.D, .int .i64 0, .int .i64 0, .slice none 0 0, .int .i64 0, .slice none 0 0] 51) := ⟨_, rfl⟩
  obtain ⟨W1, hW1⟩ : ∃ W', W' = Wa.alloc (.cells #[.int .i64 b.kind, .string b.name, .int .i64 b.size, .int .i64 b.W, .int .i64 b.H, .int .i64 b.D, .int .i64 0, .int .i64 0, .slice none 0 0, .int .i64 0, .slice none 0 0] 51) := ⟨_, rfl⟩
  have sa : Wa.heap.size = N + 1 := by rw [hWa]; exact size_new hN _
  have ba : Below w.heap.size w Wa := by rw [hWa]; exact below_new _ _
  have bb : Below Wa.heap.size Wa W1 := by rw [hW1]; exact below_new _ _
  have hB1 := below_self ba bb
  have a0 : W1.cell? ⟨N, 0, none⟩ = some (.int .i64 b.kind) := keep_cell bb (by rw [hWa]; exact new_cell hN _ _ 0 rfl)
  have c0 : W1.cell? ⟨N + 1, 0, none⟩ = some (.int .i64 b.kind) := by rw [hW1]; exact new_cell sa _ _ 0 rfl
  have a1 : W1.cell? ⟨N, 1, none⟩ = some (.string b.name) := keep_cell bb (by rw [hWa]; exact new_cell hN _ _ 1 rfl)
  have c1 : W1.cell? ⟨N + 1, 1, none⟩ = some (.string b.name) := by rw [hW1]; exact new_cell sa _ _ 1 rfl
  have a2 : W1.cell? ⟨N, 2, none⟩ = some (.int .i64 b.size) := keep_cell bb (by rw [hWa]; exact new_cell hN _ _ 2 rfl)
  have c2 : W1.cell? ⟨N + 1, 2, none⟩ = some (.int .i64 b.size) := by rw [hW1]; exact new_cell sa _ _ 2 rfl
  have a3 : W1.cell? ⟨N, 3, none⟩ = some (.int .i64 b.W) := keep_cell bb (by rw [hWa]; exact new_cell hN _ _ 3 rfl)
  have c3 : W1.cell? ⟨N + 1, 3, none⟩ = some (.int .i64 b.W) := by rw [hW1]; exact new_cell sa _ _ 3 rfl
  have a4 : W1.cell? ⟨N, 4, none⟩ = some (.int .i64 b.H) := keep_cell bb (by rw [hWa]; exact new_cell hN _ _ 4 rfl)
  have c4 : W1.cell? ⟨N + 1, 4, none⟩ = some (.int .i64 b.H) := by rw [hW1]; exact new_cell sa _ _ 4 rfl
  have a5 : W1.cell? ⟨N, 5, none⟩ = some (.int .i64 b.D) := keep_cell bb (by rw [hWa]; exact new_cell hN _ _ 5 rfl)
  have c5 : W1.cell? ⟨N + 1, 5, none⟩ = some (.int .i64 b.D) := by rw [hW1]; exact new_cell sa _ _ 5 rfl
  have a6 : W1.cell? ⟨N, 6, none⟩ = some (.int .i64 0) := keep_cell bb (by rw [hWa]; exact new_cell hN _ _ 6 rfl)
  have c6 : W1.cell? ⟨N + 1, 6, none⟩ = some (.int .i64 0) := by rw [hW1]; exact new_cell sa _ _ 6 rfl
  have a7 : W1.cell? ⟨N, 7, none⟩ = some (.int .i64 0) := keep_cell bb (by rw [hWa]; exact new_cell hN _ _ 7 rfl)
  have c7 : W1.cell? ⟨N + 1, 7, none⟩ = some (.int .i64 0) := by rw [hW1]; exact new_cell sa _ _ 7 rfl
  have a8 : W1.cell? ⟨N, 8, none⟩ = some (.slice none 0 0) := keep_cell bb (by rw [hWa]; exact new_cell hN _ _ 8 rfl)
  have c8 : W1.cell? ⟨N + 1, 8, none⟩ = some (.slice none 0 0) := by rw [hW1]; exact new_cell sa _ _ 8 rfl
  have a9 : W1.cell? ⟨N, 9, none⟩ = some (.int .i64 0) := keep_cell bb (by rw [hWa]; exact new_cell hN _ _ 9 rfl)
  have c9 : W1.cell? ⟨N + 1, 9, none⟩ = some (.int .i64 0) := by rw [hW1]; exact new_cell sa _ _ 9 rfl
  have a10 : W1.cell? ⟨N, 10, none⟩ = some (.slice none 0 0) := keep_cell bb (by rw [hWa]; exact new_cell hN _ _ 10 rfl)
  have c10 : W1.cell? ⟨N + 1, 10, none⟩ = some (.slice none 0 0) := by rw [hW1]; exact new_cell sa _ _ 10 rfl
  have HW : Hid (W1 = (w.alloc (.cells #[.int .i64 b.kind, .string b.name, .int .i64 b.size, .int .i64 b.W, .int .i64 b.H, .int .i64 b.D, .int .i64 0, .int .i64 0, .slice none 0 0, .int .i64 0, .slice none 0 0] 51)).alloc (.cells #[.int .i64 b.kind, .string b.name, .int .i64 b.size, .int .i64 b.W, .int .i64 b.H, .int .i64 b.D, .int .i64 0, .int .i64 0, .slice none 0 0, .int .i64 0, .slice none 0 0] 51)) := Lib.hid (by rw [hW1, hWa])
  have HB := Lib.hid hB1
  clear hW1 hWa sa ba bb hB1
  obtain ⟨k, nm, sz, W, H, D⟩ := b
  simp only [] at *
  go_enter Try.func26, Try.ntmps26
  go_wp2_with fail
  rw [← HW.out]
  go_wp2_with fail
  go_ret
  exact ⟨rfl, hN ▸ HB.out⟩
end Go.Proofs.Ytjhpajdkklklhaa.Fon

/- value of the reader, and Decode, of package codec. (Written by wip/tools/gendec.py.) -/
import Derived.Test.YtohoobgbmhondaaCodClo
import Derived.Laws.EntriesVeiled
namespace Go.Proofs.Ytohoobgbmhondaa.Cod
open Go Go.RowKit

set_option maxRecDepth 100000 in
set_option maxHeartbeats 2000000 in
/-- codec.reader.value -/
theorem value_any {w : World} {R : Nat} {l : List UInt8} (h : Rd w R l) (hl : l.length ≤ 10000000) : Calls Try.prog 30 #[.pointer (some ⟨R, 0, none⟩)] w (ValR w R (rd 64 l)) := by
  obtain ⟨N, hN⟩ : ∃ N, w.heap.size = N := ⟨_, rfl⟩
  obtain ⟨Wa, hWa⟩ : ∃ W, W = w.alloc (.cells #[.pointer (some ⟨R, 0, none⟩)] 71) := ⟨_, rfl⟩
  obtain ⟨Wb, hWb⟩ : ∃ W, W = Wa.alloc (.cells #[.int .i64 0, .int .i64 0, .string ⟨#[]⟩, .slice none 0 0] 33) := ⟨_, rfl⟩
  obtain ⟨W3, hW3⟩ : ∃ W, W = Wb.alloc (.cells #[(.func (.func 37) #[] #[.pointer (some ⟨N, 0, none⟩), .pointer (some ⟨N + 1 + 1, 0, none⟩)])] 72) := ⟨_, rfl⟩
  have sa : Wa.heap.size = N + 1 := by rw [hWa]; exact size_new hN _
  have sb : Wb.heap.size = N + 1 + 1 := by rw [hWb]; exact size_new sa _
  have s3 : W3.heap.size = N + 1 + 1 + 1 := by rw [hW3]; exact size_new sb _
  have hRN : R < N := hN ▸ h.lt
  have ba : Below w.heap.size w Wa := by rw [hWa]; exact below_new _ _
  have bb : Below Wa.heap.size Wa Wb := by rw [hWb]; exact below_new _ _
  have bc : Below Wb.heap.size Wb W3 := by rw [hW3]; exact below_new _ _
  have hb : Below w.heap.size w W3 := below_self (below_self ba bb) bc
  have HG := Lib.hid (by_below hb (some R))
  have hE : Env W3 R N (N + 1 + 1) := ⟨old_cell bc (old_cell bb (by rw [hWa]; exact new_cell hN _ _ 0 rfl) (by omega)) (by omega), by rw [hW3]; exact new_cell sb _ _ 0 rfl, hRN, by omega⟩
  have HC := Lib.hid (clo_all 64 (by omega) W3 R N (N + 1 + 1) l (h.below hb) hl hE)
  have qf : (((w.alloc (.cells #[.pointer (some ⟨R, 0, none⟩)] 71)).alloc (.cells #[.int .i64 0, .int .i64 0, .string ⟨#[]⟩, .slice none 0 0] 33)).alloc (.cells #[(.func (.func 37) #[] #[.pointer (some ⟨N, 0, none⟩), .pointer (some ⟨N + 1 + 1, 0, none⟩)])] 72)).cell? ⟨N + 1 + 1, 0, none⟩ = some (.func (.func 37) #[] #[.pointer (some ⟨N, 0, none⟩), .pointer (some ⟨N + 1 + 1, 0, none⟩)]) := by have := hE.f; rw [hW3, hWb, hWa] at this; exact this
  have c0 : W3.cell? ⟨N + 1, 0, none⟩ = some (.int .i64 0) := old_cell bc (by rw [hWb]; exact new_cell sa _ _ 0 rfl) (by omega)
  have c1 : W3.cell? ⟨N + 1, 1, none⟩ = some (.int .i64 0) := old_cell bc (by rw [hWb]; exact new_cell sa _ _ 1 rfl) (by omega)
  have c2 : W3.cell? ⟨N + 1, 2, none⟩ = some (.string ⟨#[]⟩) := old_cell bc (by rw [hWb]; exact new_cell sa _ _ 2 rfl) (by omega)
  have c3 : W3.cell? ⟨N + 1, 3, none⟩ = some (.slice none 0 0) := old_cell bc (by rw [hWb]; exact new_cell sa _ _ 3 rfl) (by omega)
  have CF : Hid (∀ j, W3.frozen? ⟨N + 1, j, none⟩ = false) := Lib.hid fun j => (bc.frozen (p := ⟨N + 1, j, none⟩) (show N + 1 < Wb.heap.size by omega)).trans (by rw [hWb]; exact new_frozen sa _ _ j)
  have HW : Hid (W3 = (((w.alloc (.cells #[.pointer (some ⟨R, 0, none⟩)] 71)).alloc (.cells #[.int .i64 0, .int .i64 0, .string ⟨#[]⟩, .slice none 0 0] 33)).alloc (.cells #[(.func (.func 37) #[] #[.pointer (some ⟨N, 0, none⟩), .pointer (some ⟨N + 1 + 1, 0, none⟩)])] 72))) := Lib.hid (by rw [hW3, hWb, hWa])
  have hRM : R < N + 1 := by omega
  have S3 : Hid (N + 1 < W3.heap.size) := Lib.hid (by omega)
  have SN : Hid (w.heap.size ≤ N + 1) := Lib.hid (by omega)
  have HN := Lib.hid hN
  clear h hWa hWb hW3 sa sb s3 ba bb bc hb hE
  cases hx : rd 64 l with
  | none =>
    rw [hx] at HC
    clear hx
    go_enter Try.func30, Try.ntmps30
    go_wp2_with (first
      | (go_at_call 37; rw [← HW.out]; refine HC.out.mono ?_; rintro e w5 ⟨hg5, rfl, hRd5⟩
         have d0 := by_cell hg5 hRM c0
         have d1 := by_cell hg5 hRM c1
         have d2 := by_cell hg5 hRM c2
         have d3 := by_cell hg5 hRM c3
         have f0 := by_frozen hg5 S3.out hRM (CF.out 0)
         have f1 := by_frozen hg5 S3.out hRM (CF.out 1)
         have f2 := by_frozen hg5 S3.out hRM (CF.out 2)
         have f3 := by_frozen hg5 S3.out hRM (CF.out 3)
         have HF := Lib.hid (val_fail' (by_trans HG.out hg5) SN.out hRM hRd5 d0 d1 d2 d3)
         clear hg5)
      | fail)
    obtain ⟨W4, hW4⟩ : ∃ W4, W4 = (((w5.setCell ⟨N + 1, 0, none⟩ (.int .i64 0)).setCell ⟨N + 1, 1, none⟩ (.int .i64 0)).setCell ⟨N + 1, 2, none⟩ (.string ⟨#[]⟩)).setCell ⟨N + 1, 3, none⟩ (.slice none 0 0) := ⟨_, rfl⟩
    rw [← hW4]
    obtain ⟨⟨k0, k1, k2, k3⟩, hp⟩ := HF.out W4 hW4
    clear hW4
    exact bodyPost_ret (v := .tuple #[.agg #[.int .i64 0, .int .i64 0, .string ⟨#[]⟩, .slice none 0 0], .bool false]) (by simp [results, Try.results30, go_sem, k0, k1, k2, k3]) rfl (by exact hp)
  | some p =>
    obtain ⟨t, r⟩ := p
    rw [hx] at HC
    clear hx
    go_enter Try.func30, Try.ntmps30
    go_wp2_with (first
      | (go_at_call 37; rw [← HW.out]; refine HC.out.mono ?_; rintro e w5 ⟨hg5, hRd5, a, i, sb, A, q, c, rfl, hL5⟩
         have d0 := by_cell hg5 hRM c0
         have d1 := by_cell hg5 hRM c1
         have d2 := by_cell hg5 hRM c2
         have d3 := by_cell hg5 hRM c3
         have f0 := by_frozen hg5 S3.out hRM (CF.out 0)
         have f1 := by_frozen hg5 S3.out hRM (CF.out 1)
         have f2 := by_frozen hg5 S3.out hRM (CF.out 2)
         have f3 := by_frozen hg5 S3.out hRM (CF.out 3)
         have HF := Lib.hid (val_pass hL5 S3.out (by_trans HG.out hg5) SN.out hRM hRd5 d0 d1 d2 d3)
         clear hg5)
      | fail)
    obtain ⟨W4, hW4⟩ : ∃ W4, W4 = (((w5.setCell ⟨N + 1, 0, none⟩ (.int .i64 a)).setCell ⟨N + 1, 1, none⟩ (.int .i64 i)).setCell ⟨N + 1, 2, none⟩ (.string sb)).setCell ⟨N + 1, 3, none⟩ (.slice A q c) := ⟨_, rfl⟩
    rw [← hW4]
    obtain ⟨⟨k0, k1, k2, k3⟩, hp⟩ := HF.out W4 hW4
    clear hW4
    exact bodyPost_ret (v := .tuple #[.agg #[.int .i64 a, .int .i64 i, .string sb, .slice A q c], .bool true]) (by simp [results, Try.results30, go_sem, k0, k1, k2, k3]) rfl (by exact hp)
/-- what is decoded -/
def decV (l : List UInt8) : Option T := if 1048576 < l.length then none else match rd 64 l with
  | some (t, []) => some t
  | _ => none
/-- what Decode answers -/
def DecodeR (w : World) (x : Option T) (e : Ending) (w' : World) : Prop :=
  Below w.heap.size w w' ∧ match x with
    | none => e = .returned (.tuple #[.agg #[.int .i64 0, .int .i64 0, .string ⟨#[]⟩, .slice none 0 0], .int .i64 4])
    | some t => ∃ (a i : Int) (sb : ByteArray) (A : Option Addr) (n c : Nat), e = .returned (.tuple #[.agg #[.int .i64 a, .int .i64 i, .string sb, .slice A n c], .int .i64 0]) ∧
        Lies w' (fun b => w.heap.size ≤ b ∧ b < w'.heap.size) t (.agg #[.int .i64 a, .int .i64 i, .string sb, .slice A n c])
theorem below_of_by {w w' : World} {R : Nat} (h : w.grownBy w' (some R)) {n : Nat} (hn : n ≤ w.heap.size) (hR : n ≤ R) : Below n w w' := ⟨h.os, h.tape, h.output, h.size, fun k hk => h.block k (by omega) (some_ne (by omega))⟩
theorem dec_fail {N : Nat} {w w2 : World} {i0 i1 i2 i3 : Value} (hg : Below N w w2) (hN : w.heap.size = N) (e0 : w2.cell? ⟨N, 0, none⟩ = some i0) (e1 : w2.cell? ⟨N, 1, none⟩ = some i1) (e2 : w2.cell? ⟨N, 2, none⟩ = some i2) (e3 : w2.cell? ⟨N, 3, none⟩ = some i3) :
    ∀ W4, W4 = (((w2.setCell ⟨N, 0, none⟩ (.int .i64 0)).setCell ⟨N, 1, none⟩ (.int .i64 0)).setCell ⟨N, 2, none⟩ (.string ⟨#[]⟩)).setCell ⟨N, 3, none⟩ (.slice none 0 0) →
      (W4.cell? ⟨N, 0, none⟩ = some (.int .i64 0) ∧ W4.cell? ⟨N, 1, none⟩ = some (.int .i64 0) ∧ W4.cell? ⟨N, 2, none⟩ = some (.string ⟨#[]⟩) ∧ W4.cell? ⟨N, 3, none⟩ = some (.slice none 0 0)) ∧
      DecodeR w none (.returned (.tuple #[.agg #[.int .i64 0, .int .i64 0, .string ⟨#[]⟩, .slice none 0 0], .int .i64 4])) W4 := by
  intro W4 h
  refine ⟨set4_cells e0 e1 e2 e3 _ _ _ _ h, ?_⟩
  subst h
  exact ⟨by rw [hN]; exact below_set4 hg (Nat.le_refl _) _ _ _ _, rfl⟩
theorem dec_pass {N S : Nat} {w w2 : World} {i0 i1 i2 i3 : Value} {t : T} {a i : Int} {sb : ByteArray} {A : Option Addr} {n c : Nat}
    (hL : Lies w2 (fun b => S ≤ b ∧ b < w2.heap.size) t (.agg #[.int .i64 a, .int .i64 i, .string sb, .slice A n c])) (hS : N < S)
    (hg : Below N w w2) (hN : w.heap.size = N) (e0 : w2.cell? ⟨N, 0, none⟩ = some i0) (e1 : w2.cell? ⟨N, 1, none⟩ = some i1) (e2 : w2.cell? ⟨N, 2, none⟩ = some i2) (e3 : w2.cell? ⟨N, 3, none⟩ = some i3) :
    ∀ W4, W4 = (((w2.setCell ⟨N, 0, none⟩ (.int .i64 a)).setCell ⟨N, 1, none⟩ (.int .i64 i)).setCell ⟨N, 2, none⟩ (.string sb)).setCell ⟨N, 3, none⟩ (.slice A n c) →
      (W4.cell? ⟨N, 0, none⟩ = some (.int .i64 a) ∧ W4.cell? ⟨N, 1, none⟩ = some (.int .i64 i) ∧ W4.cell? ⟨N, 2, none⟩ = some (.string sb) ∧ W4.cell? ⟨N, 3, none⟩ = some (.slice A n c)) ∧
      DecodeR w (some t) (.returned (.tuple #[.agg #[.int .i64 a, .int .i64 i, .string sb, .slice A n c], .int .i64 0])) W4 := by
  intro W4 h
  refine ⟨set4_cells e0 e1 e2 e3 _ _ _ _ h, ?_⟩
  have hs : W4.heap.size = w2.heap.size := by rw [h]; simp
  subst h
  refine ⟨by rw [hN]; exact below_set4 hg (Nat.le_refl _) _ _ _ _, a, i, sb, A, n, c, rfl, ?_⟩
  refine Lies.map (fun b hb => ⟨by omega, by rw [hs]; exact hb.2⟩) (fun b o x hf hx => ?_) t _ hL
  have hne : ∀ q, (⟨N, q, none⟩ : Addr) ≠ ⟨b, o, none⟩ := fun q e => by injection e with e1 _; omega
  rw [World.cell?_setCell_other _ _ _ _ (hne 3), World.cell?_setCell_other _ _ _ _ (hne 2), World.cell?_setCell_other _ _ _ _ (hne 1), World.cell?_setCell_other _ _ _ _ (hne 0)]
  exact hx
end Go.Proofs.Ytohoobgbmhondaa.Cod

/- value of the reader, and Decode, of package codec. (Written by wip/tools/gendec.py.) -/
import Derived.Test.YtiababmfalnflaaCodClo
import Derived.Laws.EntriesVeiled
namespace Go.Proofs.Ytiababmfalnflaa.Cod
open Go Go.RowKit

set_option maxRecDepth 100000 in
set_option maxHeartbeats 2000000 in
/-- codec.reader.value -/
theorem value_any {w : World} {R : Nat} {l : List UInt8} (h : Rd w R l) (hl : l.length ≤ 2000000) : Calls Try.prog 34 #[.pointer (some ⟨R, 0, none⟩)] w (ValR w R (rd 64 l)) := by
  obtain ⟨N, hN⟩ : ∃ N, w.heap.size = N := ⟨_, rfl⟩
  obtain ⟨Wa, hWa⟩ : ∃ W, W = w.alloc (.cells #[.pointer (some ⟨R, 0, none⟩)] 70) := ⟨_, rfl⟩
  obtain ⟨Wb, hWb⟩ : ∃ W, W = Wa.alloc (.cells #[.int .i64 0, .int .i64 0, .string ⟨#[]⟩, .slice none 0 0] 29) := ⟨_, rfl⟩
  obtain ⟨W3, hW3⟩ : ∃ W, W = Wb.alloc (.cells #[(.func (.func 39) #[] #[.pointer (some ⟨N, 0, none⟩), .pointer (some ⟨N + 1 + 1, 0, none⟩)])] 71) := ⟨_, rfl⟩
  have sa : Wa.heap.size = N + 1 := by rw [hWa]; exact size_new hN _
  have sb : Wb.heap.size = N + 1 + 1 := by rw [hWb]; exact size_new sa _
  have s3 : W3.heap.size = N + 1 + 1 + 1 := by rw [hW3]; exact size_new sb _
  have hRN : R < N := hN ▸ h.lt
  have ba : Below w.heap.size w Wa := by rw [hWa]; exact below_new _ _
  have bb : Below Wa.heap.size Wa Wb := by rw [hWb]; exact below_new _ _
  have bc : Below Wb.heap.size Wb W3 := by rw [hW3]; exact below_new _ _
  have hb : Below w.heap.size w W3 := below_self (below_self ba bb) bc
  have HG := Lib.hid (by_below hb (some R))
  have hE : Env W3 R N (N + 1 + 1) := ⟨old_cell bc (old_cell bb (by rw [hWa]; exact new_cell hN _ _ 0 rfl) (by omega)) (by omega), by rw [hW3]; exact new_cell sb _ _ 0 rfl, hRN, by omega⟩
  have HC := Lib.hid (clo_all 64 (by omega) W3 R N (N + 1 + 1) l (h.below hb) hl hE)
  have qf : (((w.alloc (.cells #[.pointer (some ⟨R, 0, none⟩)] 70)).alloc (.cells #[.int .i64 0, .int .i64 0, .string ⟨#[]⟩, .slice none 0 0] 29)).alloc (.cells #[(.func (.func 39) #[] #[.pointer (some ⟨N, 0, none⟩), .pointer (some ⟨N + 1 + 1, 0, none⟩)])] 71)).cell? ⟨N + 1 + 1, 0, none⟩ = some (.func (.func 39) #[] #[.pointer (some ⟨N, 0, none⟩), .pointer (some ⟨N + 1 + 1, 0, none⟩)]) := by have := hE.f; rw [hW3, hWb, hWa] at this; exact this
  have c0 : W3.cell? ⟨N + 1, 0, none⟩ = some (.int .i64 0) := old_cell bc (by rw [hWb]; exact new_cell sa _ _ 0 rfl) (by omega)
  have c1 : W3.cell? ⟨N + 1, 1, none⟩ = some (.int .i64 0) := old_cell bc (by rw [hWb]; exact new_cell sa _ _ 1 rfl) (by omega)
  have c2 : W3.cell? ⟨N + 1, 2, none⟩ = some (.string ⟨#[]⟩) := old_cell bc (by rw [hWb]; exact new_cell sa _ _ 2 rfl) (by omega)
  have c3 : W3.cell? ⟨N + 1, 3, none⟩ = some (.slice none 0 0) := old_cell bc (by rw [hWb]; exact new_cell sa _ _ 3 rfl) (by omega)
  have CF : Hid (∀ j, W3.frozen? ⟨N + 1, j, none⟩ = false) := Lib.hid fun j => (bc.frozen (p := ⟨N + 1, j, none⟩) (show N + 1 < Wb.heap.size by omega)).trans (by rw [hWb]; exact new_frozen sa _ _ j)
  have HW : Hid (W3 = (((w.alloc (.cells #[.pointer (some ⟨R, 0, none⟩)] 70)).alloc (.cells #[.int .i64 0, .int .i64 0, .string ⟨#[]⟩, .slice none 0 0] 29)).alloc (.cells #[(.func (.func 39) #[] #[.pointer (some ⟨N, 0, none⟩), .pointer (some ⟨N + 1 + 1, 0, none⟩)])] 71))) := Lib.hid (by rw [hW3, hWb, hWa])
  have hRM : R < N + 1 := by omega
  have S3 : Hid (N + 1 < W3.heap.size) := Lib.hid (by omega)
  have SN : Hid (w.heap.size ≤ N + 1) := Lib.hid (by omega)
  have HN := Lib.hid hN
  clear h hWa hWb hW3 sa sb s3 ba bb bc hb hE
  cases hx : rd 64 l with
  | none =>
    rw [hx] at HC
    clear hx
    go_enter Try.func34, Try.ntmps34
    go_wp2_with (first
      | (go_at_call 39; rw [← HW.out]; refine HC.out.mono ?_; rintro e w5 ⟨hg5, rfl, hRd5⟩
         have d0 := by_cell hg5 hRM c0
         have d1 := by_cell hg5 hRM c1
         have d2 := by_cell hg5 hRM c2
         have d3 := by_cell hg5 hRM c3
         have f0 := by_frozen hg5 S3.out hRM (CF.out 0)
         have f1 := by_frozen hg5 S3.out hRM (CF.out 1)
         have f2 := by_frozen hg5 S3.out hRM (CF.out 2)
         have f3 := by_frozen hg5 S3.out hRM (CF.out 3)
         have HF := Lib.hid (val_fail' (by_trans HG.out hg5) SN.out hRM hRd5 d0 d1 d2 d3)
         clear hg5)
      | fail)
    obtain ⟨W4, hW4⟩ : ∃ W4, W4 = (((w5.setCell ⟨N + 1, 0, none⟩ (.int .i64 0)).setCell ⟨N + 1, 1, none⟩ (.int .i64 0)).setCell ⟨N + 1, 2, none⟩ (.string ⟨#[]⟩)).setCell ⟨N + 1, 3, none⟩ (.slice none 0 0) := ⟨_, rfl⟩
    rw [← hW4]
    obtain ⟨⟨k0, k1, k2, k3⟩, hp⟩ := HF.out W4 hW4
    clear hW4
    exact bodyPost_ret (v := .tuple #[.agg #[.int .i64 0, .int .i64 0, .string ⟨#[]⟩, .slice none 0 0], .bool false]) (by simp [results, Try.results34, go_sem, k0, k1, k2, k3]) rfl (by exact hp)
  | some p =>
    obtain ⟨t, r⟩ := p
    rw [hx] at HC
    clear hx
    go_enter Try.func34, Try.ntmps34
    go_wp2_with (first
      | (go_at_call 39; rw [← HW.out]; refine HC.out.mono ?_; rintro e w5 ⟨hg5, hRd5, a, i, sb, A, q, c, rfl, hL5⟩
         have d0 := by_cell hg5 hRM c0
         have d1 := by_cell hg5 hRM c1
         have d2 := by_cell hg5 hRM c2
         have d3 := by_cell hg5 hRM c3
         have f0 := by_frozen hg5 S3.out hRM (CF.out 0)
         have f1 := by_frozen hg5 S3.out hRM (CF.out 1)
         have f2 := by_frozen hg5 S3.out hRM (CF.out 2)
         have f3 := by_frozen hg5 S3.out hRM (CF.out 3)
         have HF := Lib.hid (val_pass hL5 S3.out (by_trans HG.out hg5) SN.out hRM hRd5 d0 d1 d2 d3)
         clear hg5)
      | fail)
    obtain ⟨W4, hW4⟩ : ∃ W4, W4 = (((w5.setCell ⟨N + 1, 0, none⟩ (.int .i64 a)).setCell ⟨N + 1, 1, none⟩ (.int .i64 i)).setCell ⟨N + 1, 2, none⟩ (.string sb)).setCell ⟨N + 1, 3, none⟩ (.slice A q c) := ⟨_, rfl⟩
    rw [← hW4]
    obtain ⟨⟨k0, k1, k2, k3⟩, hp⟩ := HF.out W4 hW4
    clear hW4
    exact bodyPost_ret (v := .tuple #[.agg #[.int .i64 a, .int .i64 i, .string sb, .slice A q c], .bool true]) (by simp [results, Try.results34, go_sem, k0, k1, k2, k3]) rfl (by exact hp)
/-- what is decoded -/
def decV (l : List UInt8) : Option T := if 1048576 < l.length then none else match rd 64 l with
  | some (t, []) => some t
  | _ => none
/-- what Decode answers -/
def DecodeR (w : World) (x : Option T) (e : Ending) (w' : World) : Prop :=
  Below w.heap.size w w' ∧ match x with
    | none => e = .returned (.tuple #[.agg #[.int .i64 0, .int .i64 0, .string ⟨#[]⟩, .slice none 0 0], .int .i64 4])
    | some t => ∃ (a i : Int) (sb : ByteArray) (A : Option Addr) (n c : Nat), e = .returned (.tuple #[.agg #[.int .i64 a, .int .i64 i, .string sb, .slice A n c], .int .i64 0]) ∧
        Lies w' (fun b => w.heap.size ≤ b ∧ b < w'.heap.size) t (.agg #[.int .i64 a, .int .i64 i, .string sb, .slice A n c])
theorem below_of_by {w w' : World} {R : Nat} (h : w.grownBy w' (some R)) {n : Nat} (hn : n ≤ w.heap.size) (hR : n ≤ R) : Below n w w' := ⟨h.os, h.tape, h.output, h.size, fun k hk => h.block k (by omega) (some_ne (by omega))⟩
theorem dec_fail {N : Nat} {w w2 : World} {i0 i1 i2 i3 : Value} (hg : Below N w w2) (hN : w.heap.size = N) (e0 : w2.cell? ⟨N, 0, none⟩ = some i0) (e1 : w2.cell? ⟨N, 1, none⟩ = some i1) (e2 : w2.cell? ⟨N, 2, none⟩ = some i2) (e3 : w2.cell? ⟨N, 3, none⟩ = some i3) :
    ∀ W4, W4 = (((w2.setCell ⟨N, 0, none⟩ (.int .i64 0)).setCell ⟨N, 1, none⟩ (.int .i64 0)).setCell ⟨N, 2, none⟩ (.string ⟨#[]⟩)).setCell ⟨N, 3, none⟩ (.slice none 0 0) →
      (W4.cell? ⟨N, 0, none⟩ = some (.int .i64 0) ∧ W4.cell? ⟨N, 1, none⟩ = some (.int .i64 0) ∧ W4.cell? ⟨N, 2, none⟩ = some (.string ⟨#[]⟩) ∧ W4.cell? ⟨N, 3, none⟩ = some (.slice none 0 0)) ∧
      DecodeR w none (.returned (.tuple #[.agg #[.int .i64 0, .int .i64 0, .string ⟨#[]⟩, .slice none 0 0], .int .i64 4])) W4 := by
  intro W4 h
  refine ⟨set4_cells e0 e1 e2 e3 _ _ _ _ h, ?_⟩
  subst h
  exact ⟨by rw [hN]; exact below_set4 hg (Nat.le_refl _) _ _ _ _, rfl⟩
theorem dec_pass {N S : Nat} {w w2 : World} {i0 i1 i2 i3 : Value} {t : T} {a i : Int} {sb : ByteArray} {A : Option Addr} {n c : Nat}
    (hL : Lies w2 (fun b => S ≤ b ∧ b < w2.heap.size) t (.agg #[.int .i64 a, .int .i64 i, .string sb, .slice A n c])) (hS : N < S)
    (hg : Below N w w2) (hN : w.heap.size = N) (e0 : w2.cell? ⟨N, 0, none⟩ = some i0) (e1 : w2.cell? ⟨N, 1, none⟩ = some i1) (e2 : w2.cell? ⟨N, 2, none⟩ = some i2) (e3 : w2.cell? ⟨N, 3, none⟩ = some i3) :
    ∀ W4, W4 = (((w2.setCell ⟨N, 0, none⟩ (.int .i64 a)).setCell ⟨N, 1, none⟩ (.int .i64 i)).setCell ⟨N, 2, none⟩ (.string sb)).setCell ⟨N, 3, none⟩ (.slice A n c) →
      (W4.cell? ⟨N, 0, none⟩ = some (.int .i64 a) ∧ W4.cell? ⟨N, 1, none⟩ = some (.int .i64 i) ∧ W4.cell? ⟨N, 2, none⟩ = some (.string sb) ∧ W4.cell? ⟨N, 3, none⟩ = some (.slice A n c)) ∧
      DecodeR w (some t) (.returned (.tuple #[.agg #[.int .i64 a, .int .i64 i, .string sb, .slice A n c], .int .i64 0])) W4 := by
  intro W4 h
  refine ⟨set4_cells e0 e1 e2 e3 _ _ _ _ h, ?_⟩
  have hs : W4.heap.size = w2.heap.size := by rw [h]; simp
  subst h
  refine ⟨by rw [hN]; exact below_set4 hg (Nat.le_refl _) _ _ _ _, a, i, sb, A, n, c, rfl, ?_⟩
  refine Lies.map (fun b hb => ⟨by omega, by rw [hs]; exact hb.2⟩) (fun b o x hf hx => ?_) t _ hL
  have hne : ∀ q, (⟨N, q, none⟩ : Addr) ≠ ⟨b, o, none⟩ := fun q e => by injection e with e1 _; omega
  rw [World.cell?_setCell_other _ _ _ _ (hne 3), World.cell?_setCell_other _ _ _ _ (hne 2), World.cell?_setCell_other _ _ _ _ (hne 1), World.cell?_setCell_other _ _ _ _ (hne 0)]
  exact hx
set_option maxRecDepth 100000 in
set_option maxHeartbeats 2000000 in
/-- codec.Decode -/
theorem decode_any {w : World} {A : Option Addr} {c : Nat} {l : List UInt8} (hB : BytAt w w.heap.size A l) (hc : l.length ≤ c) (hc2 : c ≤ 9223372036854775807) (h0 : A = none → c = 0) :
    Calls Try.prog 20 #[.slice A l.length c] w (DecodeR w (decV l)) := by
  obtain ⟨N, hN⟩ : ∃ N, w.heap.size = N := ⟨_, rfl⟩
  obtain ⟨Wa, hWa⟩ : ∃ W, W = w.alloc (.cells #[.int .i64 0, .int .i64 0, .string ⟨#[]⟩, .slice none 0 0] 29) := ⟨_, rfl⟩
  have sa : Wa.heap.size = N + 1 := by rw [hWa]; exact size_new hN _
  have ba : Below w.heap.size w Wa := by rw [hWa]; exact below_new _ _
  have a0 : Wa.cell? ⟨N, 0, none⟩ = some (.int .i64 0) := by rw [hWa]; exact new_cell hN _ _ 0 rfl
  have a1 : Wa.cell? ⟨N, 1, none⟩ = some (.int .i64 0) := by rw [hWa]; exact new_cell hN _ _ 1 rfl
  have a2 : Wa.cell? ⟨N, 2, none⟩ = some (.string ⟨#[]⟩) := by rw [hWa]; exact new_cell hN _ _ 2 rfl
  have a3 : Wa.cell? ⟨N, 3, none⟩ = some (.slice none 0 0) := by rw [hWa]; exact new_cell hN _ _ 3 rfl
  have AF : ∀ j, Wa.frozen? ⟨N, j, none⟩ = false := fun j => by rw [hWa]; exact new_frozen hN _ _ j
  have HN := Lib.hid hN
  have HBa : Hid (Below N w Wa) := Lib.hid (hN ▸ ba)
  by_cases hbig : 1048576 < l.length
  · have HD : Hid (decV l = none) := Lib.hid (by unfold decV; rw [if_pos hbig])
    have hbi : (1048576 : Int) < (l.length : Int) := by omega
    have HF := Lib.hid (dec_fail HBa.out HN.out a0 a1 a2 a3)
    have HWA := Lib.hid hWa
    have f0 := AF 0
    have f1 := AF 1
    have f2 := AF 2
    have f3 := AF 3
    rw [hWa] at a0 a1 a2 a3 f0 f1 f2 f3
    clear hB hWa sa ba AF
    go_enter Try.func20, Try.ntmps20
    go_wp2
    rw [← HWA.out]
    have HZ : Hid (DecodeR w none (.returned (.tuple #[.agg #[.int .i64 0, .int .i64 0, .string ⟨#[]⟩, .slice none 0 0], .int .i64 4])) Wa) := Lib.hid ⟨by rw [HN.out]; exact HBa.out, rfl⟩
    rw [← HWA.out] at a0 a1 a2 a3
    exact bodyPost_ret (v := .tuple #[.agg #[.int .i64 0, .int .i64 0, .string ⟨#[]⟩, .slice none 0 0], .int .i64 4]) (by simp [results, Try.results20, go_sem, a0, a1, a2, a3]) rfl (by rw [HD.out]; exact HZ.out)
  · have hbi : ¬ (1048576 : Int) < (l.length : Int) := by omega
    obtain ⟨W2, hW2⟩ : ∃ W, W = Wa.alloc (.cells #[.slice A l.length c] 64) := ⟨_, rfl⟩
    have bb : Below Wa.heap.size Wa W2 := by rw [hW2]; exact below_new _ _
    have s2 : W2.heap.size = N + 1 + 1 := by rw [hW2]; exact size_new sa _
    have hb : Below w.heap.size w W2 := below_self ba bb
    have hR : Rd W2 (N + 1) l := ⟨A, c, by rw [hW2]; exact new_cell sa _ _ 0 rfl, hc, hc2, by rw [hW2]; exact new_frozen sa _ _ 0, by
      rcases hB with e | ⟨g, off, h1, h2, h3⟩
      · exact .inl e
      · exact .inr ⟨g, off, h1, by omega, fun j hj => (hb.cell (p := ⟨g, off + j, none⟩) h2).trans (h3 j hj)⟩, h0⟩
    have HV := Lib.hid (value_any hR (by omega))
    have c0 := old_cell bb a0 (by omega)
    have c1 := old_cell bb a1 (by omega)
    have c2 := old_cell bb a2 (by omega)
    have c3 := old_cell bb a3 (by omega)
    have CF : Hid (∀ j, W2.frozen? ⟨N, j, none⟩ = false) := Lib.hid fun j => (bb.frozen (p := ⟨N, j, none⟩) (show N < Wa.heap.size by omega)).trans (AF j)
    have HB2 : Hid (Below N w W2) := Lib.hid (hN ▸ hb)
    have S2 : Hid (N < W2.heap.size) := Lib.hid (by omega)
    have S22 : Hid (W2.heap.size = N + 1 + 1) := Lib.hid s2
    have HW : Hid (W2 = (w.alloc (.cells #[.int .i64 0, .int .i64 0, .string ⟨#[]⟩, .slice none 0 0] 29)).alloc (.cells #[.slice A l.length c] 64)) := Lib.hid (by rw [hW2, hWa])
    clear hB hWa sa ba AF hW2 bb s2 hb hR a0 a1 a2 a3
    cases hx : rd 64 l with
    | none =>
      have HD : Hid (decV l = none) := Lib.hid (by unfold decV; rw [if_neg hbig, hx])
      rw [hx] at HV
      clear hx
      go_enter Try.func20, Try.ntmps20
      go_wp2_with (first
        | (go_at_call 34; rw [← HW.out]; refine HV.out.mono ?_; rintro e w5 ⟨hg5, rfl, hRd5⟩
           have hbn := below_new w5 (.cells #[.int .i64 0, .int .i64 0, .string ⟨#[]⟩, .slice none 0 0] 29)
           have d0 := old_cell hbn (hg5.cell c0 (some_ne (by show N ≠ N + 1; omega))) (Nat.lt_of_lt_of_le S2.out hg5.size)
           have d1 := old_cell hbn (hg5.cell c1 (some_ne (by show N ≠ N + 1; omega))) (Nat.lt_of_lt_of_le S2.out hg5.size)
           have d2 := old_cell hbn (hg5.cell c2 (some_ne (by show N ≠ N + 1; omega))) (Nat.lt_of_lt_of_le S2.out hg5.size)
           have d3 := old_cell hbn (hg5.cell c3 (some_ne (by show N ≠ N + 1; omega))) (Nat.lt_of_lt_of_le S2.out hg5.size)
           have f0 := (hbn.frozen (p := ⟨N, 0, none⟩) (Nat.lt_of_lt_of_le S2.out hg5.size)).trans ((World.frozen?_of_block (a := ⟨N, 0, none⟩) (hg5.block N S2.out (some_ne (by omega)))).trans (CF.out 0))
           have f1 := (hbn.frozen (p := ⟨N, 1, none⟩) (Nat.lt_of_lt_of_le S2.out hg5.size)).trans ((World.frozen?_of_block (a := ⟨N, 1, none⟩) (hg5.block N S2.out (some_ne (by omega)))).trans (CF.out 1))
           have f2 := (hbn.frozen (p := ⟨N, 2, none⟩) (Nat.lt_of_lt_of_le S2.out hg5.size)).trans ((World.frozen?_of_block (a := ⟨N, 2, none⟩) (hg5.block N S2.out (some_ne (by omega)))).trans (CF.out 2))
           have f3 := (hbn.frozen (p := ⟨N, 3, none⟩) (Nat.lt_of_lt_of_le S2.out hg5.size)).trans ((World.frozen?_of_block (a := ⟨N, 3, none⟩) (hg5.block N S2.out (some_ne (by omega)))).trans (CF.out 3))
           have HB5 := Lib.hid (HB2.out.trans ((below_of_by hg5 (n := N) (Nat.le_of_lt S2.out) (by omega)).trans (hbn.mono (Nat.le_trans (Nat.le_of_lt S2.out) hg5.size))))
           have HF := Lib.hid (dec_fail HB5.out HN.out d0 d1 d2 d3)
           clear hg5 hbn)
        | fail)
      obtain ⟨W4, hW4⟩ : ∃ W4, W4 = ((((w5.alloc (.cells #[.int .i64 0, .int .i64 0, .string ⟨#[]⟩, .slice none 0 0] 29)).setCell ⟨N, 0, none⟩ (.int .i64 0)).setCell ⟨N, 1, none⟩ (.int .i64 0)).setCell ⟨N, 2, none⟩ (.string ⟨#[]⟩)).setCell ⟨N, 3, none⟩ (.slice none 0 0) := ⟨_, rfl⟩
      rw [← hW4]
      obtain ⟨⟨k0, k1, k2, k3⟩, hp⟩ := HF.out W4 hW4
      clear hW4
      exact bodyPost_ret (v := .tuple #[.agg #[.int .i64 0, .int .i64 0, .string ⟨#[]⟩, .slice none 0 0], .int .i64 4]) (by simp [results, Try.results20, go_sem, k0, k1, k2, k3]) rfl (by rw [HD.out]; exact hp)
    | some p =>
      obtain ⟨t, r⟩ := p
      rw [hx] at HV
      by_cases hr : r = []
      · have HD : Hid (decV l = some t) := Lib.hid (by unfold decV; rw [if_neg hbig, hx, hr])
        subst hr
        clear hx
        go_enter Try.func20, Try.ntmps20
        go_wp2_with (first
          | (go_at_call 34; rw [← HW.out]; refine HV.out.mono ?_; rintro e w5 ⟨hg5, hRd5, a, i, sb, A', q, c', rfl, hL5⟩
             have hbn := below_new w5 (.cells #[.int .i64 a, .int .i64 i, .string sb, .slice A' q c'] 29)
             have d0 := old_cell hbn (hg5.cell c0 (some_ne (by show N ≠ N + 1; omega))) (Nat.lt_of_lt_of_le S2.out hg5.size)
             have d1 := old_cell hbn (hg5.cell c1 (some_ne (by show N ≠ N + 1; omega))) (Nat.lt_of_lt_of_le S2.out hg5.size)
             have d2 := old_cell hbn (hg5.cell c2 (some_ne (by show N ≠ N + 1; omega))) (Nat.lt_of_lt_of_le S2.out hg5.size)
             have d3 := old_cell hbn (hg5.cell c3 (some_ne (by show N ≠ N + 1; omega))) (Nat.lt_of_lt_of_le S2.out hg5.size)
             have f0 := (hbn.frozen (p := ⟨N, 0, none⟩) (Nat.lt_of_lt_of_le S2.out hg5.size)).trans ((World.frozen?_of_block (a := ⟨N, 0, none⟩) (hg5.block N S2.out (some_ne (by omega)))).trans (CF.out 0))
             have f1 := (hbn.frozen (p := ⟨N, 1, none⟩) (Nat.lt_of_lt_of_le S2.out hg5.size)).trans ((World.frozen?_of_block (a := ⟨N, 1, none⟩) (hg5.block N S2.out (some_ne (by omega)))).trans (CF.out 1))
             have f2 := (hbn.frozen (p := ⟨N, 2, none⟩) (Nat.lt_of_lt_of_le S2.out hg5.size)).trans ((World.frozen?_of_block (a := ⟨N, 2, none⟩) (hg5.block N S2.out (some_ne (by omega)))).trans (CF.out 2))
             have f3 := (hbn.frozen (p := ⟨N, 3, none⟩) (Nat.lt_of_lt_of_le S2.out hg5.size)).trans ((World.frozen?_of_block (a := ⟨N, 3, none⟩) (hg5.block N S2.out (some_ne (by omega)))).trans (CF.out 3))
             have HB5 := Lib.hid (HB2.out.trans ((below_of_by hg5 (n := N) (Nat.le_of_lt S2.out) (by omega)).trans (hbn.mono (Nat.le_trans (Nat.le_of_lt S2.out) hg5.size))))
             obtain ⟨A2, c2', hRc, _⟩ := hRd5
             have e9 := old_cell hbn hRc (World.block_lt_of_cell? _ _ hRc)
             have HF := Lib.hid (dec_pass (S := N + 1) (Lies.mono (hL5.below hbn) fun b hb => ⟨by have := hb.1; have := S22.out; omega, Nat.lt_of_lt_of_le hb.2 hbn.size⟩) (by omega) HB5.out HN.out d0 d1 d2 d3)
             clear hg5 hbn)
          | fail)
        obtain ⟨W4, hW4⟩ : ∃ W4, W4 = ((((w5.alloc (.cells #[.int .i64 a, .int .i64 i, .string sb, .slice A' q c'] 29)).setCell ⟨N, 0, none⟩ (.int .i64 a)).setCell ⟨N, 1, none⟩ (.int .i64 i)).setCell ⟨N, 2, none⟩ (.string sb)).setCell ⟨N, 3, none⟩ (.slice A' q c') := ⟨_, rfl⟩
        rw [← hW4]
        obtain ⟨⟨k0, k1, k2, k3⟩, hp⟩ := HF.out W4 hW4
        clear hW4
        exact bodyPost_ret (v := .tuple #[.agg #[.int .i64 a, .int .i64 i, .string sb, .slice A' q c'], .int .i64 0]) (by simp [results, Try.results20, go_sem, k0, k1, k2, k3]) rfl (by rw [HD.out]; exact hp)
      · have hrl : 0 < r.length := List.length_pos_iff.2 hr
        have HD : Hid (decV l = none) := Lib.hid (by unfold decV; rw [if_neg hbig, hx]; cases r with
          | nil => exact absurd rfl hr
          | cons x q => rfl)
        have hrl2 : (0 : Int) < (r.length : Int) := by omega
        clear hx hr
        go_enter Try.func20, Try.ntmps20
        go_wp2_with (first
          | (go_at_call 34; rw [← HW.out]; refine HV.out.mono ?_; rintro e w5 ⟨hg5, hRd5, a, i, sb, A', q, c', rfl, hL5⟩
             have hbn := below_new w5 (.cells #[.int .i64 a, .int .i64 i, .string sb, .slice A' q c'] 29)
             have d0 := old_cell hbn (hg5.cell c0 (some_ne (by show N ≠ N + 1; omega))) (Nat.lt_of_lt_of_le S2.out hg5.size)
             have d1 := old_cell hbn (hg5.cell c1 (some_ne (by show N ≠ N + 1; omega))) (Nat.lt_of_lt_of_le S2.out hg5.size)
             have d2 := old_cell hbn (hg5.cell c2 (some_ne (by show N ≠ N + 1; omega))) (Nat.lt_of_lt_of_le S2.out hg5.size)
             have d3 := old_cell hbn (hg5.cell c3 (some_ne (by show N ≠ N + 1; omega))) (Nat.lt_of_lt_of_le S2.out hg5.size)
             have f0 := (hbn.frozen (p := ⟨N, 0, none⟩) (Nat.lt_of_lt_of_le S2.out hg5.size)).trans ((World.frozen?_of_block (a := ⟨N, 0, none⟩) (hg5.block N S2.out (some_ne (by omega)))).trans (CF.out 0))
             have f1 := (hbn.frozen (p := ⟨N, 1, none⟩) (Nat.lt_of_lt_of_le S2.out hg5.size)).trans ((World.frozen?_of_block (a := ⟨N, 1, none⟩) (hg5.block N S2.out (some_ne (by omega)))).trans (CF.out 1))
             have f2 := (hbn.frozen (p := ⟨N, 2, none⟩) (Nat.lt_of_lt_of_le S2.out hg5.size)).trans ((World.frozen?_of_block (a := ⟨N, 2, none⟩) (hg5.block N S2.out (some_ne (by omega)))).trans (CF.out 2))
             have f3 := (hbn.frozen (p := ⟨N, 3, none⟩) (Nat.lt_of_lt_of_le S2.out hg5.size)).trans ((World.frozen?_of_block (a := ⟨N, 3, none⟩) (hg5.block N S2.out (some_ne (by omega)))).trans (CF.out 3))
             have HB5 := Lib.hid (HB2.out.trans ((below_of_by hg5 (n := N) (Nat.le_of_lt S2.out) (by omega)).trans (hbn.mono (Nat.le_trans (Nat.le_of_lt S2.out) hg5.size))))
             obtain ⟨A2, c2', hRc, _⟩ := hRd5
             have e9 := old_cell hbn hRc (World.block_lt_of_cell? _ _ hRc)
             have HF := Lib.hid (dec_fail HB5.out HN.out d0 d1 d2 d3)
             clear hg5 hbn)
          | fail)
        obtain ⟨W4, hW4⟩ : ∃ W4, W4 = ((((w5.alloc (.cells #[.int .i64 a, .int .i64 i, .string sb, .slice A' q c'] 29)).setCell ⟨N, 0, none⟩ (.int .i64 0)).setCell ⟨N, 1, none⟩ (.int .i64 0)).setCell ⟨N, 2, none⟩ (.string ⟨#[]⟩)).setCell ⟨N, 3, none⟩ (.slice none 0 0) := ⟨_, rfl⟩
        rw [← hW4]
        obtain ⟨⟨k0, k1, k2, k3⟩, hp⟩ := HF.out W4 hW4
        clear hW4
        exact bodyPost_ret (v := .tuple #[.agg #[.int .i64 0, .int .i64 0, .string ⟨#[]⟩, .slice none 0 0], .int .i64 4]) (by simp [results, Try.results20, go_sem, k0, k1, k2, k3]) rfl (by rw [HD.out]; exact hp)
end Go.Proofs.Ytiababmfalnflaa.Cod

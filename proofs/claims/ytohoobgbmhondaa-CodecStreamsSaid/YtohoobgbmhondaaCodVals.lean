/- text of the reader of package codec. -/
import Derived.Test.YtohoobgbmhondaaCodRead
namespace Go.Proofs.Ytohoobgbmhondaa.Cod
open Go Go.RowKit

def zeroV : Value := .agg #[.int .i64 0, .int .i64 0, .string ⟨#[]⟩, .slice none 0 0]
/-- what a reader's method answers that reads a value -/
def ValR (w : World) (R : Nat) (x : Option (T × List UInt8)) (e : Ending) (w' : World) : Prop :=
  w.grownBy w' (some R) ∧ match x with
    | none => e = .returned (.tuple #[.agg #[.int .i64 0, .int .i64 0, .string ⟨#[]⟩, .slice none 0 0], .bool false]) ∧ ∃ r, Rd w' R r
    | some (t, r) => Rd w' R r ∧ ∃ (a i : Int) (sb : ByteArray) (A : Option Addr) (n c : Nat), e = .returned (.tuple #[.agg #[.int .i64 a, .int .i64 i, .string sb, .slice A n c], .bool true]) ∧
        Lies w' (fun b => w.heap.size ≤ b ∧ b < w'.heap.size) t (.agg #[.int .i64 a, .int .i64 i, .string sb, .slice A n c])
theorem by_set4 {w0 w : World} {R B : Nat} (h : w0.grownBy w (some R)) (hB : w0.heap.size ≤ B) (x0 x1 x2 x3 : Value) : w0.grownBy ((((w.setCell ⟨B, 0, none⟩ x0).setCell ⟨B, 1, none⟩ x1).setCell ⟨B, 2, none⟩ x2).setCell ⟨B, 3, none⟩ x3) (some R) := by
  have hr : ∀ k, some B = some k → w0.heap.size ≤ k := fun k e => by have := Option.some.inj e; omega
  exact by_comp (by_comp (by_comp (by_comp h (by_set w B 0 x0) hr) (by_set _ B 1 x1) hr) (by_set _ B 2 x2) hr) (by_set _ B 3 x3) hr
theorem Rd.set4 {w : World} {R B : Nat} {l : List UInt8} (h : Rd w R l) (hB : R < B) (x0 x1 x2 x3 : Value) : Rd ((((w.setCell ⟨B, 0, none⟩ x0).setCell ⟨B, 1, none⟩ x1).setCell ⟨B, 2, none⟩ x2).setCell ⟨B, 3, none⟩ x3) R l := by
  have hr : ∀ k, some B = some k → R < k := fun k e => by have := Option.some.inj e; omega
  exact (((h.by_ (by_set w B 0 x0) hr).by_ (by_set _ B 1 x1) hr).by_ (by_set _ B 2 x2) hr).by_ (by_set _ B 3 x3) hr
theorem val_fail {R N : Nat} {w w2 : World} {i0 i1 i2 i3 : Value} (hg : w.grownBy w2 (some R)) (hN : w.heap.size = N) (hRN : R < N) {r : List UInt8} (hRd : Rd w2 R r) (e0 : w2.cell? ⟨N, 0, none⟩ = some i0) (e1 : w2.cell? ⟨N, 1, none⟩ = some i1) (e2 : w2.cell? ⟨N, 2, none⟩ = some i2) (e3 : w2.cell? ⟨N, 3, none⟩ = some i3) :
    ∀ W4, W4 = (((w2.setCell ⟨N, 0, none⟩ (.int .i64 0)).setCell ⟨N, 1, none⟩ (.int .i64 0)).setCell ⟨N, 2, none⟩ (.string ⟨#[]⟩)).setCell ⟨N, 3, none⟩ (.slice none 0 0) →
      (W4.cell? ⟨N, 0, none⟩ = some (.int .i64 0) ∧ W4.cell? ⟨N, 1, none⟩ = some (.int .i64 0) ∧ W4.cell? ⟨N, 2, none⟩ = some (.string ⟨#[]⟩) ∧ W4.cell? ⟨N, 3, none⟩ = some (.slice none 0 0)) ∧
      ValR w R none (.returned (.tuple #[.agg #[.int .i64 0, .int .i64 0, .string ⟨#[]⟩, .slice none 0 0], .bool false])) W4 := by
  intro W4 h
  refine ⟨set4_cells e0 e1 e2 e3 _ _ _ _ h, ?_⟩
  subst h
  exact ⟨by_set4 hg (by omega) _ _ _ _, rfl, _, hRd.set4 hRN _ _ _ _⟩
theorem val_made {R N : Nat} {w w2 : World} {i0 i1 i2 i3 : Value} {t : T} {r : List UInt8} {a i : Int} {sb : ByteArray} {A : Option Addr} {n c : Nat} {s : List UInt8} {l : List T} (ht : t = .node a i s l) (hln : l.length = n) (hs : sb.data.toList = s) (hk : I64 a) (hi : I64 i) (h1 : s.length ≤ 9223372036854775807) (h2 : l.length ≤ 9223372036854775807)
    (hA : ListAt w2 (fun b => N < b ∧ b < w2.heap.size) A l) (h0 : A = none → c = 0)
    (hg : w.grownBy w2 (some R)) (hN : w.heap.size = N) (hRN : R < N) (hRd : Rd w2 R r) (e0 : w2.cell? ⟨N, 0, none⟩ = some i0) (e1 : w2.cell? ⟨N, 1, none⟩ = some i1) (e2 : w2.cell? ⟨N, 2, none⟩ = some i2) (e3 : w2.cell? ⟨N, 3, none⟩ = some i3) :
    ∀ W4, W4 = (((w2.setCell ⟨N, 0, none⟩ (.int .i64 a)).setCell ⟨N, 1, none⟩ (.int .i64 i)).setCell ⟨N, 2, none⟩ (.string sb)).setCell ⟨N, 3, none⟩ (.slice A n c) →
      (W4.cell? ⟨N, 0, none⟩ = some (.int .i64 a) ∧ W4.cell? ⟨N, 1, none⟩ = some (.int .i64 i) ∧ W4.cell? ⟨N, 2, none⟩ = some (.string sb) ∧ W4.cell? ⟨N, 3, none⟩ = some (.slice A n c)) ∧
      ValR w R (some (t, r)) (.returned (.tuple #[.agg #[.int .i64 a, .int .i64 i, .string sb, .slice A n c], .bool true])) W4 := by
  intro W4 h
  refine ⟨set4_cells e0 e1 e2 e3 _ _ _ _ h, ?_⟩
  subst h ht hln
  refine ⟨by_set4 hg (by omega) _ _ _ _, hRd.set4 hRN _ _ _ _, a, i, sb, A, _, c, rfl, Lies.mk hs hk hi h1 h2 ?_ h0⟩
  refine (hA.set4 (fun b hb => by omega) _ _ _ _).map (fun b hb => ⟨by omega, ?_⟩) (fun _ _ _ _ h => h)
  simpa using hb.2
theorem val_made' {R N : Nat} {w w2 : World} {i0 i1 i2 i3 : Value} {t : T} {r : List UInt8} {a i : Int} {sb : ByteArray} {A : Option Addr} {n c : Nat} {s : List UInt8} {l : List T} (ht : t = .node a i s l) (hln : l.length = n) (hs : sb.data.toList = s) (hk : I64 a) (hi : I64 i) (h1 : s.length ≤ 9223372036854775807) (h2 : l.length ≤ 9223372036854775807)
    (hA : ListAt w2 (fun b => N < b ∧ b < w2.heap.size) A l) (h0 : A = none → c = 0)
    (hg : w.grownBy w2 (some R)) (hN : w.heap.size ≤ N) (hRN : R < N) (hRd : Rd w2 R r) (e0 : w2.cell? ⟨N, 0, none⟩ = some i0) (e1 : w2.cell? ⟨N, 1, none⟩ = some i1) (e2 : w2.cell? ⟨N, 2, none⟩ = some i2) (e3 : w2.cell? ⟨N, 3, none⟩ = some i3) :
    ∀ W4, W4 = (((w2.setCell ⟨N, 0, none⟩ (.int .i64 a)).setCell ⟨N, 1, none⟩ (.int .i64 i)).setCell ⟨N, 2, none⟩ (.string sb)).setCell ⟨N, 3, none⟩ (.slice A n c) →
      (W4.cell? ⟨N, 0, none⟩ = some (.int .i64 a) ∧ W4.cell? ⟨N, 1, none⟩ = some (.int .i64 i) ∧ W4.cell? ⟨N, 2, none⟩ = some (.string sb) ∧ W4.cell? ⟨N, 3, none⟩ = some (.slice A n c)) ∧
      ValR w R (some (t, r)) (.returned (.tuple #[.agg #[.int .i64 a, .int .i64 i, .string sb, .slice A n c], .bool true])) W4 := by
  intro W4 h
  refine ⟨set4_cells e0 e1 e2 e3 _ _ _ _ h, ?_⟩
  subst h ht hln
  refine ⟨by_set4 hg hN _ _ _ _, hRd.set4 hRN _ _ _ _, a, i, sb, A, _, c, rfl, Lies.mk hs hk hi h1 h2 ?_ h0⟩
  refine (hA.set4 (fun b hb => by omega) _ _ _ _).map (fun b hb => ⟨by omega, ?_⟩) (fun _ _ _ _ h => h)
  simpa using hb.2
theorem BytAt.conv {w : World} {n0 : Nat} {A : Option Addr} {m : List UInt8} (h : BytAt w n0 A m) (h0 : A = none → m = []) (c : Nat) :
    (convert 24 9 (.slice A m.length c)).run Try.prog w = .ok (.string ⟨m.toArray⟩) w := by
  cases A with
  | none =>
    rw [h0 rfl]
    exact Lib.run_convert_nil_bytes w _ _ _ c Try.underlying24 Try.underlying5 Try.underlying9
  | some a =>
    refine run_convert_bytes_back w _ _ _ _ c m Try.underlying24 Try.underlying5 Try.underlying9 (fun j hj => ?_)
    obtain ⟨g, off, h1, _, h3⟩ := h.pos (by omega)
    injection h1 with h1
    subst h1
    rw [Go.WideShapes.add_plain]
    exact h3 j hj
set_option maxRecDepth 100000 in
set_option maxHeartbeats 1000000 in
/-- codec.reader.text -/
theorem text_rd {R n : Nat} {w : World} {l : List UInt8} (h : Rd w R l) (hn : n ≤ 18446744073709551615) (hl : l.length ≤ 9223372036854775807) :
    Calls Try.prog 40 #[.pointer (some ⟨R, 0, none⟩), .int .u64 n] w (ValR w R (if l.length < n then none else some (.node 2 0 (l.take n) [], l.drop n))) := by
  obtain ⟨Wa, hWa⟩ : ∃ W, W = w.alloc (.cells #[.int .i64 0, .int .i64 0, .string ⟨#[]⟩, .slice none 0 0] 33) := ⟨_, rfl⟩
  obtain ⟨N, hN⟩ : ∃ N, w.heap.size = N := ⟨_, rfl⟩
  have hRN : R < N := hN ▸ h.lt
  have hb : Below w.heap.size w Wa := by rw [hWa]; exact below_new _ _
  have HR := Lib.hid (h.below hb)
  have HG := Lib.hid (by_below hb (some R))
  have c0 : Wa.cell? ⟨N, 0, none⟩ = some (.int .i64 0) := by rw [hWa]; exact new_cell hN _ _ 0 rfl
  have c1 : Wa.cell? ⟨N, 1, none⟩ = some (.int .i64 0) := by rw [hWa]; exact new_cell hN _ _ 1 rfl
  have c2 : Wa.cell? ⟨N, 2, none⟩ = some (.string ⟨#[]⟩) := by rw [hWa]; exact new_cell hN _ _ 2 rfl
  have c3 : Wa.cell? ⟨N, 3, none⟩ = some (.slice none 0 0) := by rw [hWa]; exact new_cell hN _ _ 3 rfl
  have hsz : N < Wa.heap.size := by rw [hWa, size_new hN]; omega
  have HW := Lib.hid hWa
  have HSZ := Lib.hid hsz
  have cf : ∀ j, Wa.frozen? ⟨N, j, none⟩ = false := fun j => by rw [hWa]; exact new_frozen hN _ _ j
  have CF := Lib.hid cf
  have HN := Lib.hid hN
  have g0 := cf 0
  have g1 := cf 1
  have g2 := cf 2
  have g3 := cf 3
  clear h hb hWa hsz cf
  by_cases hlt : l.length < n
  · rw [if_pos hlt]
    have HT : Hid (Calls Try.prog 45 #[.pointer (some ⟨R, 0, none⟩), .int .u64 n] Wa fun e w' => e = .returned (.tuple #[.slice none 0 0, .bool false]) ∧ Wa = w') := Lib.hid (take_few HR.out hn hlt)
    have HF := Lib.hid (val_fail HG.out HN.out hRN HR.out c0 c1 c2 c3)
    go_enter Try.func40, Try.ntmps40
    go_wp2_with (first | (go_at_call 45; rw [← HW.out]; refine HT.out.mono ?_; rintro e w' ⟨rfl, rfl⟩) | fail)
    obtain ⟨W4, hW4⟩ : ∃ W4, W4 = (((Wa.setCell ⟨N, 0, none⟩ (.int .i64 0)).setCell ⟨N, 1, none⟩ (.int .i64 0)).setCell ⟨N, 2, none⟩ (.string ⟨#[]⟩)).setCell ⟨N, 3, none⟩ (.slice none 0 0) := ⟨_, rfl⟩
    rw [← hW4]
    obtain ⟨⟨k0, k1, k2, k3⟩, hp⟩ := HF.out W4 hW4
    clear hW4
    exact bodyPost_ret (v := .tuple #[.agg #[.int .i64 0, .int .i64 0, .string ⟨#[]⟩, .slice none 0 0], .bool false]) (by simp [results, Try.results40, go_sem, k0, k1, k2, k3]) rfl hp
  · rw [if_neg hlt]
    have HT : Hid (Calls Try.prog 45 #[.pointer (some ⟨R, 0, none⟩), .int .u64 n] Wa (TakeR Wa R n l)) := Lib.hid (take_ok HR.out (by omega))
    have htl : (l.take n).length = n := by rw [List.length_take]; omega
    have HTL := Lib.hid htl
    obtain ⟨sb, hsb⟩ : ∃ sb : ByteArray, sb = ⟨(l.take n).toArray⟩ := ⟨_, rfl⟩
    have HSB := Lib.hid hsb
    have HLE : Hid ((l.take n).length ≤ 9223372036854775807) := Lib.hid (by rw [htl]; omega)
    clear hsb htl
    go_enter Try.func40, Try.ntmps40
    go_wp2_with (first
      | (go_at_call 45; rw [← HW.out]; refine HT.out.mono ?_; rintro e w1 ⟨A, c, rfl, hBT, hA0, hc1, hc2, hRd, hg⟩
         have hcv : (convert 24 9 (.slice A n c)).run Try.prog w1 = .ok (.string sb) w1 := by
           have := hBT.conv (fun h => List.eq_nil_of_length_eq_zero (by rw [HTL.out]; have := hA0 h; omega)) c
           rw [HTL.out, ← HSB.out] at this
           exact this
         have d0 := by_cell hg hRN c0
         have d1 := by_cell hg hRN c1
         have d2 := by_cell hg hRN c2
         have d3 := by_cell hg hRN c3
         have f0 := by_frozen hg HSZ.out hRN (CF.out 0)
         have f1 := by_frozen hg HSZ.out hRN (CF.out 1)
         have f2 := by_frozen hg HSZ.out hRN (CF.out 2)
         have f3 := by_frozen hg HSZ.out hRN (CF.out 3)
         have HG1 := Lib.hid (by_trans HG.out hg)
         have HRd := Lib.hid hRd
         clear hBT hRd hg)
      | fail)
    have HF := Lib.hid (val_made (t := .node 2 0 (l.take n) []) (a := 2) (i := 0) (sb := sb) (A := none) (n := 0) (c := 0) rfl rfl (by rw [HSB.out]) ⟨by omega, by omega⟩ ⟨by omega, by omega⟩ HLE.out (by simp) (.inl rfl) (fun _ => rfl) HG1.out HN.out hRN HRd.out d0 d1 d2 d3)
    obtain ⟨W4, hW4⟩ : ∃ W4, W4 = (((w1.setCell ⟨N, 0, none⟩ (.int .i64 2)).setCell ⟨N, 1, none⟩ (.int .i64 0)).setCell ⟨N, 2, none⟩ (.string sb)).setCell ⟨N, 3, none⟩ (.slice none 0 0) := ⟨_, rfl⟩
    rw [← hW4]
    obtain ⟨⟨k0, k1, k2, k3⟩, hp⟩ := HF.out W4 hW4
    clear hW4
    exact bodyPost_ret (v := .tuple #[.agg #[.int .i64 2, .int .i64 0, .string sb, .slice none 0 0], .bool true]) (by simp [results, Try.results40, go_sem, k0, k1, k2, k3]) rfl hp
end Go.Proofs.Ytohoobgbmhondaa.Cod

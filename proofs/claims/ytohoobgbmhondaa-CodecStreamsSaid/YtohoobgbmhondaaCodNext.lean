/- codec.Next. -/
import Derived.Test.YtohoobgbmhondaaCodClone
import Derived.Test.YtohoobgbmhondaaCodLaw
namespace Go.Proofs.Ytohoobgbmhondaa.Cod
open Go Go.RowKit

/-- what Next answers -/
def NextR (w : World) (x : Option (T × List UInt8)) (e : Ending) (w' : World) : Prop :=
  Below w.heap.size w w' ∧ match x with
    | none => e = .returned (.tuple #[.agg #[.int .i64 0, .int .i64 0, .string ⟨#[]⟩, .slice none 0 0], .slice none 0 0, .int .i64 4])
    | some (t, r) => ∃ (a i : Int) (sb : ByteArray) (A : Option Addr) (n c : Nat) (A2 : Option Addr) (c2 : Nat), e = .returned (.tuple #[.agg #[.int .i64 a, .int .i64 i, .string sb, .slice A n c], .slice A2 r.length c2, .int .i64 0]) ∧
        Lies w' TT t (.agg #[.int .i64 a, .int .i64 i, .string sb, .slice A n c]) ∧ Byt w' w.heap.size (.slice A2 r.length c2) r
theorem next_fail {w w2 : World} {N : Nat} {y0 y1 y2 y3 : Value} (hb : Below N w w2) (hN : w.heap.size = N)
    (e0 : w2.cell? ⟨N, 0, none⟩ = some y0) (e1 : w2.cell? ⟨N, 1, none⟩ = some y1) (e2 : w2.cell? ⟨N, 2, none⟩ = some y2) (e3 : w2.cell? ⟨N, 3, none⟩ = some y3) :
    ∀ W4, W4 = (((w2.setCell ⟨N, 0, none⟩ (.int .i64 0)).setCell ⟨N, 1, none⟩ (.int .i64 0)).setCell ⟨N, 2, none⟩ (.string ⟨#[]⟩)).setCell ⟨N, 3, none⟩ (.slice none 0 0) → (W4.cell? ⟨N, 0, none⟩ = some (.int .i64 0) ∧ W4.cell? ⟨N, 1, none⟩ = some (.int .i64 0) ∧ W4.cell? ⟨N, 2, none⟩ = some (.string ⟨#[]⟩) ∧ W4.cell? ⟨N, 3, none⟩ = some (.slice none 0 0)) ∧
      NextR w none (.returned (.tuple #[.agg #[.int .i64 0, .int .i64 0, .string ⟨#[]⟩, .slice none 0 0], .slice none 0 0, .int .i64 4])) W4 := by
  intro W4 h
  refine ⟨set4_cells e0 e1 e2 e3 _ _ _ _ h, ?_⟩
  subst h hN
  exact ⟨below_set4 hb (by omega) _ _ _ _, rfl⟩
theorem Byt.set {w : World} {base : Nat} {v : Value} {l : List UInt8} (h : Byt w base v l) {a : Addr} (ha : a.block < base) (u : Value) : Byt (w.setCell a u) base v l := by
  refine ⟨h.1, ?_⟩
  rcases h.2 with hn | ⟨g, cap, cur, rfl, hbg, hgg, rest⟩
  · exact .inl hn
  · exact .inr ⟨g, cap, cur, rfl, hbg, (Go.Deep.blk_setCell_other _ _ _ _ (by omega)).trans hgg, rest⟩
theorem next_made {w w2 : World} {N : Nat} {t : T} {r : List UInt8} {F : Nat → Prop} {a i : Int} {sb : ByteArray} {A' : Option Addr} {q c' : Nat} {A8 : Option Addr} {c8 base : Nat} {y0 y1 y2 y3 : Value} (hb : Below N w w2) (hN : w.heap.size = N)
    (hL : Lies w2 F t (.agg #[.int .i64 a, .int .i64 i, .string sb, .slice A' q c'])) (hF : ∀ b, F b → b ≠ N) (hB : Byt w2 base (.slice A8 r.length c8) r) (hbase : N < base)
    (e0 : w2.cell? ⟨N, 0, none⟩ = some y0) (e1 : w2.cell? ⟨N, 1, none⟩ = some y1) (e2 : w2.cell? ⟨N, 2, none⟩ = some y2) (e3 : w2.cell? ⟨N, 3, none⟩ = some y3) :
    ∀ W4, W4 = (((w2.setCell ⟨N, 0, none⟩ (.int .i64 a)).setCell ⟨N, 1, none⟩ (.int .i64 i)).setCell ⟨N, 2, none⟩ (.string sb)).setCell ⟨N, 3, none⟩ (.slice A' q c') → (W4.cell? ⟨N, 0, none⟩ = some (.int .i64 a) ∧ W4.cell? ⟨N, 1, none⟩ = some (.int .i64 i) ∧ W4.cell? ⟨N, 2, none⟩ = some (.string sb) ∧ W4.cell? ⟨N, 3, none⟩ = some (.slice A' q c')) ∧
      NextR w (some (t, r)) (.returned (.tuple #[.agg #[.int .i64 a, .int .i64 i, .string sb, .slice A' q c'], .slice A8 r.length c8, .int .i64 0])) W4 := by
  intro W4 h
  refine ⟨set4_cells e0 e1 e2 e3 _ _ _ _ h, ?_⟩
  subst h hN
  exact ⟨below_set4 hb (by omega) _ _ _ _, _, _, _, _, _, _, _, _, rfl, (hL.set4 hF _ _ _ _).mono fun _ _ => trivial,
    ((((hB.set (a := ⟨_, 0, none⟩) hbase _).set (a := ⟨_, 1, none⟩) hbase _).set (a := ⟨_, 2, none⟩) hbase _).set (a := ⟨_, 3, none⟩) hbase _).mono (Nat.le_of_lt hbase)⟩
set_option maxRecDepth 100000 in
set_option maxHeartbeats 4000000 in
/-- codec.Next -/
theorem next_any {w : World} {A : Option Addr} {c : Nat} {l : List UInt8} (hB : BytAt w w.heap.size A l) (hc : l.length ≤ c) (hc2 : c ≤ 9223372036854775807) (h0 : A = none → c = 0) (hlen : l.length ≤ 8000000) :
    Calls Try.prog 14 #[.slice A l.length c] w (NextR w (rd 64 l)) := by
  obtain ⟨N, hN⟩ : ∃ N, w.heap.size = N := ⟨_, rfl⟩
  obtain ⟨Wa, hWa⟩ : ∃ W, W = w.alloc (.cells #[.int .i64 0, .int .i64 0, .string ⟨#[]⟩, .slice none 0 0] 33) := ⟨_, rfl⟩
  have sa : Wa.heap.size = N + 1 := by rw [hWa]; exact size_new hN _
  have ba : Below w.heap.size w Wa := by rw [hWa]; exact below_new _ _
  have a0 : Wa.cell? ⟨N, 0, none⟩ = some (.int .i64 0) := by rw [hWa]; exact new_cell hN _ _ 0 rfl
  have a1 : Wa.cell? ⟨N, 1, none⟩ = some (.int .i64 0) := by rw [hWa]; exact new_cell hN _ _ 1 rfl
  have a2 : Wa.cell? ⟨N, 2, none⟩ = some (.string ⟨#[]⟩) := by rw [hWa]; exact new_cell hN _ _ 2 rfl
  have a3 : Wa.cell? ⟨N, 3, none⟩ = some (.slice none 0 0) := by rw [hWa]; exact new_cell hN _ _ 3 rfl
  have AF : ∀ j, Wa.frozen? ⟨N, j, none⟩ = false := fun j => by rw [hWa]; exact new_frozen hN _ _ j
  have HN := Lib.hid hN
  have HBa : Hid (Below N w Wa) := Lib.hid (hN ▸ ba)
  obtain ⟨W2, hW2⟩ : ∃ W, W = Wa.alloc (.cells #[.slice A l.length c] 62) := ⟨_, rfl⟩
  have bb : Below Wa.heap.size Wa W2 := by rw [hW2]; exact below_new _ _
  have s2 : W2.heap.size = N + 1 + 1 := by rw [hW2]; exact size_new sa _
  have hb : Below w.heap.size w W2 := below_self ba bb
  have hR : Rd W2 (N + 1) l := ⟨A, c, by rw [hW2]; exact new_cell sa _ _ 0 rfl, hc, hc2, by rw [hW2]; exact new_frozen sa _ _ 0, by
    rcases hB with e | ⟨g, off, h1, h2, h3⟩
    · exact .inl e
    · exact .inr ⟨g, off, h1, by omega, fun j hj => (hb.cell (p := ⟨g, off + j, none⟩) h2).trans (h3 j hj)⟩, h0⟩
  have HV := Lib.hid (value_any hR (by omega))
  have c0 := old_cell bb a0 (by omega)
  have c1 := old_cell bb a1 (by omega)
  have c2 := old_cell bb a2 (by omega)
  have c3 := old_cell bb a3 (by omega)
  have CF : Hid (∀ j, W2.frozen? ⟨N, j, none⟩ = false) := Lib.hid fun j => (bb.frozen (p := ⟨N, j, none⟩) (show N < Wa.heap.size by omega)).trans (AF j)
  have HB2 : Hid (Below N w W2) := Lib.hid (hN ▸ hb)
  have S2 : Hid (N < W2.heap.size) := Lib.hid (by omega)
  have S22 : Hid (W2.heap.size = N + 1 + 1) := Lib.hid s2
  have HW : Hid (W2 = (w.alloc (.cells #[.int .i64 0, .int .i64 0, .string ⟨#[]⟩, .slice none 0 0] 33)).alloc (.cells #[.slice A l.length c] 62)) := Lib.hid (by rw [hW2, hWa])
  clear hB hWa sa ba AF hW2 bb s2 hb hR a0 a1 a2 a3
  cases hx : rd 64 l with
  | none =>
    rw [hx] at HV
    clear hx
    go_enter Try.func14, Try.ntmps14
    go_wp2_with (first
      | (go_at_call 30; rw [← HW.out]; refine HV.out.mono ?_; rintro e w5 ⟨hg5, rfl, hRd5⟩
         have hbn := below_new w5 (.cells #[.int .i64 0, .int .i64 0, .string ⟨#[]⟩, .slice none 0 0] 33)
         have d0 := old_cell hbn (hg5.cell c0 (some_ne (by show N ≠ N + 1; omega))) (Nat.lt_of_lt_of_le S2.out hg5.size)
         have d1 := old_cell hbn (hg5.cell c1 (some_ne (by show N ≠ N + 1; omega))) (Nat.lt_of_lt_of_le S2.out hg5.size)
         have d2 := old_cell hbn (hg5.cell c2 (some_ne (by show N ≠ N + 1; omega))) (Nat.lt_of_lt_of_le S2.out hg5.size)
         have d3 := old_cell hbn (hg5.cell c3 (some_ne (by show N ≠ N + 1; omega))) (Nat.lt_of_lt_of_le S2.out hg5.size)
         have f0 := (hbn.frozen (p := ⟨N, 0, none⟩) (Nat.lt_of_lt_of_le S2.out hg5.size)).trans ((World.frozen?_of_block (a := ⟨N, 0, none⟩) (hg5.block N S2.out (some_ne (by omega)))).trans (CF.out 0))
         have f1 := (hbn.frozen (p := ⟨N, 1, none⟩) (Nat.lt_of_lt_of_le S2.out hg5.size)).trans ((World.frozen?_of_block (a := ⟨N, 1, none⟩) (hg5.block N S2.out (some_ne (by omega)))).trans (CF.out 1))
         have f2 := (hbn.frozen (p := ⟨N, 2, none⟩) (Nat.lt_of_lt_of_le S2.out hg5.size)).trans ((World.frozen?_of_block (a := ⟨N, 2, none⟩) (hg5.block N S2.out (some_ne (by omega)))).trans (CF.out 2))
         have f3 := (hbn.frozen (p := ⟨N, 3, none⟩) (Nat.lt_of_lt_of_le S2.out hg5.size)).trans ((World.frozen?_of_block (a := ⟨N, 3, none⟩) (hg5.block N S2.out (some_ne (by omega)))).trans (CF.out 3))
         have HB5 := Lib.hid (HB2.out.trans ((below_of_by hg5 (n := N) (Nat.le_of_lt S2.out) (by omega)).trans (hbn.mono (Nat.le_trans (Nat.le_of_lt S2.out) hg5.size))))
         have HF := Lib.hid (next_fail HB5.out HN.out d0 d1 d2 d3)
         clear hg5 hbn)
      | fail)
    obtain ⟨W4, hW4⟩ : ∃ W4, W4 = ((((w5.alloc (.cells #[.int .i64 0, .int .i64 0, .string ⟨#[]⟩, .slice none 0 0] 33)).setCell ⟨N, 0, none⟩ (.int .i64 0)).setCell ⟨N, 1, none⟩ (.int .i64 0)).setCell ⟨N, 2, none⟩ (.string ⟨#[]⟩)).setCell ⟨N, 3, none⟩ (.slice none 0 0) := ⟨_, rfl⟩
    rw [← hW4]
    obtain ⟨⟨k0, k1, k2, k3⟩, hp⟩ := HF.out W4 hW4
    clear hW4
    exact bodyPost_ret (v := .tuple #[.agg #[.int .i64 0, .int .i64 0, .string ⟨#[]⟩, .slice none 0 0], .slice none 0 0, .int .i64 4]) (by simp [results, Try.results14, go_sem, k0, k1, k2, k3]) rfl hp
  | some p =>
    obtain ⟨t, r⟩ := p
    have hsh := rd_shorter (by omega) hx
    rw [hx] at HV
    have hr14 : r.length ≤ 140737488355328 := by omega
    clear hx hsh
    go_enter Try.func14, Try.ntmps14
    go_upto_region 5 with (first
      | (go_at_call 30; rw [← HW.out]; refine HV.out.mono ?_; rintro e w5 ⟨hg5, hRd5, a, i, sb, A', q, c', rfl, hL5⟩
         have hbn := below_new w5 (.cells #[.int .i64 a, .int .i64 i, .string sb, .slice A' q c'] 33)
         have d0 := old_cell hbn (hg5.cell c0 (some_ne (by show N ≠ N + 1; omega))) (Nat.lt_of_lt_of_le S2.out hg5.size)
         have d1 := old_cell hbn (hg5.cell c1 (some_ne (by show N ≠ N + 1; omega))) (Nat.lt_of_lt_of_le S2.out hg5.size)
         have d2 := old_cell hbn (hg5.cell c2 (some_ne (by show N ≠ N + 1; omega))) (Nat.lt_of_lt_of_le S2.out hg5.size)
         have d3 := old_cell hbn (hg5.cell c3 (some_ne (by show N ≠ N + 1; omega))) (Nat.lt_of_lt_of_le S2.out hg5.size)
         have f0 := (hbn.frozen (p := ⟨N, 0, none⟩) (Nat.lt_of_lt_of_le S2.out hg5.size)).trans ((World.frozen?_of_block (a := ⟨N, 0, none⟩) (hg5.block N S2.out (some_ne (by omega)))).trans (CF.out 0))
         have f1 := (hbn.frozen (p := ⟨N, 1, none⟩) (Nat.lt_of_lt_of_le S2.out hg5.size)).trans ((World.frozen?_of_block (a := ⟨N, 1, none⟩) (hg5.block N S2.out (some_ne (by omega)))).trans (CF.out 1))
         have f2 := (hbn.frozen (p := ⟨N, 2, none⟩) (Nat.lt_of_lt_of_le S2.out hg5.size)).trans ((World.frozen?_of_block (a := ⟨N, 2, none⟩) (hg5.block N S2.out (some_ne (by omega)))).trans (CF.out 2))
         have f3 := (hbn.frozen (p := ⟨N, 3, none⟩) (Nat.lt_of_lt_of_le S2.out hg5.size)).trans ((World.frozen?_of_block (a := ⟨N, 3, none⟩) (hg5.block N S2.out (some_ne (by omega)))).trans (CF.out 3))
         have HB5 := Lib.hid (HB2.out.trans ((below_of_by hg5 (n := N) (Nat.le_of_lt S2.out) (by omega)).trans (hbn.mono (Nat.le_trans (Nat.le_of_lt S2.out) hg5.size))))
         obtain ⟨A2, c2', hRc, hR1, hR2, hR3, hR4, hR5⟩ := hRd5
         have e9 := old_cell hbn hRc (World.block_lt_of_cell? _ _ hRc)
         have HCL : Hid (Calls Try.prog 31 #[.slice A2 r.length c2'] ((w5.alloc (.cells #[.int .i64 a, .int .i64 i, .string sb, .slice A' q c'] 33)).drew) (Fresh (w5.alloc (.cells #[.int .i64 a, .int .i64 i, .string sb, .slice A' q c'] 33)).drew r)) := Lib.hid (clone_any c2' ((hR4.keep fun b o x hlt hx => (show ((w5.alloc (.cells #[.int .i64 a, .int .i64 i, .string sb, .slice A' q c'] 33)).cell? ⟨b, o, none⟩ = some x) from old_cell hbn hx (by have := hg5.size; have := S22.out; omega)))) (fun h => List.eq_nil_of_length_eq_zero (by have := hR5 h; omega)) hr14)
         clear hg5)
      | fail)
    have HLX := Lib.hid (hL5.below (below_new w5 (.cells #[.int .i64 a, .int .i64 i, .string sb, .slice A' q c'] 33)))
    have hdr : Below (w5.alloc (.cells #[.int .i64 a, .int .i64 i, .string sb, .slice A' q c'] 33)).heap.size (w5.alloc (.cells #[.int .i64 a, .int .i64 i, .string sb, .slice A' q c'] 33)) (w5.alloc (.cells #[.int .i64 a, .int .i64 i, .string sb, .slice A' q c'] 33)).drew := ⟨rfl, rfl, rfl, Nat.le_refl _, fun _ _ => rfl⟩
    have HNX : Hid (N < (w5.alloc (.cells #[.int .i64 a, .int .i64 i, .string sb, .slice A' q c'] 33)).heap.size) := Lib.hid (World.block_lt_of_cell? _ _ d0)
    have p0 : (w5.alloc (.cells #[.int .i64 a, .int .i64 i, .string sb, .slice A' q c'] 33)).cell? ⟨w5.heap.size, 0, none⟩ = some (.int .i64 a) := new_cell rfl _ _ 0 rfl
    have p1 : (w5.alloc (.cells #[.int .i64 a, .int .i64 i, .string sb, .slice A' q c'] 33)).cell? ⟨w5.heap.size, 1, none⟩ = some (.int .i64 i) := new_cell rfl _ _ 1 rfl
    have p2 : (w5.alloc (.cells #[.int .i64 a, .int .i64 i, .string sb, .slice A' q c'] 33)).cell? ⟨w5.heap.size, 2, none⟩ = some (.string sb) := new_cell rfl _ _ 2 rfl
    have p3 : (w5.alloc (.cells #[.int .i64 a, .int .i64 i, .string sb, .slice A' q c'] 33)).cell? ⟨w5.heap.size, 3, none⟩ = some (.slice A' q c') := new_cell rfl _ _ 3 rfl
    obtain ⟨M, hM⟩ : ∃ M, w5.heap.size = M := ⟨_, rfl⟩
    rw [hM] at p0 p1 p2 p3 ⊢
    have hB7 := HB5.out
    clear hM hbn hL5 HB5
    generalize (w5.alloc (.cells #[.int .i64 a, .int .i64 i, .string sb, .slice A' q c'] 33)) = w7 at *
    go_region_law (first
      | (go_simp
         refine HCL.out.mono ?_
         rintro e8 w8 ⟨A8, c8, rfl, hB8, hb8⟩
         have hbw := below_self hdr hb8
         have q0 := old_cell hbw p0 (World.block_lt_of_cell? _ _ p0)
         have q1 := old_cell hbw p1 (World.block_lt_of_cell? _ _ p1)
         have q2 := old_cell hbw p2 (World.block_lt_of_cell? _ _ p2)
         have q3 := old_cell hbw p3 (World.block_lt_of_cell? _ _ p3)
         have z0 := old_cell hbw d0 HNX.out
         have z1 := old_cell hbw d1 HNX.out
         have z2 := old_cell hbw d2 HNX.out
         have z3 := old_cell hbw d3 HNX.out
         have g0 := (hbw.frozen (p := ⟨N, 0, none⟩) HNX.out).trans f0
         have g1 := (hbw.frozen (p := ⟨N, 1, none⟩) HNX.out).trans f1
         have g2 := (hbw.frozen (p := ⟨N, 2, none⟩) HNX.out).trans f2
         have g3 := (hbw.frozen (p := ⟨N, 3, none⟩) HNX.out).trans f3
         have HF := Lib.hid (next_made (hB7.trans (hbw.mono (Nat.le_of_lt HNX.out))) HN.out (HLX.out.below hbw) (fun b hb => by have := hb.1; have := S22.out; omega) hB8 HNX.out z0 z1 z2 z3)
         clear hB8 hb8 hbw))
    all_goals go_wp2_with fail
    all_goals
      obtain ⟨W4, hW4⟩ : ∃ W4, W4 = (((w8.setCell ⟨N, 0, none⟩ (.int .i64 a)).setCell ⟨N, 1, none⟩ (.int .i64 i)).setCell ⟨N, 2, none⟩ (.string sb)).setCell ⟨N, 3, none⟩ (.slice A' q c') := ⟨_, rfl⟩
      rw [← hW4]
      obtain ⟨⟨k0, k1, k2, k3⟩, hp⟩ := HF.out W4 hW4
      clear hW4
      exact bodyPost_ret (v := .tuple #[.agg #[.int .i64 a, .int .i64 i, .string sb, .slice A' q c'], .slice A8 r.length c8, .int .i64 0]) (by simp [results, Try.results14, go_sem, k0, k1, k2, k3]) rfl hp
end Go.Proofs.Ytohoobgbmhondaa.Cod

/- own: the program's value of a value of the reference. -/
import Derived.Test.YtohoobgbmhondaaCodGrow
namespace Go.Proofs.Ytohoobgbmhondaa.Cod
open Go Go.RowKit

/-- a new value that is this tree is returned -/
def Made (t : T) (w : World) (e : Ending) (w' : World) : Prop := ∃ v', e = .returned v' ∧ Lies w' (fun b => w.heap.size ≤ b ∧ b < w'.heap.size) t v' ∧ Below w.heap.size w w'

theorem Made.shape {t : T} {w w' : World} {e : Ending} (h : Made t w e w') : ∃ (a i : Int) (sb : ByteArray) (A : Option Addr) (n c : Nat), e = .returned (.agg #[.int .i64 a, .int .i64 i, .string sb, .slice A n c]) ∧
    Lies w' (fun b => w.heap.size ≤ b ∧ b < w'.heap.size) t (.agg #[.int .i64 a, .int .i64 i, .string sb, .slice A n c]) ∧ Below w.heap.size w w' := by
  obtain ⟨v, rfl, hL, hb⟩ := h
  cases t with
  | node k i s l =>
    obtain ⟨sb, A, c, rfl, _⟩ := hL.node
    exact ⟨k, i, sb, A, l.length, c, rfl, hL, hb⟩
theorem four_new {w : World} {n : Nat} (hn : w.heap.size = n) (a0 a1 a2 a3 : Value) (ty : TypeId) : ∀ j u, [a0, a1, a2, a3][j]? = some u → (w.alloc (.cells #[a0, a1, a2, a3] ty)).cell? ((⟨n, 0, none⟩ : Addr).add j) = some u := by
  intro j u hj
  subst hn
  match j, hj with
  | 0, hj => simp at hj; subst hj; simp [Addr.add]
  | 1, hj => simp at hj; subst hj; simp [Addr.add]
  | 2, hj => simp at hj; subst hj; simp [Addr.add]
  | 3, hj => simp at hj; subst hj; simp [Addr.add]
abbrev TT : Nat → Prop := fun _ => True
/-- the last two values that were made lie in memory still -/
theorem two_go {w w' : World} {t1 t2 : T} {v1 v2 : Value} (h : Hid (Lies w TT t1 v1 ∧ Lies w TT t2 v2)) (hb : Below w.heap.size w w') : Hid (Lies w' TT t1 v1 ∧ Lies w' TT t2 v2) := Lib.hid ⟨h.out.1.below hb, h.out.2.below hb⟩
theorem two_new {w w' : World} {t1 t2 t : T} {v1 v2 v : Value} {F : Nat → Prop} (h : Hid (Lies w TT t1 v1 ∧ Lies w TT t2 v2)) (hb : Below w.heap.size w w') (hL : Lies w' F t v) : Hid (Lies w' TT t v ∧ Lies w' TT t1 v1) := Lib.hid ⟨hL.mono fun _ _ => trivial, h.out.1.below hb⟩
theorem info_val : (Try.prog.info? 33).map (fun i => (i.zero, i.size, i.bytes)) = some (some (.agg #[.int .i64 0, .int .i64 0, .string ⟨#[]⟩, .slice none 0 0]), 4, 56) := by kernel_rfl

set_option maxRecDepth 100000 in
theorem own_n : ∀ (n : Nat) (t : T) (v : Value) (F : Nat → Prop) (w : World), szT t ≤ n → szT t ≤ 1000000 → Lies w F t v →
    Calls Try.prog 13 #[v] w (Made t w) := by
  intro n
  induction n with
  | zero => intro t v F w h; have := szT_pos t; omega
  | succ n ih =>
    intro t v F w hn hm hL
    obtain ⟨k, i, s, l⟩ := t
    obtain ⟨sb, A, c, rfl, hs, hk, hi, hs2, hl, hA⟩ := hL.node
    have hsz : Hid (szT (.node k i s l) = 1 + szL l) := Lib.hid rfl
    have hll : l.length ≤ 1000000 := by have h1 := szL_len l; have h2 := hsz.out; omega
    have HS := Lib.hid hs
    have IH := Lib.hid ih
    clear hL ih hs
    have hle : ∀ {B : Nat} {a : World}, B ≤ a.heap.size → Below B a a := fun h => ⟨rfl, rfl, rfl, Nat.le_refl _, fun _ _ => rfl⟩
    obtain ⟨i0, hi0, hz0, hz1, hz2⟩ := info_parts info_val
    go_enter Try.func13, Try.ntmps13
    go_wp2
    obtain ⟨N, hN⟩ : ∃ N, w.heap.size = N := ⟨_, rfl⟩
    obtain ⟨Wa, hWa⟩ : ∃ W, W = w.alloc (.cells #[.int .i64 k, .int .i64 i, .string sb, .slice A l.length c] 27) := ⟨_, rfl⟩
    obtain ⟨Wb, hWb⟩ : ∃ W, W = Wa.alloc (.cells #[.int .i64 0, .int .i64 0, .string ⟨#[]⟩, .slice none 0 0] 33) := ⟨_, rfl⟩
    obtain ⟨W1, hW1⟩ : ∃ W, W = Wb.alloc (.cells #[.int .i64 k, .int .i64 i, .string sb, .slice none 0 0] 33) := ⟨_, rfl⟩
    have sa : Wa.heap.size = N + 1 := by rw [hWa]; exact size_new hN _
    have sb' : Wb.heap.size = N + 1 + 1 := by rw [hWb]; exact size_new sa _
    have hs1 : W1.heap.size = N + 1 + 1 + 1 := by rw [hW1]; exact size_new sb' _
    have ba : Below N w Wa := by rw [hWa, ← hN]; exact below_new _ _
    have bb : Below (N + 1) Wa Wb := by rw [hWb, ← sa]; exact below_new _ _
    have bc : Below (N + 1 + 1) Wb W1 := by rw [hW1, ← sb']; exact below_new _ _
    have hB1 : Below N w W1 := ba.trans ((bb.mono (by omega)).trans (bc.mono (by omega)))
    have hc3 : W1.cell? ⟨N, 3, none⟩ = some (.slice A l.length c) := old_cell bc (old_cell bb (by rw [hWa]; exact new_cell hN _ _ 3 rfl) (by omega)) (by omega)
    have hr : ∀ j, W1.frozen? ⟨N + 1, j, none⟩ = false := fun j => (bc.frozen (show N + 1 < N + 1 + 1 by omega)).trans (by rw [hWb]; exact new_frozen sa _ _ j)
    have z0 : W1.cell? ⟨N + 1, 0, none⟩ = some (.int .i64 0) := old_cell bc (by rw [hWb]; exact new_cell sa _ _ 0 rfl) (by omega)
    have z1 : W1.cell? ⟨N + 1, 1, none⟩ = some (.int .i64 0) := old_cell bc (by rw [hWb]; exact new_cell sa _ _ 1 rfl) (by omega)
    have z2 : W1.cell? ⟨N + 1, 2, none⟩ = some (.string ⟨#[]⟩) := old_cell bc (by rw [hWb]; exact new_cell sa _ _ 2 rfl) (by omega)
    have z3 : W1.cell? ⟨N + 1, 3, none⟩ = some (.slice none 0 0) := old_cell bc (by rw [hWb]; exact new_cell sa _ _ 3 rfl) (by omega)
    have hO : OutS W1 W1 (N + 1 + 1) 33 k i sb (.slice none 0 0) [] := by
      refine ⟨?_, ?_, ?_, ?_, ?_, Grows.nil _ _ _, ⟨rfl, rfl, rfl, Nat.le_refl _, fun _ _ => rfl⟩, by omega⟩
      · rw [hW1]; exact new_cell sb' _ _ 0 rfl
      · rw [hW1]; exact new_cell sb' _ _ 1 rfl
      · rw [hW1]; exact new_cell sb' _ _ 2 rfl
      · rw [hW1]; exact new_cell sb' _ _ 3 rfl
      · intro j; rw [hW1]; exact new_frozen sb' _ _ j
    rw [← hWa, ← hWb, ← hW1, hN]
    clear hWa hWb hW1 sa sb' ba bb bc
    obtain ⟨X, hX⟩ : ∃ X, N + 1 + 1 = X := ⟨_, rfl⟩
    rw [hX] at hO ⊢
    have hXN : N + 2 = X := hX
    have HR := Lib.hid hr
    have HN := Lib.hid hN
    have HXN := Lib.hid hXN
    clear hr hN hX hs1
    go_loopw [4] (fun a wr => ∃ (j : Nat) (vO : Value), j ≤ l.length ∧ a = .int .i64 j ∧ OutS W1 wr X 33 k i sb vO (l.take j))
      (fun a _ => l.length - (intOf a).toNat)
    case atStart => exact ⟨0, .slice none 0 0, Nat.zero_le _, rfl, hO⟩
    case round =>
      obtain ⟨j, vO, hj, rfl, hS⟩ := hrel
      have hB := hS.below
      have e3 := old_cell hB hc3 (by omega)
      have hBw : Below N w wr := hB1.trans (hB.mono (by omega))
      have hAw := hA.below (w' := wr) (by rw [HN.out]; exact hBw)
      obtain ⟨OA, Oc, rfl, OA0, hOA⟩ := hS.grows.at
      have hlen : (l.take j).length = j := by rw [List.length_take]; omega
      rw [hlen] at hS
      by_cases hlt : j < l.length
      · obtain ⟨b, off, xa, xi, xs, xB, xn, xc, rfl, hF, c0, c1, c2, c3, hLj⟩ := hAw.at hlt
        have hszj : szT l[j] ≤ n := by have h1 := szL_get hlt; have h2 := hsz.out; omega
        have hszm : szT l[j] ≤ 1000000 := by have h1 := szL_get hlt; have h2 := hsz.out; omega
        obtain ⟨t0, ht0⟩ : ∃ t0, t0 = l[j] := ⟨_, rfl⟩
        rw [← ht0] at hLj hszj hszm
        have HT : Hid (l.take (j + 1) = l.take j ++ [t0]) := Lib.hid (by rw [List.take_succ_eq_append_getElem hlt, ht0])
        have HC : Hid (Calls Try.prog 13 #[.agg #[.int .i64 xa, .int .i64 xi, .string xs, .slice xB xn xc]] wr.drew (Made t0 wr.drew)) := Lib.hid (IH.out t0 _ F wr.drew hszj hszm hLj.drew)
        have HS1 := Lib.hid hS.drew
        have HL := Lib.hid hlen
        have o3 : wr.cell? ⟨X, 3, none⟩ = some (.slice OA j Oc) := hS.c3
        have of : wr.frozen? ⟨X, 3, none⟩ = false := hS.free 3
        clear hAw hOA ht0 hLj IH hB hlen hBw hS hO
        go_wp2_with fail
        go_region_law (first
          | (refine step_append_own rfl (.tmp 20) (.tmp 27) 31 rfl (X + 1) 33 i0 _ 4 56 Try.underlying31 hi0 hz0 hz1 hz2 rfl (by decide) (.slice OA j Oc) j (by simp [Act.eval]) (HSa.out.grows.owns HL.out) ⟨wq.heap.size, 0, none⟩ 1 1 [_, _, _, _] (by simp [Act.eval]) rfl (four_new rfl _ _ _ _ _) (by intro u hu; simp at hu; rcases hu with rfl | rfl | rfl | rfl <;> rfl) (by unfold maxLen; omega) (by omega) HSa.out.lt ?_
             intro A2 c2' w2 hown2 hgrow hat
             have q3 : w2.cell? ⟨X, 3, none⟩ = some (.slice OA j Oc) := (HSa.out.grown hgrow).2.2.2.1
             have qf : w2.frozen? ⟨X, 3, none⟩ = false := (HSa.out.grown hgrow).2.2.2.2 3
             have HNX : Hid (OutS W1 (w2.setCell ⟨X, 3, none⟩ (.slice A2 (j + 1) c2')) X 33 k i sb (.slice A2 (j + 1) c2') (l.take j ++ [t0])) := Lib.hid (HSa.out.next (Lies.mono (hLq.below (below_new _ _)) fun b hb => ⟨Nat.lt_of_lt_of_le HS1.out.lt hb.1, Nat.lt_of_lt_of_le hb.2 (below_new _ _).size, HS1.out.grows.own_lt hb.1⟩) (by rw [HL.out]; exact hown2) hgrow hat)
             clear hown2 hgrow hat)
          | (go_simp
             refine HC.out.mono ?_
             rintro e wq hM
             obtain ⟨xa', xi', xs', xA', xn', xc', rfl, hLq, hbq⟩ := hM.shape
             clear hM
             have HSq := Lib.hid (HS1.out.go hbq)
             have HSa := Lib.hid (HSq.out.go (below_new wq (.cells #[.int .i64 xa', .int .i64 xi', .string xs', .slice xA' xn' xc'] 33)))
             have q3 : wq.cell? ⟨X, 3, none⟩ = some (.slice OA j Oc) := HSq.out.c3
             have qf : wq.frozen? ⟨X, 3, none⟩ = false := HSq.out.free 3
             have qa : (wq.alloc (.cells #[.int .i64 xa', .int .i64 xi', .string xs', .slice xA' xn' xc'] 33)).cell? ⟨X, 3, none⟩ = some (.slice OA j Oc) := HSa.out.c3))
        all_goals go_wp2
        all_goals exact ⟨⟨j + 1, _, by omega, by go_num, by rw [HT.out]; exact HNX.out⟩, by simp [intOf]; omega⟩
      · have hjl : j = l.length := by omega
        subst hjl
        rw [List.take_length] at hOA hS
        have y0 := old_cell hB z0 (by omega)
        have y1 := old_cell hB z1 (by omega)
        have y2 := old_cell hB z2 (by omega)
        have y3 := old_cell hB z3 (by omega)
        have f0 := (hB.frozen (p := ⟨N + 1, 0, none⟩) (show N + 1 < X by omega)).trans (HR.out 0)
        have f1 := (hB.frozen (p := ⟨N + 1, 1, none⟩) (show N + 1 < X by omega)).trans (HR.out 1)
        have f2 := (hB.frozen (p := ⟨N + 1, 2, none⟩) (show N + 1 < X by omega)).trans (HR.out 2)
        have f3 := (hB.frozen (p := ⟨N + 1, 3, none⟩) (show N + 1 < X by omega)).trans (HR.out 3)
        have o0 := hS.c0
        have o1 := hS.c1
        have o2 := hS.c2
        have o3 := hS.c3
        have hlt' := hS.lt
        have HG4 : Hid (∀ W4, W4 = (((wr.setCell ⟨N + 1, 0, none⟩ (.int .i64 k)).setCell ⟨N + 1, 1, none⟩ (.int .i64 i)).setCell ⟨N + 1, 2, none⟩ (.string sb)).setCell ⟨N + 1, 3, none⟩ (.slice OA l.length Oc) →
            W4.cell? ⟨N + 1, 0, none⟩ = some (.int .i64 k) ∧ W4.cell? ⟨N + 1, 1, none⟩ = some (.int .i64 i) ∧ W4.cell? ⟨N + 1, 2, none⟩ = some (.string sb) ∧ W4.cell? ⟨N + 1, 3, none⟩ = some (.slice OA l.length Oc)) := Lib.hid fun W4 h => set4_cells y0 y1 y2 y3 _ _ _ _ h
        have HM : Hid (∀ W4, W4 = (((wr.setCell ⟨N + 1, 0, none⟩ (.int .i64 k)).setCell ⟨N + 1, 1, none⟩ (.int .i64 i)).setCell ⟨N + 1, 2, none⟩ (.string sb)).setCell ⟨N + 1, 3, none⟩ (.slice OA l.length Oc) →
            Made (.node k i s l) w (.returned (.agg #[.int .i64 k, .int .i64 i, .string sb, .slice OA l.length Oc])) W4) := Lib.hid (by
          rintro W4 rfl
          refine ⟨_, rfl, Lies.mk HS.out hk hi hs2 hl ?_ OA0, ?_⟩
          · refine (hOA.set4 (fun b hb => by omega) _ _ _ _).map (fun b hb => ?_) (fun _ _ _ _ h => h)
            rw [HN.out]
            refine ⟨by omega, ?_⟩
            simpa using hb.2
          · rw [HN.out]; exact below_set4 hBw (by omega) _ _ _ _)
        clear hAw hOA hS hB hBw HR
        go_wp2
        obtain ⟨W4, hW4⟩ : ∃ W4, W4 = (((wr.setCell ⟨N + 1, 0, none⟩ (.int .i64 k)).setCell ⟨N + 1, 1, none⟩ (.int .i64 i)).setCell ⟨N + 1, 2, none⟩ (.string sb)).setCell ⟨N + 1, 3, none⟩ (.slice OA l.length Oc) := ⟨_, rfl⟩
        rw [← hW4]
        obtain ⟨g0, g1, g2, g3⟩ := HG4.out W4 hW4
        have hm := HM.out W4 hW4
        clear hW4
        exact bodyPost_ret (v := .agg #[.int .i64 k, .int .i64 i, .string sb, .slice OA l.length Oc]) (by simp [results, go_sem, g0, g1, g2, g3]) rfl hm
theorem own_any {t : T} {v : Value} {F : Nat → Prop} {w : World} (h : Lies w F t v) (hs : szT t ≤ 1000000) : Calls Try.prog 13 #[v] w (Made t w) := own_n _ t v F w (Nat.le_refl _) hs h
end Go.Proofs.Ytohoobgbmhondaa.Cod

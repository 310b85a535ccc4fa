/- back: the reference's value of a value of the program. -/
import Derived.Test.YtiababmfalnflaaCodOwn
import Derived.Test.YtiababmfalnflaaCodList2
import Derived.Test.YtiababmfalnflaaCodLaw
namespace Go.Proofs.Ytiababmfalnflaa.Cod
open Go Go.RowKit

theorem info_rval : (Try.prog.info? 24).map (fun i => (i.zero, i.size, i.bytes)) = some (some (.agg #[.int .i64 0, .int .i64 0, .string ⟨#[]⟩, .slice none 0 0]), 4, 56) := by kernel_rfl
/-- a new value that is this tree is returned, and true -/
def Backs (t : T) (w : World) (e : Ending) (w' : World) : Prop := ∃ (a i : Int) (sb : ByteArray) (A : Option Addr) (n c : Nat), e = .returned (.tuple #[.agg #[.int .i64 a, .int .i64 i, .string sb, .slice A n c], .bool true]) ∧
    Lies w' (fun b => w.heap.size ≤ b ∧ b < w'.heap.size) t (.agg #[.int .i64 a, .int .i64 i, .string sb, .slice A n c]) ∧ Below w.heap.size w w'
theorem encs_get {l : List T} {j : Nat} (h : j < l.length) : (enc l[j]).length ≤ (encs l).length := by
  have h1 := congrArg List.length (encs_take h)
  have h2 := encs_take_le l (j + 1)
  rw [List.length_append] at h1
  omega

set_option maxRecDepth 100000 in
set_option maxHeartbeats 2000000 in
theorem back_n : ∀ (n : Nat) (t : T) (v : Value) (F : Nat → Prop) (w : World), szT t ≤ n → (enc t).length ≤ 3000 → Lies w F t v →
    Calls Try.prog 22 #[v, .int .i64 3000] w (Backs t w) := by
  intro n
  induction n with
  | zero => intro t v F w h; have := szT_pos t; omega
  | succ n ih =>
    intro t v F w hn hm hL
    obtain ⟨k, i, s, l⟩ := t
    obtain ⟨sb, A, c, rfl, hs, hk, hi, hs2, hl, hA⟩ := hL.node
    have hsz : Hid (szT (.node k i s l) = 1 + szL l) := Lib.hid rfl
    have hel : (encs l).length ≤ 3000 := by simp only [enc, List.length_append] at hm; omega
    have HEL := Lib.hid hel
    have hll : l.length ≤ 3000 := by have h1 := encs_len l; omega
    have hnb : ¬ (3000 : Int) < (l.length : Int) := by omega
    clear hel
    have HS := Lib.hid hs
    have IH := Lib.hid ih
    clear hL ih hs
    have hle : ∀ {B : Nat} {a : World}, B ≤ a.heap.size → Below B a a := fun h => ⟨rfl, rfl, rfl, Nat.le_refl _, fun _ _ => rfl⟩
    obtain ⟨i0, hi0, hz0, hz1, hz2⟩ := info_parts info_rval
    go_enter Try.func22, Try.ntmps22
    go_wp2
    obtain ⟨N, hN⟩ : ∃ N, w.heap.size = N := ⟨_, rfl⟩
    obtain ⟨Wa, hWa⟩ : ∃ W, W = w.alloc (.cells #[.int .i64 k, .int .i64 i, .string sb, .slice A l.length c] 29) := ⟨_, rfl⟩
    obtain ⟨Wb, hWb⟩ : ∃ W, W = Wa.alloc (.cells #[.int .i64 0, .int .i64 0, .string ⟨#[]⟩, .slice none 0 0] 24) := ⟨_, rfl⟩
    obtain ⟨W1, hW1⟩ : ∃ W, W = Wb.alloc (.cells #[.int .i64 k, .int .i64 i, .string sb, .slice none 0 0] 24) := ⟨_, rfl⟩
    have sa : Wa.heap.size = N + 1 := by rw [hWa]; exact size_new hN _
    have sb' : Wb.heap.size = N + 1 + 1 := by rw [hWb]; exact size_new sa _
    have hs1 : W1.heap.size = N + 1 + 1 + 1 := by rw [hW1]; exact size_new sb' _
    have ba : Below N w Wa := by rw [hWa, ← hN]; exact below_new _ _
    have bb : Below (N + 1) Wa Wb := by rw [hWb, ← sa]; exact below_new _ _
    have bc : Below (N + 1 + 1) Wb W1 := by rw [hW1, ← sb']; exact below_new _ _
    have hB1 : Below N w W1 := ba.trans ((bb.mono (by omega)).trans (bc.mono (by omega)))
    have hc3 : W1.cell? ⟨N, 3, none⟩ = some (.slice A l.length c) := old_cell bc (old_cell bb (by rw [hWa]; exact new_cell hN _ _ 3 rfl) (by omega)) (by omega)
    have hr : ∀ j, W1.frozen? ⟨N + 1, j, none⟩ = false := fun j => (bc.frozen (show N + 1 < N + 1 + 1 by omega)).trans (by rw [hWb]; exact new_frozen sa _ _ j)
    have z0 : W1.cell? ⟨N + 1, 0, none⟩ = some (.int .i64 0) := old_cell bc (by rw [hWb]; exact new_cell sa _ _ 0 rfl) (by omega)
    have z1 : W1.cell? ⟨N + 1, 1, none⟩ = some (.int .i64 0) := old_cell bc (by rw [hWb]; exact new_cell sa _ _ 1 rfl) (by omega)
    have z2 : W1.cell? ⟨N + 1, 2, none⟩ = some (.string ⟨#[]⟩) := old_cell bc (by rw [hWb]; exact new_cell sa _ _ 2 rfl) (by omega)
    have z3 : W1.cell? ⟨N + 1, 3, none⟩ = some (.slice none 0 0) := old_cell bc (by rw [hWb]; exact new_cell sa _ _ 3 rfl) (by omega)
    have hO : OutS W1 W1 (N + 1 + 1) 24 k i sb (.slice none 0 0) [] := by
      refine ⟨?_, ?_, ?_, ?_, ?_, Grows.nil _ _ _, ⟨rfl, rfl, rfl, Nat.le_refl _, fun _ _ => rfl⟩, by omega⟩
      · rw [hW1]; exact new_cell sb' _ _ 0 rfl
      · rw [hW1]; exact new_cell sb' _ _ 1 rfl
      · rw [hW1]; exact new_cell sb' _ _ 2 rfl
      · rw [hW1]; exact new_cell sb' _ _ 3 rfl
      · intro j; rw [hW1]; exact new_frozen sb' _ _ j
    rw [← hWa, ← hWb, ← hW1, hN]
    clear hWa hWb hW1 sa sb' ba bb bc
    obtain ⟨X, hX⟩ : ∃ X, N + 1 + 1 = X := ⟨_, rfl⟩
    rw [hX] at hO ⊢
    have hXN : N + 2 = X := hX
    have HR := Lib.hid hr
    have HN := Lib.hid hN
    have HXN := Lib.hid hXN
    clear hr hN hX hs1
    go_loopw [7] (fun a wr => ∃ (j : Nat) (vO : Value), j ≤ l.length ∧ a = .int .i64 j ∧ OutS W1 wr X 24 k i sb vO (l.take j))
      (fun a _ => l.length - (intOf a).toNat)
    case atStart => exact ⟨0, .slice none 0 0, Nat.zero_le _, rfl, hO⟩
    case round =>
      obtain ⟨j, vO, hj, rfl, hS⟩ := hrel
      have hB := hS.below
      have e3 := old_cell hB hc3 (by omega)
      have hBw : Below N w wr := hB1.trans (hB.mono (by omega))
      have hAw := hA.below (w' := wr) (by rw [HN.out]; exact hBw)
      obtain ⟨OA, Oc, rfl, OA0, hOA⟩ := hS.grows.at
      have hlen : (l.take j).length = j := by rw [List.length_take]; omega
      rw [hlen] at hS
      by_cases hlt : j < l.length
      · obtain ⟨b, off, xa, xi, xs, xB, xn, xc, rfl, hF, c0, c1, c2, c3, hLj⟩ := hAw.at hlt
        have hszj : szT l[j] ≤ n := by have h1 := szL_get hlt; have h2 := hsz.out; omega
        have hszm : (enc l[j]).length ≤ 3000 := by have h1 := encs_get hlt; have h2 := HEL.out; omega
        obtain ⟨t0, ht0⟩ : ∃ t0, t0 = l[j] := ⟨_, rfl⟩
        rw [← ht0] at hLj hszj hszm
        have HT : Hid (l.take (j + 1) = l.take j ++ [t0]) := Lib.hid (by rw [List.take_succ_eq_append_getElem hlt, ht0])
        have HC : Hid (Calls Try.prog 22 #[.agg #[.int .i64 xa, .int .i64 xi, .string xs, .slice xB xn xc], .int .i64 3000] wr (Backs t0 wr)) := Lib.hid (IH.out t0 _ F wr hszj hszm hLj)
        have HS1 := Lib.hid hS
        have HL := Lib.hid hlen
        have o3 : wr.cell? ⟨X, 3, none⟩ = some (.slice OA j Oc) := hS.c3
        clear hAw hOA ht0 hLj IH hB hlen hBw hS hO
        go_wp2_with (first
          | (go_at_call 22; refine HC.out.mono ?_; rintro e w1 ⟨a, i', sb', A', m, c', rfl, hLq, hbq⟩
             have hbn := below_new w1 (.cells #[.int .i64 a, .int .i64 i', .string sb', .slice A' m c'] 24)
             have hbm := below_new (w1.alloc (.cells #[.int .i64 a, .int .i64 i', .string sb', .slice A' m c'] 24)) (.cells #[.int .i64 a, .int .i64 i', .string sb', .slice A' m c'] 24)
             have HSq := Lib.hid (HS1.out.go hbq)
             have HS2 := Lib.hid (HSq.out.go hbn)
             have HS3 := Lib.hid (HS2.out.go hbm)
             have q1 : (w1.alloc (.cells #[.int .i64 a, .int .i64 i', .string sb', .slice A' m c'] 24)).cell? ⟨X, 3, none⟩ = some (.slice OA j Oc) := HS2.out.c3
             have q2 : ((w1.alloc (.cells #[.int .i64 a, .int .i64 i', .string sb', .slice A' m c'] 24)).alloc (.cells #[.int .i64 a, .int .i64 i', .string sb', .slice A' m c'] 24)).cell? ⟨X, 3, none⟩ = some (.slice OA j Oc) := HS3.out.c3
             have HLL := Lib.hid (((Lies.mono hLq fun b hb => (⟨Nat.lt_of_lt_of_le HS1.out.lt hb.1, hb.2, HS1.out.grows.own_lt hb.1⟩ : X < b ∧ b < w1.heap.size ∧ some b ≠ (Value.slice OA j Oc).ownBlock)).below hbn).below hbm)
             have hs3 : (w1.alloc (.cells #[.int .i64 a, .int .i64 i', .string sb', .slice A' m c'] 24)).heap.size = w1.heap.size + 1 := size_new rfl _
             have hX3 := HS3.out.lt
             have hXw : X ≤ (w1.alloc (.cells #[.int .i64 a, .int .i64 i', .string sb', .slice A' m c'] 24)).heap.size := Nat.le_of_lt HS2.out.lt
             obtain ⟨cells, hown⟩ := HS3.out.grows.owns HL.out
             clear hbq hbn hbm hLq)
          | (at_builtin; refine wpList_append_own_at _ rfl _ _ 22 rfl (X + 1) 24 i0 _ 4 56 Try.underlying22 hi0 hz0 hz1 hz2 rfl (by decide) (.slice OA j Oc) j cells rfl hown ⟨w1.heap.size + 1, 0, none⟩ 1 1 [_, _, _, _] rfl rfl (four_new hs3 _ _ _ _ _) ?c2 ?c3 ?c4 ?c5 ?_)
          | fail)
        case c2 => intro u hu; simp at hu; rcases hu with rfl | rfl | rfl | rfl <;> rfl
        case c3 => unfold maxLen; omega
        case c4 => omega
        case c5 => exact hX3
        intro v2 w2 hown2 hgrow _ hat
        have hf : ∃ A2 c2, v2 = .slice A2 (j + 1) c2 := by
          rcases hown2.2 with ⟨e1, e2⟩ | ⟨g, cap, cur, e1, _⟩
          · omega
          · exact ⟨_, _, e1⟩
        obtain ⟨A2, c2', rfl⟩ := hf
        have q3 : w2.cell? ⟨X, 3, none⟩ = some (.slice OA j Oc) := (HS3.out.grown hgrow).2.2.2.1
        have qf : w2.frozen? ⟨X, 3, none⟩ = false := (HS3.out.grown hgrow).2.2.2.2 3
        have hN := HS3.out.next (HLL.out.mono fun b hb => ⟨hb.1, Nat.lt_of_lt_of_le hb.2.1 (by rw [size_new (size_new rfl _) _]; omega), hb.2.2⟩) (fun cells' h' => by
          rw [HL.out] at h' ⊢
          rw [← own_unique hown h']
          exact hown2) hgrow (by rcases hat with e | e
                                 · exact .inl e
                                 · exact .inr (e.trans (by rw [size_new (size_new rfl _) _])))
        have HNX := Lib.hid hN
        clear hown2 hgrow hat hown hN
        go_wp2_with fail
        go_roundw
        case rel => exact ⟨j + 1, _, by omega, by go_num, by rw [HT.out]; exact HNX.out⟩
        case measure => simp [intOf]; omega
      · have hjl : j = l.length := by omega
        subst hjl
        rw [List.take_length] at hOA hS
        have y0 := old_cell hB z0 (by omega)
        have y1 := old_cell hB z1 (by omega)
        have y2 := old_cell hB z2 (by omega)
        have y3 := old_cell hB z3 (by omega)
        have f0 := (hB.frozen (p := ⟨N + 1, 0, none⟩) (show N + 1 < X by omega)).trans (HR.out 0)
        have f1 := (hB.frozen (p := ⟨N + 1, 1, none⟩) (show N + 1 < X by omega)).trans (HR.out 1)
        have f2 := (hB.frozen (p := ⟨N + 1, 2, none⟩) (show N + 1 < X by omega)).trans (HR.out 2)
        have f3 := (hB.frozen (p := ⟨N + 1, 3, none⟩) (show N + 1 < X by omega)).trans (HR.out 3)
        have o0 := hS.c0
        have o1 := hS.c1
        have o2 := hS.c2
        have o3 := hS.c3
        have hlt' := hS.lt
        have HG4 : Hid (∀ W4, W4 = (((wr.setCell ⟨N + 1, 0, none⟩ (.int .i64 k)).setCell ⟨N + 1, 1, none⟩ (.int .i64 i)).setCell ⟨N + 1, 2, none⟩ (.string sb)).setCell ⟨N + 1, 3, none⟩ (.slice OA l.length Oc) →
            W4.cell? ⟨N + 1, 0, none⟩ = some (.int .i64 k) ∧ W4.cell? ⟨N + 1, 1, none⟩ = some (.int .i64 i) ∧ W4.cell? ⟨N + 1, 2, none⟩ = some (.string sb) ∧ W4.cell? ⟨N + 1, 3, none⟩ = some (.slice OA l.length Oc)) := Lib.hid fun W4 h => set4_cells y0 y1 y2 y3 _ _ _ _ h
        have HM : Hid (∀ W4, W4 = (((wr.setCell ⟨N + 1, 0, none⟩ (.int .i64 k)).setCell ⟨N + 1, 1, none⟩ (.int .i64 i)).setCell ⟨N + 1, 2, none⟩ (.string sb)).setCell ⟨N + 1, 3, none⟩ (.slice OA l.length Oc) →
            Backs (.node k i s l) w (.returned (.tuple #[.agg #[.int .i64 k, .int .i64 i, .string sb, .slice OA l.length Oc], .bool true])) W4) := Lib.hid (by
          rintro W4 rfl
          refine ⟨_, _, _, _, _, _, rfl, Lies.mk HS.out hk hi hs2 hl ?_ OA0, ?_⟩
          · refine (hOA.set4 (fun b hb => by omega) _ _ _ _).map (fun b hb => ?_) (fun _ _ _ _ h => h)
            rw [HN.out]
            refine ⟨by omega, ?_⟩
            simpa using hb.2
          · rw [HN.out]; exact below_set4 hBw (by omega) _ _ _ _)
        clear hAw hOA hS hB hBw HR
        go_wp2
        obtain ⟨W4, hW4⟩ : ∃ W4, W4 = (((wr.setCell ⟨N + 1, 0, none⟩ (.int .i64 k)).setCell ⟨N + 1, 1, none⟩ (.int .i64 i)).setCell ⟨N + 1, 2, none⟩ (.string sb)).setCell ⟨N + 1, 3, none⟩ (.slice OA l.length Oc) := ⟨_, rfl⟩
        rw [← hW4]
        obtain ⟨g0, g1, g2, g3⟩ := HG4.out W4 hW4
        have hm := HM.out W4 hW4
        clear hW4
        exact bodyPost_ret (v := .tuple #[.agg #[.int .i64 k, .int .i64 i, .string sb, .slice OA l.length Oc], .bool true]) (by simp [results, Try.results22, go_sem, g0, g1, g2, g3]) rfl hm
theorem back_any {t : T} {v : Value} {F : Nat → Prop} {w : World} (h : Lies w F t v) (hs : (enc t).length ≤ 3000) : Calls Try.prog 22 #[v, .int .i64 3000] w (Backs t w) := back_n _ t v F w (Nat.le_refl _) hs h
end Go.Proofs.Ytiababmfalnflaa.Cod

/- list of the reader of package codec. -/
import Derived.Test.YtohoobgbmhondaaCodList
import Derived.Test.YtohoobgbmhondaaCodOwn
namespace Go.Proofs.Ytohoobgbmhondaa.Cod
open Go Go.RowKit

/-- elements read, and what is read of the rest -/
def comb (L : List T) : Option (List T × List UInt8) → Option (List T × List UInt8)
  | none => none
  | some (l, q) => some (L ++ l, q)
def toList3 : Option (List T × List UInt8) → Option (T × List UInt8)
  | none => none
  | some (l, q) => some (.node 3 0 [] l, q)
theorem comb_nil (x : Option (List T × List UInt8)) : comb [] x = x := by
  cases x with
  | none => rfl
  | some p => rfl
theorem comb_next {f : List UInt8 → Option (T × List UInt8)} {m : Nat} {L : List T} {rest r : List UInt8} {t : T} (h : f rest = some (t, r)) : comb L (rdN f (m + 1) rest) = comb (L ++ [t]) (rdN f m r) := by
  simp only [rdN, h]
  cases rdN f m r with
  | none => rfl
  | some p => simp [comb]
theorem comb_stop {f : List UInt8 → Option (T × List UInt8)} {m : Nat} {L : List T} {rest : List UInt8} (h : f rest = none) : comb L (rdN f (m + 1) rest) = none := by
  simp only [rdN, h, comb]
set_option maxRecDepth 100000 in
set_option maxHeartbeats 4000000 in
theorem list_any {d : Nat} (hC : Clo d) {w : World} {R Br Bf D n : Nat} {l : List UInt8} (h : Rd w R l) (hl : l.length ≤ 10000000) (hE : Env w R Br Bf) (hD : w.cell? ⟨D, 0, none⟩ = some (.int .i64 ((d : Int) + 1))) (hRD : R < D) (hd : d ≤ 64) (hn : n < 18446744073709551616) :
    Calls Try.prog 41 #[.pointer (some ⟨R, 0, none⟩), .int .u64 (n : Int), .func (.func 42) #[] #[.pointer (some ⟨Bf, 0, none⟩), .pointer (some ⟨D, 0, none⟩)]] w (ValR w R (toList3 (rdN (rd d) n l))) := by
  obtain ⟨Wa, hWa⟩ : ∃ W, W = w.alloc (.cells #[.int .i64 0, .int .i64 0, .string ⟨#[]⟩, .slice none 0 0] 33) := ⟨_, rfl⟩
  obtain ⟨W1, hW1⟩ : ∃ W, W = Wa.alloc (.cells #[.int .i64 3, .int .i64 0, .string ⟨#[]⟩, .slice none 0 0] 33) := ⟨_, rfl⟩
  obtain ⟨N, hN⟩ : ∃ N, w.heap.size = N := ⟨_, rfl⟩
  have sa : Wa.heap.size = N + 1 := by rw [hWa]; exact size_new hN _
  have hs1 : W1.heap.size = N + 1 + 1 := by rw [hW1]; exact size_new sa _
  have hRN : R < N := hN ▸ h.lt
  have ba : Below w.heap.size w Wa := by rw [hWa]; exact below_new _ _
  have bb : Below Wa.heap.size Wa W1 := by rw [hW1]; exact below_new _ _
  have hb : Below w.heap.size w W1 := below_self ba bb
  have HG := Lib.hid (by_below ba (some R))
  have HGb := Lib.hid (by_below bb (some R))
  have hsa : Wa.heap.size = N + 1 := sa
  have HSA := Lib.hid hsa
  have HR1 := Lib.hid (h.below hb)
  have HE0 := Lib.hid (hE.by_ HG.out)
  have HD0 := Lib.hid (old_cell ba hD (World.block_lt_of_cell? _ _ hD))
  have c0 : Wa.cell? ⟨N, 0, none⟩ = some (.int .i64 0) := by rw [hWa]; exact new_cell hN _ _ 0 rfl
  have c1 : Wa.cell? ⟨N, 1, none⟩ = some (.int .i64 0) := by rw [hWa]; exact new_cell hN _ _ 1 rfl
  have c2 : Wa.cell? ⟨N, 2, none⟩ = some (.string ⟨#[]⟩) := by rw [hWa]; exact new_cell hN _ _ 2 rfl
  have c3 : Wa.cell? ⟨N, 3, none⟩ = some (.slice none 0 0) := by rw [hWa]; exact new_cell hN _ _ 3 rfl
  have CF : Hid (∀ j, Wa.frozen? ⟨N, j, none⟩ = false) := Lib.hid fun j => by rw [hWa]; exact new_frozen hN _ _ j
  have hO : OutS W1 W1 (N + 1) 33 3 0 ⟨#[]⟩ (.slice none 0 0) [] := by
    refine ⟨?_, ?_, ?_, ?_, ?_, Grows.nil _ _ _, ⟨rfl, rfl, rfl, Nat.le_refl _, fun _ _ => rfl⟩, by omega⟩
    · rw [hW1]; exact new_cell sa _ _ 0 rfl
    · rw [hW1]; exact new_cell sa _ _ 1 rfl
    · rw [hW1]; exact new_cell sa _ _ 2 rfl
    · rw [hW1]; exact new_cell sa _ _ 3 rfl
    · intro j; rw [hW1]; exact new_frozen sa _ _ j
  have HW : Hid (W1 = (w.alloc (.cells #[.int .i64 0, .int .i64 0, .string ⟨#[]⟩, .slice none 0 0] 33)).alloc (.cells #[.int .i64 3, .int .i64 0, .string ⟨#[]⟩, .slice none 0 0] 33)) := Lib.hid (by rw [hW1, hWa])
  obtain ⟨i0, hi0, hz0, hz1, hz2⟩ := info_parts info_val
  have HN := Lib.hid hN
  have HC := Lib.hid hC
  have hsN : N < Wa.heap.size := by omega
  have HSN := Lib.hid hsN
  have hn2 : (n : Int) ≤ 18446744073709551615 := by omega
  clear h hE hD hWa hW1 sa hsa ba bb hb hs1 hC hsN
  go_enter Try.func41, Try.ntmps41
  go_wp2
  rw [← HW.out]
  obtain ⟨X, hX⟩ : ∃ X, N + 1 = X := ⟨_, rfl⟩
  rw [hX] at hO ⊢
  have HX := Lib.hid hX
  have hNX : N < X := by omega
  clear hX hN
  go_loopw [13] (fun a wr => ∃ (j : Nat) (vO : Value) (L : List T) (rest : List UInt8), j ≤ n ∧ a = .int .u64 j ∧ OutS wr wr X 33 3 0 ⟨#[]⟩ vO L ∧ L.length = j ∧ Hid (Rd wr R rest) ∧ Hid (Wa.grownBy wr (some R)) ∧ j + rest.length ≤ l.length ∧ Hid (rdN (rd d) n l = comb L (rdN (rd d) (n - j) rest)))
    (fun a _ => n - (intOf a).toNat)
  case atStart => exact ⟨0, .slice none 0 0, [], l, Nat.zero_le _, rfl, hO, rfl, HR1, HGb, by omega, Lib.hid (by rw [comb_nil]; rfl)⟩
  case round =>
    obtain ⟨j, vO, L, rest, hj, rfl, hS, hLj, HRd, HGr, hlen, HEQ⟩ := hrel
    obtain ⟨OA, Oc, rfl, OA0, hOA⟩ := hS.grows.at
    rw [hLj] at hS
    have HLJ := Lib.hid hLj
    have HSr := Lib.hid hS
    have o0 := hS.c0
    have o1 := hS.c1
    have o2 := hS.c2
    have o3 := hS.c3
    have z0 := by_cell HGr.out hRN c0
    have z1 := by_cell HGr.out hRN c1
    have z2 := by_cell HGr.out hRN c2
    have z3 := by_cell HGr.out hRN c3
    have F0 : Hid (∀ q, wr.frozen? ⟨N, q, none⟩ = false) := Lib.hid fun q => by_frozen HGr.out HSN.out hRN (CF.out q)
    by_cases hlt : j < n
    · have HEn := HE0.out.by_ HGr.out
      have HDn := by_cell HGr.out hRD HD0.out
      have HEL := Lib.hid (elem_any HC.out HRd.out (by omega) HEn HDn hd)
      have hltI : (j : Int) < (n : Int) := by omega
      cases hx : rd d rest with
      | none =>
        have HB : Hid (toList3 (rdN (rd d) n l) = none) := Lib.hid (by rw [HEQ.out, show n - j = (n - j - 1) + 1 by omega, comb_stop hx]; rfl)
        rw [hx] at HEL
        clear hx hS hLj hOA hO HEn HDn
        go_wp2_with (first
          | (go_at_call 42; refine HEL.out.mono ?_; rintro e w1 ⟨hg, rfl, hRd⟩
             have hl0 : N < wr.heap.size := World.block_lt_of_cell? _ _ z0
             have hl1 : N < w1.heap.size := World.block_lt_of_cell? _ _ (by_cell hg hRN z0)
             have hbn := below_new w1 (.cells #[.int .i64 0, .int .i64 0, .string ⟨#[]⟩, .slice none 0 0] 33)
             have d0 := (hbn.cell (World.block_lt_of_cell? _ _ (by_cell hg hRN z0))).trans (by_cell hg hRN z0)
             have d1 := (hbn.cell (World.block_lt_of_cell? _ _ (by_cell hg hRN z1))).trans (by_cell hg hRN z1)
             have d2 := (hbn.cell (World.block_lt_of_cell? _ _ (by_cell hg hRN z2))).trans (by_cell hg hRN z2)
             have d3 := (hbn.cell (World.block_lt_of_cell? _ _ (by_cell hg hRN z3))).trans (by_cell hg hRN z3)
             have FF : ∀ q, (w1.alloc (.cells #[.int .i64 0, .int .i64 0, .string ⟨#[]⟩, .slice none 0 0] 33)).frozen? ⟨N, q, none⟩ = false := fun q => (hbn.frozen (p := ⟨N, q, none⟩) hl1).trans (by_frozen hg hl0 hRN (F0.out q))
             have f0 := FF 0
             have f1 := FF 1
             have f2 := FF 2
             have f3 := FF 3
             have HF := Lib.hid (val_fail' (by_trans (by_trans HG.out HGr.out) (by_trans hg (by_below hbn (some R)))) (by rw [HN.out]; exact Nat.le_refl _) hRN (by obtain ⟨q, hq⟩ := hRd; exact ⟨q, hq.below hbn⟩) d0 d1 d2 d3)
             clear hg hRd hbn FF hl0 hl1)
          | fail)
        obtain ⟨W4, hW4⟩ : ∃ W4, W4 = ((((w1.alloc (.cells #[.int .i64 0, .int .i64 0, .string ⟨#[]⟩, .slice none 0 0] 33)).setCell ⟨N, 0, none⟩ (.int .i64 0)).setCell ⟨N, 1, none⟩ (.int .i64 0)).setCell ⟨N, 2, none⟩ (.string ⟨#[]⟩)).setCell ⟨N, 3, none⟩ (.slice none 0 0) := ⟨_, rfl⟩
        rw [← hW4]
        obtain ⟨⟨k0, k1, k2, k3⟩, hp⟩ := HF.out W4 hW4
        clear hW4
        exact bodyPost_ret (v := .tuple #[.agg #[.int .i64 0, .int .i64 0, .string ⟨#[]⟩, .slice none 0 0], .bool false]) (by simp [results, Try.results41, go_sem, k0, k1, k2, k3]) rfl (by rw [HB.out]; exact hp)
      | some p =>
        obtain ⟨t, r⟩ := p
        have hsh := rd_shorter (by omega) hx
        have HB : Hid (rdN (rd d) n l = comb (L ++ [t]) (rdN (rd d) (n - (j + 1)) r)) := Lib.hid (by rw [HEQ.out, show n - j = (n - (j + 1)) + 1 by omega, comb_next hx])
        rw [hx] at HEL
        clear hx hS hLj hOA hO HEn HDn
        go_wp2_with (first
          | (go_at_call 42; refine HEL.out.mono ?_; rintro e w1 ⟨hg, hRd, a, i, sb, A, m, c, rfl, hL⟩
             have hbn := below_new w1 (.cells #[.int .i64 a, .int .i64 i, .string sb, .slice A m c] 33)
             have hbm := below_new (w1.alloc (.cells #[.int .i64 a, .int .i64 i, .string sb, .slice A m c] 33)) (.cells #[.int .i64 a, .int .i64 i, .string sb, .slice A m c] 33)
             have HS1 := Lib.hid (HSr.out.by_ hg (by omega))
             have HS2 := Lib.hid (HS1.out.go hbn)
             have HS3 := Lib.hid ((HS2.out.go hbm).rebase)
             have q1 : (w1.alloc (.cells #[.int .i64 a, .int .i64 i, .string sb, .slice A m c] 33)).cell? ⟨X, 3, none⟩ = some (.slice OA j Oc) := HS2.out.c3
             have q2 : ((w1.alloc (.cells #[.int .i64 a, .int .i64 i, .string sb, .slice A m c] 33)).alloc (.cells #[.int .i64 a, .int .i64 i, .string sb, .slice A m c] 33)).cell? ⟨X, 3, none⟩ = some (.slice OA j Oc) := HS3.out.c3
             have HLL := Lib.hid (((Lies.mono hL fun b hb => (⟨Nat.lt_of_lt_of_le HSr.out.lt hb.1, hb.2, HSr.out.grows.own_lt hb.1⟩ : X < b ∧ b < w1.heap.size ∧ some b ≠ (Value.slice OA j Oc).ownBlock)).below hbn).below hbm)
             have HRd3 := Lib.hid ((hRd.below hbn).below hbm)
             have HG3 := Lib.hid (by_trans HGr.out (by_trans hg (by_trans (by_below hbn (some R)) (by_below hbm (some R)))))
             have hs3 : (w1.alloc (.cells #[.int .i64 a, .int .i64 i, .string sb, .slice A m c] 33)).heap.size = w1.heap.size + 1 := size_new rfl _
             have hX3 := HS3.out.lt
             have hXw : X ≤ (w1.alloc (.cells #[.int .i64 a, .int .i64 i, .string sb, .slice A m c] 33)).heap.size := Nat.le_of_lt HS2.out.lt
             obtain ⟨cells, hown⟩ := HS3.out.grows.owns HLJ.out
             clear hg hRd hbn hbm hL)
          | (at_builtin; refine wpList_append_own_at _ rfl _ _ 31 rfl (X + 1) 33 i0 _ 4 56 Try.underlying31 hi0 hz0 hz1 hz2 rfl (by decide) (.slice OA j Oc) j cells rfl hown ⟨w1.heap.size + 1, 0, none⟩ 1 1 [_, _, _, _] rfl rfl (four_new hs3 _ _ _ _ _) ?c2 ?c3 ?c4 ?c5 ?_)
          | fail)
        case c2 => intro u hu; simp at hu; rcases hu with rfl | rfl | rfl | rfl <;> rfl
        case c3 => unfold maxLen; omega
        case c4 => omega
        case c5 => exact hX3
        intro v2 w2 hown2 hgrow _ hat
        have hf : ∃ A2 c2, v2 = .slice A2 (j + 1) c2 := by
          rcases hown2.2 with ⟨e1, e2⟩ | ⟨g, cap, cur, e1, _⟩
          · omega
          · exact ⟨_, _, e1⟩
        obtain ⟨A2, c2', rfl⟩ := hf
        have q3 : w2.cell? ⟨X, 3, none⟩ = some (.slice OA j Oc) := (HS3.out.grown hgrow).2.2.2.1
        have qf : w2.frozen? ⟨X, 3, none⟩ = false := (HS3.out.grown hgrow).2.2.2.2 3
        have hN := HS3.out.next (HLL.out.mono fun b hb => ⟨hb.1, Nat.lt_of_lt_of_le hb.2.1 (by rw [size_new (size_new rfl _) _]; omega), hb.2.2⟩) (fun cells' h' => by
          rw [HLJ.out] at h' ⊢
          rw [← own_unique hown h']
          exact hown2) hgrow (by rcases hat with e | e
                                 · exact .inl e
                                 · exact .inr (e.trans (by rw [size_new (size_new rfl _) _])))
        have HNX := Lib.hid hN.rebase
        have HRn := Lib.hid (HRd3.out.belowX hN.below (by omega))
        have HGn := Lib.hid (by_belowX HG3.out hN.below (by have h1 := HSA.out; have h2 := HX.out; omega))
        clear hown2 hgrow hat hown hN
        go_wp2_with fail
        go_roundw
        case rel => exact ⟨j + 1, _, L ++ [t], r, by omega, by go_num, HNX.out, by rw [List.length_append, HLJ.out]; rfl, HRn, HGn, by omega, HB⟩
        case measure => simp [intOf]; omega
    · have hjn : j = n := by omega
      subst hjn
      have HB : Hid (toList3 (rdN (rd d) j l) = some (.node 3 0 [] L, rest)) := Lib.hid (by rw [HEQ.out, Nat.sub_self]; simp [rdN, comb, toList3])
      have HF := Lib.hid (val_made (t := .node 3 0 [] L) (a := 3) (i := 0) (sb := ⟨#[]⟩) (A := OA) (n := j) (c := Oc) (s := []) (l := L) rfl HLJ.out rfl ⟨by omega, by omega⟩ ⟨by omega, by omega⟩ (by simp) (by rw [HLJ.out]; omega) (hOA.map (fun b hb => ⟨by omega, hb.2⟩) (fun _ _ _ _ h => h)) OA0 (by_trans HG.out HGr.out) HN.out hRN HRd.out z0 z1 z2 z3)
      have f0 := F0.out 0
      have f1 := F0.out 1
      have f2 := F0.out 2
      have f3 := F0.out 3
      clear hS hLj hOA hO
      go_wp2_with fail
      obtain ⟨W4, hW4⟩ : ∃ W4, W4 = (((wr.setCell ⟨N, 0, none⟩ (.int .i64 3)).setCell ⟨N, 1, none⟩ (.int .i64 0)).setCell ⟨N, 2, none⟩ (.string ⟨#[]⟩)).setCell ⟨N, 3, none⟩ (.slice OA j Oc) := ⟨_, rfl⟩
      rw [← hW4]
      obtain ⟨⟨k0, k1, k2, k3⟩, hp⟩ := HF.out W4 hW4
      clear hW4
      exact bodyPost_ret (v := .tuple #[.agg #[.int .i64 3, .int .i64 0, .string ⟨#[]⟩, .slice OA j Oc], .bool true]) (by simp [results, Try.results41, go_sem, k0, k1, k2, k3]) rfl (by rw [HB.out]; exact hp)
end Go.Proofs.Ytohoobgbmhondaa.Cod

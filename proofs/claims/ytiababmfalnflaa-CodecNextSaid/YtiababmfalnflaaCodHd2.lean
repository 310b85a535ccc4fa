/- Head of the reference. -/
import Derived.Test.YtiababmfalnflaaCodHd
namespace Go.Proofs.Ytiababmfalnflaa.Cod
open Go Go.RowKit

/-- a new byte string -/
def Fresh (w : World) (L : List UInt8) (e : Ending) (w' : World) : Prop := ∃ A c, e = .returned (.slice A L.length c) ∧ Byt w' w.heap.size (.slice A L.length c) L ∧ Below w.heap.size w w'
theorem Fresh.mk {w w' : World} {v : Value} {L : List UInt8} (h : Byt w' w.heap.size v L) (hb : Below w.heap.size w w') : Fresh w L (.returned v) w' := by
  obtain ⟨A, c, rfl⟩ := h.form
  exact ⟨A, c, rfl, h, hb⟩
set_option maxHeartbeats 1000000 in
theorem rhead_any {k i : Int} {s : List UInt8} {l : List T} {v : Value} {F : Nat → Prop} {w : World} (h : Lies w F (.node k i s l) v) (hk1 : 1 ≤ k) (hk3 : k ≤ 3) :
    Calls Try.prog 33 #[v] w (Fresh w (headL k.toNat (numT (.node k i s l)))) := by
  have hbd := num_bd (Lies.bd _ _ h)
  obtain ⟨sb, A, c, rfl, hs, hk, hi, hs2, hl, hA⟩ := h.node
  obtain ⟨kn, rfl⟩ : ∃ kn : Nat, k = (kn : Int) := ⟨k.toNat, by omega⟩
  obtain ⟨N, hN⟩ : ∃ N, w.heap.size = N := ⟨_, rfl⟩
  obtain ⟨W1, hW1⟩ : ∃ W1, W1 = w.alloc (.cells #[.int .i64 kn, .int .i64 i, .string sb, .slice A l.length c] 24) := ⟨_, rfl⟩
  have HW1 := Lib.hid hW1
  have hs1 : W1.heap.size = N + 1 := by rw [hW1]; exact size_new hN _
  have hB1 : Below w.heap.size w W1 := by rw [hW1]; exact below_new _ _
  have hc0 : W1.cell? ⟨N, 0, none⟩ = some (.int .i64 kn) := by rw [hW1]; exact new_cell hN _ _ 0 rfl
  obtain ⟨q, hq⟩ : ∃ q, numT (.node (kn : Int) i s l) = q := ⟨_, rfl⟩
  rw [Int.toNat_natCast, hq]
  rw [hq] at hbd
  have HNUM : Hid (Calls Try.prog 27 #[.agg #[.int .i64 kn, .int .i64 i, .string sb, .slice A l.length c]] W1 fun e w' => e = .returned (.int .u64 (q : Int)) ∧ Below W1.heap.size W1 w') := Lib.hid (by
    have := refnumber_any (k := kn) (A := A) (l := l) (c := c) hs hi hs2 hl W1; rw [hq] at this; exact this)
  have HB := Lib.hid hB1
  have HN := Lib.hid hN
  have hq64 : (q : Int) ≤ 18446744073709551615 := by omega
  obtain ⟨i0, hi0, hz0, hz1, hz2⟩ := info_parts info_u8
  clear hs hA h hW1 hB1 hq hi hk
  by_cases hsm : q < 56
  · have hh : Hid (headL kn q = [UInt8.ofNat (64 * kn + q)]) := Lib.hid (by unfold headL; rw [if_pos hsm])
    have hbyte : Hid (64 * (kn : Int) + q = ((UInt8.ofNat (64 * kn + q)).toNat : Int)) := Lib.hid (by rw [byte_nat]; push_cast; omega)
    go_enter Try.func33, Try.ntmps33
    go_wp2_with (first | (go_at_call 27; rw [← HW1.out]; refine HNUM.out.mono ?_; rintro e w2 ⟨rfl, hb2⟩; have e0 := old_cell hb2 hc0 (by omega)) | fail)
    go_ret
    have hb3 := below_self HB.out hb2
    rw [hh.out]
    exact Fresh.mk (byt_cons0 hbyte.out (one_owned _ _ _ hb3.size)) (below_self hb3 (below_new _ _))
  · have hge : ¬ (q : Int) < 56 := by omega
    go_enter Try.func33, Try.ntmps33
    go_wp2_with (first | (go_at_call 27; rw [← HW1.out]; refine HNUM.out.mono ?_; rintro e w2 ⟨rfl, hb2⟩; have e0 := old_cell hb2 hc0 (by omega)) | fail)
    have hw2 : W1.heap.size ≤ w2.heap.size := hb2.size
    have HB2 : Hid (Below w.heap.size w w2) := Lib.hid (below_self HB.out hb2)
    go_loopw [3, 4] (fun a b wr => ∃ (m : Nat) (DA : Option Addr) (Dc : Nat) (D : List UInt8), a = .int .u64 m ∧ b = .slice DA D.length Dc ∧ (m : Int) ≤ 18446744073709551615 ∧ D.length ≤ 8 ∧ Hid (m = q / 256 ^ D.length) ∧ Hid (D = be D.length q) ∧ Hid (nb q = D.length + nb m) ∧ Hid (Byt wr w.heap.size (.slice DA D.length Dc) D) ∧ Below w2.heap.size w2 wr)
      (fun a _ _ => (intOf a).toNat)
    case atStart => exact ⟨q, none, 0, [], rfl, rfl, hq64, by simp, Lib.hid (by simp), Lib.hid rfl, Lib.hid (by simp), Lib.hid (Byt.nil _ _), Below.refl _ _⟩
    case round =>
      obtain ⟨m, DA, Dc, D, rfl, rfl, hm64, hD8, HM, HD, HNB, HBy, hb3⟩ := hrel
      have hbw : Below w.heap.size w wr := below_self HB2.out hb3
      have g0 := old_cell hb3 e0 (by omega)
      have HBW := Lib.hid hbw
      have hsz := hbw.size
      have hnb8 : nb q ≤ 8 := nb8 (by omega)
      have hnb := HNB.out
      obtain ⟨d, hd⟩ : ∃ d, D.length = d := ⟨_, rfl⟩
      rw [hd] at HM HD HNB HBy hnb hD8 ⊢
      have HDL := Lib.hid hd
      clear hbw
      by_cases h0 : m = 0
      · subst h0
        have hdn : nb q = d := by rw [nb_zero] at hnb; omega
        have HR : Hid (headL kn q = UInt8.ofNat (64 * kn + 55 + d) :: D) := Lib.hid (by unfold headL; rw [if_neg hsm, hdn, HD.out])
        have hbyte : Hid (64 * (kn : Int) + 55 + d = ((UInt8.ofNat (64 * kn + 55 + d)).toNat : Int)) := Lib.hid (by rw [byte_nat]; push_cast; omega)
        have hdp : 1 ≤ d := by have := nb_one (n := q) (by omega); omega
        cases DA with
        | none => exact absurd (Byt.none_nil HBy.out).2.1 (by omega)
        | some da =>
          clear hd hnb hdn
          go_wp2_with (first
            | (at_builtin; refine wpList_append_own_at _ rfl (.tmp 35) (.tmp 36) 31 rfl w.heap.size 5 i0 (.int .u8 0) 1 1 Try.underlying31 hi0 hz0 hz1 hz2 rfl (by decide) _ 1 [_] rfl (one_owned wr w.heap.size _ hsz) da d Dc (cellsL D) rfl (HDL.out ▸ lenL D) (Byt.src (HBy.out.below (below_new wr _))) (oneL D) ?c3 ?c4 (Nat.le_trans hsz (below_new wr _).size) ?_)
            | fail)
          case c3 => unfold maxLen; omega
          case c4 => omega
          intro v4 w4 hown hgrow _ hat
          go_wp2
          go_ret
          rw [HR.out]
          exact Fresh.mk (byt_cons hbyte.out (by rw [HDL.out, HN.out]; exact hown)) ((below_self HBW.out (below_new wr _)).grown hgrow (Nat.le_trans hsz (below_new wr _).size) (by intro k hk; simp [Value.ownBlock] at hk; omega))
      · have hm1 : (m : Int) ≠ 0 := by omega
        have hm2 : (0 : Int) < (m : Int) := by omega
        have hnb1 : nb m = nb (m / 256) + 1 := nb_pos h0
        have hd7 : d ≤ 7 := by omega
        obtain ⟨x, hx⟩ : ∃ x, UInt8.ofNat (m % 256) = x := ⟨_, rfl⟩
        have hbyte : Hid ((m : Int) % 256 = (x.toNat : Int)) := Lib.hid (by rw [← hx, byte_nat]; omega)
        have HM2 : Hid (m / 256 = q / 256 ^ (d + 1)) := Lib.hid (by rw [HM.out, Nat.div_div_eq_div_mul, Nat.pow_succ])
        have HD2 : Hid (x :: D = be (d + 1) q) := Lib.hid (by rw [be_cons, ← HM.out, ← HD.out, hx])
        have HNB2 : Hid (nb q = d + 1 + nb (m / 256)) := Lib.hid (by omega)
        have hlt : (m : Int) / 256 < m := by omega
        have hm3 : (m : Int) / 256 ≤ 18446744073709551615 := by omega
        have HDIV : Hid (((m / 256 : Nat) : Int) = (m : Int) / 256) := Lib.hid (by omega)
        clear hd hnb hnb1 hx hnb8
        cases DA with
        | none =>
          obtain ⟨hD0, hd0, hc0'⟩ := Byt.none_nil HBy.out
          subst hD0 hd0 hc0'
          go_wp2_with (first
            | (at_builtin; refine wpList_append_own_none rfl (.tmp 22) (.tmp 23) 31 rfl w.heap.size 5 i0 1 Try.underlying31 hi0 _ 1 [_] rfl (one_owned wr w.heap.size _ hsz) rfl ?_)
            | fail)
          go_wp2
          go_roundw
          case rel => exact ⟨m / 256, some ⟨wr.heap.size, 0, none⟩, 1, [x], by rw [HDIV.out], rfl, by rw [HDIV.out]; exact hm3, by simp, HM2, HD2, HNB2, Lib.hid (byt_cons0 hbyte.out (one_owned wr _ _ hsz)), hb3.trans ((below_new wr _).mono hb3.size)⟩
          case measure => simp [intOf]; omega
        | some da =>
          go_wp2_with (first
            | (at_builtin; refine wpList_append_own_at _ rfl (.tmp 22) (.tmp 23) 31 rfl w.heap.size 5 i0 (.int .u8 0) 1 1 Try.underlying31 hi0 hz0 hz1 hz2 rfl (by decide) _ 1 [_] rfl (one_owned wr w.heap.size _ hsz) da d Dc (cellsL D) rfl (HDL.out ▸ lenL D) (Byt.src (HBy.out.below (below_new wr _))) (oneL D) ?c3 ?c4 (Nat.le_trans hsz (below_new wr _).size) ?_)
            | fail)
          case c3 => unfold maxLen; omega
          case c4 => omega
          intro v4 w4 hown hgrow _ hat
          have hB4 : Byt w4 w.heap.size v4 (x :: D) := byt_cons hbyte.out (by rw [HDL.out, HN.out]; exact hown)
          obtain ⟨A4, c4, rfl⟩ := hB4.form
          have HB4 := Lib.hid hB4
          have hb4 : Below wr.heap.size wr w4 := (below_new wr _).grown hgrow (below_new wr _).size (by intro k hk; simp [Value.ownBlock] at hk; omega)
          have HL4 : Hid ((x :: D).length = d + 1) := Lib.hid (by rw [List.length_cons, HDL.out])
          clear hown hgrow hat hB4
          go_wp2
          go_roundw
          case rel => exact ⟨m / 256, A4, c4, x :: D, by rw [HDIV.out], rfl, by rw [HDIV.out]; exact hm3, by rw [HL4.out]; omega, by rw [HL4.out]; exact HM2, by rw [HL4.out]; exact HD2, by rw [HL4.out]; exact HNB2, HB4, hb3.trans (hb4.mono hb3.size)⟩
          case measure => simp [intOf]; omega
end Go.Proofs.Ytiababmfalnflaa.Cod

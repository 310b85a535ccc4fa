/- The contract of power of package rational: squaring over the bits. -/
import Derived.Test.YtimkgbjgdelkeaaDoorRatBlk
import Derived.Test.YtimkgbjgdelkeaaDoorShelfBits
import Derived.Lib.ItoaNum
import Derived.WalkSmall
namespace Go.Proofs.YtimkgbjgdelkeaaDoor.RatM
open Go Go.RowKit Len

/-- The memory at the head of a round. -/
structure PowS (w wr : World) (a b : Int) (r : Res) : Prop where
  x : Blk wr w.heap.size #[.int .i64 a, .int .i64 b] 24
  z : Blk wr (w.heap.size + 1) #[.int .i64 0, .int .i64 0] 24
  y : Blk wr (w.heap.size + 2) #[.int .i64 r.1, .int .i64 r.2.1] 24
  below : Below w.heap.size w wr
theorem PowS.go {w wr w' : World} {a b : Int} {r : Res} (h : PowS w wr a b r) (hb : Below wr.heap.size wr w') : PowS w w' a b r :=
  ⟨h.x.go hb, h.z.go hb, h.y.go hb, h.below.trans (hb.mono h.below.size)⟩
theorem PowS.set {w wr : World} {a b : Int} {r s : Res} (h : PowS w wr a b r) : PowS w ((wr.setCell ⟨w.heap.size + 2, 0, none⟩ (.int .i64 s.1)).setCell ⟨w.heap.size + 2, 1, none⟩ (.int .i64 s.2.1)) a b s :=
  ⟨(h.x.other (by omega) _ _).other (by omega) _ _, (h.z.other (by omega) _ _).other (by omega) _ _, (h.y.set 0 _).set 1 _, (h.below.setCell (by simp) _).setCell (by simp) _⟩
theorem len_any (n : Nat) (w : World) (h : n ≤ 9223372036854775808) : Calls Tryd.prog 71 #[.int .u64 n] w fun e w' => e = .returned (.int .i64 (Lib.bitLen n : Nat)) ∧ w = w' :=
  (Tryd.bits_Len n w (by omega) (by omega)).mono fun e w' ⟨he, hw⟩ => ⟨by rw [he]; rfl, hw.symm⟩
theorem bit_bd (n : Nat) (h : n ≤ 9223372036854775808) : Lib.bitLen n ≤ 64 ∧ n / 2 ^ Lib.bitLen n = 0 := by
  refine ⟨Lib.bitLen_le n 64 (by omega) (by omega), ?_⟩
  rcases Nat.eq_zero_or_pos n with rfl | hp
  · exact Nat.zero_div _
  · have := (Lib.bitLenAux_bounds 64 n (by omega) (by omega)).2.2
    exact Nat.div_eq_of_lt this

theorem bit_is (n m : Nat) (hn : n ≤ 9223372036854775808) : bits .and .u64 ((n : Int) / 2 ^ (m - 1)) 1 = ((n / 2 ^ (m - 1) % 2 : Nat) : Int) := by
  have e : ((n : Int) / 2 ^ (m - 1)) = ((n / 2 ^ (m - 1) : Nat) : Int) := by
    rw [Int.natCast_ediv, Int.natCast_pow]; rfl
  have h := Nat.le_trans (Nat.div_le_self n (2 ^ (m - 1))) hn
  rw [e]
  generalize n / 2 ^ (m - 1) = q at *
  rw [and_one_u64 _ (by omega) (by omega), Int.natCast_emod]; rfl

set_option maxHeartbeats 2000000 in
theorem power_any (a b : Int) (n : Nat) (w : World) (hv : validR a b = true) (hn : n ≤ 9223372036854775808) :
    Calls Tryd.prog 59 #[.agg #[.int .i64 a, .int .i64 b], .int .u64 n] w (Ret (powN a b n) w) := by
  obtain ⟨L, hL⟩ : ∃ L, Lib.bitLen n = L := ⟨_, rfl⟩
  obtain ⟨l1, l2⟩ := bit_bd n hn
  rw [hL] at l1 l2
  have HL : Hid (∀ w : World, Calls Tryd.prog 71 #[.int .u64 n] w fun e w' => e = .returned (.int .i64 (L : Nat)) ∧ w = w') := Lib.hid fun w => by have := len_any n w hn; rw [hL] at this; exact this
  have H0 : Hid (powN a b (n / 2 ^ L) = (1, 1, 0)) := Lib.hid (by rw [l2, powN_zero])
  clear hL l2
  go_enter Tryd.func59, Tryd.ntmps59
  go_wp2_with (go_at_call 71; refine (HL.out _).mono ?_; rintro e w' ⟨rfl, rfl⟩)
  go_loopw [7, 8] (fun e i wr => ∃ (m : Nat) (r : Res), e = .int .i64 0 ∧ i = .int .i64 ((m : Int) - 1) ∧ m ≤ 64 ∧ PowS w wr a b r ∧ Hid (powN a b (n / 2 ^ m) = r) ∧ r.2.2 = 0) (fun _ i _ => (intOf i + 1).toNat)
  case atStart =>
    refine ⟨L, (1, 1, 0), rfl, rfl, l1, ?_, H0, rfl⟩
    exact ⟨((Blk.fresh _ _ _).alloc _).alloc _, by simpa using (Blk.fresh (w.alloc _) _ _).alloc _, by simpa using Blk.fresh ((w.alloc _).alloc _) _ _, (((Below.refl _ _).alloc (Nat.le_refl _) _).alloc (by simp) _).alloc (by simp; omega) _⟩
  case round =>
    obtain ⟨m, r, rfl, rfl, hm, hS, HR, hr0⟩ := hrel
    have R0 := Lib.hid hr0
    clear hr0
    by_cases h0 : m = 0
    · have fin : Hid (powN a b n = r) := Lib.hid (by have := HR.out; rw [h0, Nat.pow_zero, Nat.div_one] at this; exact this)
      have R1 : Hid (r = (r.1, r.2.1, 0)) := Lib.hid (by rw [← R0.out])
      have y0 := hS.y.cellv 0 (.int .i64 r.1) rfl
      have y1 := hS.y.cellv 1 (.int .i64 r.2.1) rfl
      have z0 := hS.z.cellv 0 (.int .i64 0) rfl
      have z1 := hS.z.cellv 1 (.int .i64 0) rfl
      have f0 := hS.z.free 0
      have f1 := hS.z.free 1
      have hB := hS.below
      subst h0
      go_wp2
      exact bodyPost_ret (v := .tuple #[.agg #[.int .i64 r.1, .int .i64 r.2.1], .int .i64 0]) (by simp [results, Tryd.results59, go_sem, z0, z1]) rfl (ret_of (fin.out.trans R1.out) (below_set1 hB))
    · have h1 : 1 ≤ m := by omega
      obtain ⟨k, hk⟩ : ∃ k, n / 2 ^ m = k := ⟨_, rfl⟩
      have hkn : k + k ≤ n := by
        have e : 2 ^ m = 2 * 2 ^ (m - 1) := by rw [← Nat.pow_succ']; congr 1; omega
        have := Nat.div_mul_le_self n (2 ^ m)
        rw [hk] at this
        have h2 : 1 ≤ 2 ^ (m - 1) := Nat.pow_pos (by decide)
        have : k * (2 * 1) ≤ k * 2 ^ m := by rw [e]; exact Nat.mul_le_mul_left _ (Nat.mul_le_mul_left _ h2)
        omega
      have hk' : n / 2 ^ (m - 1) = k + k + n / 2 ^ (m - 1) % 2 := by
        have : n / 2 ^ (m - 1) / 2 = k := by
          rw [Nat.div_div_eq_div_mul, ← Nat.pow_succ, show (m - 1).succ = m by omega]; exact hk
        omega
      have hrk := HR.out
      rw [hk] at hrk
      have vr := powN_ok (a := a) (b := b) (k := k) (by rw [hrk]; exact R0.out)
      rw [hrk] at vr
      obtain ⟨v1, v2, v3, v4, _⟩ := valid_parts vr.1
      obtain ⟨s, hs⟩ : ∃ s, powN a b (k + k) = s := ⟨_, rfl⟩
      have E1 : Hid (mulZ r.1 r.2.1 r.1 r.2.1 = s) := Lib.hid (by rw [← hs, ← hrk]; exact pow_sq (by rw [hrk]; exact R0.out))
      have HK' := Lib.hid hk'
      have HS := Lib.hid hs
      have HN := Lib.hid hkn
      have x0 := hS.x.cellv 0 (.int .i64 a) rfl
      have x1 := hS.x.cellv 1 (.int .i64 b) rfl
      have y0 := hS.y.cellv 0 (.int .i64 r.1) rfl
      have y1 := hS.y.cellv 1 (.int .i64 r.2.1) rfl
      rcases hs ▸ powN_errs a b (k + k) with hse | hse
      · have S0 := Lib.hid hse
        clear hse hs hk hk' hkn hrk
        have g0 := hS.y.free 0
        have g1 := hS.y.free 1
        go_wp2_with fail
        refine (ret_at (mul_any _ _ _ _ _ ⟨by omega, by omega⟩ ⟨by omega, by omega⟩ ⟨by omega, by omega⟩ ⟨by omega, by omega⟩) E1).mono ?_
        rintro e w2 ⟨rfl, hb⟩
        have hS2 := hS.go hb
        clear x0 x1 y0 y1 hS hb g0 g1
        have y0 := hS2.y.cellv 0 (.int .i64 r.1) rfl
        have y1 := hS2.y.cellv 1 (.int .i64 r.2.1) rfl
        have g0 := hS2.y.free 0
        have g1 := hS2.y.free 1
        have x0 := hS2.x.cellv 0 (.int .i64 a) rfl
        have x1 := hS2.x.cellv 1 (.int .i64 b) rfl
        have hx : (s.2.2 != 0) = false := by simp [S0.out]
        have hm1 : ((m : Int) - 1 - 1) = (((m - 1 : Nat) : Int) - 1) := by omega
        have HM := Lib.hid hm1
        clear hm1
        rcases Nat.mod_two_eq_zero_or_one (n / 2 ^ (m - 1)) with hbit | hbit
        · have hb0 : (bits .and .u64 ((n : Int) / 2 ^ (m - 1)) 1 == 0) = true := by rw [bit_is n m hn, hbit]; rfl
          have nxt : Hid (powN a b (n / 2 ^ (m - 1)) = s) := Lib.hid (by rw [HK'.out, hbit, Nat.add_zero]; exact HS.out)
          clear hbit
          go_wp2_with fail
          go_roundw
          case rel => exact ⟨m - 1, s, by rw [S0.out], by rw [HM.out], by omega, hS2.set, nxt, S0.out⟩
          case measure => simp [intOf]; omega
        · have hb1 : (bits .and .u64 ((n : Int) / 2 ^ (m - 1)) 1 == 0) = false := by rw [bit_is n m hn, hbit]; rfl
          obtain ⟨u, hu⟩ : ∃ u, powN a b (k + k + 1) = u := ⟨_, rfl⟩
          have vs := powN_ok (a := a) (b := b) (k := k + k) (by rw [HS.out]; exact S0.out)
          rw [HS.out] at vs
          obtain ⟨s1, s2, s3, s4, _⟩ := valid_parts vs.1
          obtain ⟨w1, w2', w3, w4, _⟩ := valid_parts hv
          have E2 : Hid (mulZ s.1 s.2.1 a b = u) := Lib.hid (by rw [← hu, ← HS.out]; exact pow_step hv (by rw [HS.out]; exact S0.out))
          have hk1 : k + k + 1 ≤ n := by
            have e := HK'.out
            have := Nat.div_le_self n (2 ^ (m - 1))
            omega
          have nxt : Hid (powN a b (n / 2 ^ (m - 1)) = u) := Lib.hid (by rw [HK'.out, hbit]; exact hu)
          have hT := hS2.set (s := s)
          clear hbit vs
          rcases hu ▸ powN_errs a b (k + k + 1) with hue | hue
          · have U0 := Lib.hid hue
            clear hue hu
            have hy : (u.2.2 != 0) = false := by simp [U0.out]
            go_wp2_with fail
            refine (ret_at (mul_any _ _ _ _ _ ⟨by omega, by omega⟩ ⟨by omega, by omega⟩ ⟨by omega, by omega⟩ ⟨by omega, by omega⟩) E2).mono ?_
            rintro e w3 ⟨rfl, hb⟩
            have hS3 := hT.go hb
            clear x0 x1 y0 y1 g0 g1 hS2 hT hb
            have y0 := hS3.y.cellv 0 (.int .i64 s.1) rfl
            have y1 := hS3.y.cellv 1 (.int .i64 s.2.1) rfl
            have g0 := hS3.y.free 0
            have g1 := hS3.y.free 1
            go_wp2_with fail
            go_roundw
            case rel => exact ⟨m - 1, u, by rw [U0.out], by rw [HM.out], by omega, hS3.set, nxt, U0.out⟩
            case measure => simp [intOf]; omega
          · have fin : Hid (powN a b n = (0, 0, 2)) := Lib.hid (pow_stop hk1 (by rw [hu, hue]; decide))
            subst hue
            clear hu
            go_wp2_with fail
            refine (ret_at (mul_any _ _ _ _ _ ⟨by omega, by omega⟩ ⟨by omega, by omega⟩ ⟨by omega, by omega⟩ ⟨by omega, by omega⟩) E2).mono ?_
            rintro e w3 ⟨rfl, hb⟩
            have hS3 := hT.go hb
            clear x0 x1 y0 y1 g0 g1 hS2 hT hb
            have y0 := hS3.y.cellv 0 (.int .i64 s.1) rfl
            have y1 := hS3.y.cellv 1 (.int .i64 s.2.1) rfl
            have g0 := hS3.y.free 0
            have g1 := hS3.y.free 1
            have z0 := hS3.z.cellv 0 (.int .i64 0) rfl
            have z1 := hS3.z.cellv 1 (.int .i64 0) rfl
            have f0 := hS3.z.free 0
            have f1 := hS3.z.free 1
            have hB := (hS3.set (s := ((0, 0, 2) : Res))).below
            go_wp2
            exact bodyPost_ret (v := .tuple #[.agg #[.int .i64 0, .int .i64 0], .int .i64 2]) (by simp [results, Tryd.results59, go_sem, z0, z1]) rfl (ret_of fin.out (below_set1 hB))
      · have fin : Hid (powN a b n = (0, 0, 2)) := Lib.hid (pow_stop hkn (by rw [hs, hse]; decide))
        subst hse
        clear hs hk hk' hkn hrk
        go_wp2_with fail
        refine (ret_at (mul_any _ _ _ _ _ ⟨by omega, by omega⟩ ⟨by omega, by omega⟩ ⟨by omega, by omega⟩ ⟨by omega, by omega⟩) E1).mono ?_
        rintro e w2 ⟨rfl, hb⟩
        have hS2 := hS.go hb
        clear x0 x1 y0 y1 hS hb
        have y0 := hS2.y.cellv 0 (.int .i64 r.1) rfl
        have y1 := hS2.y.cellv 1 (.int .i64 r.2.1) rfl
        have g0 := hS2.y.free 0
        have g1 := hS2.y.free 1
        have z0 := hS2.z.cellv 0 (.int .i64 0) rfl
        have z1 := hS2.z.cellv 1 (.int .i64 0) rfl
        have f0 := hS2.z.free 0
        have f1 := hS2.z.free 1
        have hB := (hS2.set (s := ((0, 0, 2) : Res))).below
        go_wp2
        exact bodyPost_ret (v := .tuple #[.agg #[.int .i64 0, .int .i64 0], .int .i64 2]) (by simp [results, Tryd.results59, go_sem, z0, z1]) rfl (ret_of fin.out (below_set1 hB))
end Go.Proofs.YtimkgbjgdelkeaaDoor.RatM

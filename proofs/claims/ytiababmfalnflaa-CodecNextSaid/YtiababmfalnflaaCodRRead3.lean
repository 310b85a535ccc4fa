/- Read of the reference: a head of several bytes (written by wip/tools/genrread.py). -/
import Derived.Test.YtiababmfalnflaaCodRRead2
namespace Go.Proofs.Ytiababmfalnflaa.Cod
open Go Go.RowKit

theorem rd_hnone {e : Nat} {l : List UInt8} (h : rdHead l = none) : rd (e + 1) l = none := by unfold rd; rw [h]
set_option maxRecDepth 100000 in
set_option maxHeartbeats 8000000 in
theorem rread_long {x : UInt8} {r : List UInt8} {A : Option Addr} {c : Nat} {w : World} (e : Nat) (IH : Hid (RIH e)) (hB : BytAt w w.heap.size A (x :: r)) (hl : (x :: r).length ≤ c) (hc : c ≤ 9223372036854775807) (hA : A = none → c = 0) (hd : e + 1 ≤ 64) (hlen : (x :: r).length ≤ 3000)
    (hx : 64 ≤ x.toNat) (hm : ¬ x.toNat % 64 < 56) :
    Calls Try.prog 25 #[.slice A (x :: r).length c, .int .i64 ((e + 1 : Nat) : Int)] w (RReadR w (x :: r) (rd (e + 1) (x :: r))) := by
  obtain ⟨N, hN⟩ : ∃ N, w.heap.size = N := ⟨_, rfl⟩
  obtain ⟨y, hy⟩ : ∃ y : Nat, x.toNat = y := ⟨_, rfl⟩
  have hy8 := x.toNat_lt
  rw [hy] at hx hm hy8
  obtain ⟨kn, hkn⟩ : ∃ kn, y / 64 = kn := ⟨_, rfl⟩
  have hk3 : kn = 1 ∨ kn = 2 ∨ kn = 3 := by omega
  obtain ⟨kk, hkk⟩ : ∃ kk, y % 64 - 55 = kk := ⟨_, rfl⟩
  have hk1 : 1 ≤ kk := by omega
  have hk8 : kk ≤ 8 := by omega
  have HX0 : Hid (rdHead (x :: r) = if r.length < kk then none else if val (r.take kk) < 56 ∨ r.head? = some 0 then none else some (kn, val (r.take kk), r.drop kk)) := Lib.hid (by simp only [rdHead, hy]; rw [if_neg hm, hkk, hkn])
  have hki : (y : Int) / 64 = (kn : Int) := by omega
  obtain ⟨n0, hn0⟩ : ∃ n0, y % 64 = n0 := ⟨_, rfl⟩
  have hni : (y : Int) % 64 = (n0 : Int) := by omega
  have hn56 : (56 : Int) ≤ (n0 : Int) := by omega
  have hn63 : (n0 : Int) ≤ 63 := by omega
  have hnk : (n0 : Int) - 55 = (kk : Int) := by omega
  obtain ⟨Wa, hWa⟩ : ∃ W, W = w.alloc Z4 := ⟨_, rfl⟩
  obtain ⟨W1, hW1⟩ : ∃ W, W = Wa.alloc (.cells #[.int .i64 kn, .int .i64 0, .string ⟨#[]⟩, .slice none 0 0] 24) := ⟨_, rfl⟩
  have sa : Wa.heap.size = N + 1 := by rw [hWa]; exact size_new hN _
  have s1 : W1.heap.size = N + 1 + 1 := by rw [hW1]; exact size_new sa _
  have ba : Below w.heap.size w Wa := by rw [hWa]; exact below_new _ _
  have bb : Below (N + 1) Wa W1 := by rw [hW1, ← sa]; exact below_new _ _
  have hb1 : Below w.heap.size w W1 := ba.trans (bb.mono (by omega))
  have z0 : W1.cell? ⟨N, 0, none⟩ = some (.int .i64 0) := old_cell bb (by rw [hWa]; exact new_cell hN _ _ 0 rfl) (by omega)
  have z1 : W1.cell? ⟨N, 1, none⟩ = some (.int .i64 0) := old_cell bb (by rw [hWa]; exact new_cell hN _ _ 1 rfl) (by omega)
  have z2 : W1.cell? ⟨N, 2, none⟩ = some (.string ⟨#[]⟩) := old_cell bb (by rw [hWa]; exact new_cell hN _ _ 2 rfl) (by omega)
  have z3 : W1.cell? ⟨N, 3, none⟩ = some (.slice none 0 0) := old_cell bb (by rw [hWa]; exact new_cell hN _ _ 3 rfl) (by omega)
  have hf : ∀ j, W1.frozen? ⟨N, j, none⟩ = false := fun j => (bb.frozen (show N < N + 1 by omega)).trans (by rw [hWa]; exact new_frozen hN _ _ j)
  have hO : OutS W1 W1 (N + 1) 24 kn 0 ⟨#[]⟩ (.slice none 0 0) [] := by
    refine ⟨?_, ?_, ?_, ?_, ?_, Grows.nil _ _ _, ⟨rfl, rfl, rfl, Nat.le_refl _, fun _ _ => rfl⟩, by omega⟩
    · rw [hW1]; exact new_cell sa _ _ 0 rfl
    · rw [hW1]; exact new_cell sa _ _ 1 rfl
    · rw [hW1]; exact new_cell sa _ _ 2 rfl
    · rw [hW1]; exact new_cell sa _ _ 3 rfl
    · intro j; rw [hW1]; exact new_frozen sa _ _ j
  have HWa := Lib.hid hWa
  have HW1 := Lib.hid hW1
  have HB1 := Lib.hid hb1
  have HZ := Lib.hid hf
  have HBT := Lib.hid (bytAt_below hB hb1)
  have HBN := Lib.hid (((bytAt_below hB ba).keep fun b o x hlt hx => old_cell bb hx (by omega)).mono (Nat.le_of_eq sa))
  obtain ⟨g, off, rfl, hg, hcell⟩ := (bytAt_below hB ba).pos (by simp)
  have b0 : Wa.cell? ⟨g, off, none⟩ = some (.int .u8 (y : Int)) := by have := hcell 0 (by simp); rw [← hy]; simpa using this
  have b1 : W1.cell? ⟨g, off, none⟩ = some (.int .u8 (y : Int)) := old_cell bb b0 (by omega)
  have HCL : Hid (∀ j (h : j < r.length), W1.cell? ⟨g, off + (j + 1), none⟩ = some (.int .u8 (r[j].toNat : Int))) := Lib.hid fun j h => old_cell bb (by have := hcell (j + 1) (by simp; omega); simpa using this) (by omega)
  obtain ⟨L, hL⟩ : ∃ L, (x :: r).length = L := ⟨_, rfl⟩
  have hrl : Hid (L = r.length + 1) := Lib.hid (by rw [← hL]; rfl)
  rw [hL] at hl hlen ⊢
  have hli : ¬ (L : Int) = 0 := by have := hrl.out; omega
  have hlp : (0 : Int) < (L : Int) := by have := hrl.out; omega
  have hdi : ¬ ((e : Int) + 1) = 0 := by omega
  have hlb : ((L : Int) == 0) = false := by simpa using hli
  have hdb : ((e : Int) + 1 == 0) = false := by simpa using hdi
  have hy64 : ¬ (y : Int) < 64 := by omega
  have HN := Lib.hid hN
  have HKN := Lib.hid hkn
  have HL := Lib.hid hL
  clear hcell hB hWa hW1 hy hL hf hkn hn0 hkk ba bb hb1 hN
  have HFL : Hid (rdHead (x :: r) = none → ∀ W4, W4 = (((W1.setCell ⟨N, 0, none⟩ (.int .i64 0)).setCell ⟨N, 1, none⟩ (.int .i64 0)).setCell ⟨N, 2, none⟩ (.string ⟨#[]⟩)).setCell ⟨N, 3, none⟩ (.slice none 0 0) → (W4.cell? ⟨N, 0, none⟩ = some (.int .i64 0) ∧ W4.cell? ⟨N, 1, none⟩ = some (.int .i64 0) ∧ W4.cell? ⟨N, 2, none⟩ = some (.string ⟨#[]⟩) ∧ W4.cell? ⟨N, 3, none⟩ = some (.slice none 0 0)) ∧
      RReadR w (x :: r) (rd (e + 1) (x :: r)) (.returned (.tuple #[.agg #[.int .i64 0, .int .i64 0, .string ⟨#[]⟩, .slice none 0 0], .int .i64 0])) W4) := Lib.hid fun h => rread_fail (rd_hnone h) HN.out HB1.out z0 z1 z2 z3
  have f0 := HZ.out 0
  have f1 := HZ.out 1
  have f2 := HZ.out 2
  have f3 := HZ.out 3
  go_enter Try.func25, Try.ntmps25
  go_upto_region 1 with fail
  rw [HN.out, ← HWa.out]
  go_upto_region 4 with fail
  rw [← HW1.out]
  go_upto_region 7 with fail
  by_cases hsh : r.length < kk
  · have hshi : (L : Int) < 1 + (kk : Int) := by have := hrl.out; omega
    have HF := Lib.hid (HFL.out (by rw [HX0.out, if_pos hsh]))
    clear hsh
    go_wp2_with fail
    obtain ⟨W4, hW4⟩ : ∃ W4, W4 = (((W1.setCell ⟨N, 0, none⟩ (.int .i64 0)).setCell ⟨N, 1, none⟩ (.int .i64 0)).setCell ⟨N, 2, none⟩ (.string ⟨#[]⟩)).setCell ⟨N, 3, none⟩ (.slice none 0 0) := ⟨_, rfl⟩
    rw [← hW4]
    obtain ⟨⟨k0, k1, k2, k3⟩, hp⟩ := HF.out W4 hW4
    clear hW4
    exact bodyPost_ret (v := .tuple #[.agg #[.int .i64 0, .int .i64 0, .string ⟨#[]⟩, .slice none 0 0], .int .i64 0]) (by simp [results, Try.results25, go_sem, k0, k1, k2, k3]) rfl hp
  · have hshi : ¬ (L : Int) < 1 + (kk : Int) := by have := hrl.out; omega
    obtain ⟨F, hFe⟩ : ∃ F, r.take kk = F := ⟨_, rfl⟩
    have hFl : F.length = kk := by rw [← hFe, List.length_take]; omega
    have hF0 : r.head? = F.head? := by
      rw [← hFe]
      cases r with
      | nil => simp
      | cons a q => cases kk with
        | zero => omega
        | succ n => simp
    obtain ⟨z, hz⟩ : ∃ z : Nat, (F[0]'(by omega)).toNat = z := ⟨_, rfl⟩
    have hFh : (F.head? = some 0) ↔ z = 0 := by
      rw [← hz]
      cases F with
      | nil => simp at hFl; omega
      | cons a q =>
        simp only [List.head?_cons, Option.some.injEq, List.getElem_cons_zero]
        constructor
        · rintro rfl; rfl
        · intro h; exact UInt8.toNat_inj.1 h
    have HX2 : Hid (rdHead (x :: r) = if val F < 56 ∨ z = 0 then none else some (kn, val F, r.drop kk)) := Lib.hid (by
      rw [HX0.out, if_neg hsh, hFe, hF0]; simp only [hFh])
    have HCF : Hid (∀ j (h : j < F.length), W1.cell? ⟨g, off + (j + 1), none⟩ = some (.int .u8 (F[j].toNat : Int))) := Lib.hid fun j h => by
      rw [HCL.out j (by omega)]
      congr 2
      subst hFe
      simp
    have d1 : W1.cell? ⟨g, off + 1, none⟩ = some (.int .u8 (z : Int)) := by have := HCF.out 0 (by omega); rw [hz] at this; exact this
    have hL1 : (1 : Int) < (L : Int) := by omega
    have HFV : Hid (∀ m, m ≤ kk → val (F.take m) < 18446744073709551616) := Lib.hid fun m hm => by
      have h1 := val_lt (F.take m)
      have h2 : 256 ^ (F.take m).length ≤ 256 ^ 8 := Nat.pow_le_pow_right (by omega) (by rw [List.length_take]; omega)
      have h3 : (256 : Nat) ^ 8 = 18446744073709551616 := rfl
      omega
    have HFE := Lib.hid hFe
    have HFLn := Lib.hid hFl
    have hsh2 := Lib.hid hsh
    clear hFe hF0 hz hFh hsh
    by_cases hz0 : z = 0
    · subst hz0
      have HF := Lib.hid (HFL.out (by rw [HX2.out, if_pos (.inr rfl)]))
      go_wp2_with fail
      obtain ⟨W4, hW4⟩ : ∃ W4, W4 = (((W1.setCell ⟨N, 0, none⟩ (.int .i64 0)).setCell ⟨N, 1, none⟩ (.int .i64 0)).setCell ⟨N, 2, none⟩ (.string ⟨#[]⟩)).setCell ⟨N, 3, none⟩ (.slice none 0 0) := ⟨_, rfl⟩
      rw [← hW4]
      obtain ⟨⟨k0, k1, k2, k3⟩, hp⟩ := HF.out W4 hW4
      clear hW4
      exact bodyPost_ret (v := .tuple #[.agg #[.int .i64 0, .int .i64 0, .string ⟨#[]⟩, .slice none 0 0], .int .i64 0]) (by simp [results, Try.results25, go_sem, k0, k1, k2, k3]) rfl hp
    · have hz1 : ¬ (z : Int) = 0 := by omega
      have hzb : ((z : Int) == 0) = false := by simpa using hz1
      go_upto_region 10 with fail
      go_wp2_with fail
      go_loopw [7, 10] (fun a b wr => ∃ j : Nat, j ≤ kk ∧ a = .int .u64 (val (F.take j) : Int) ∧ b = .int .i64 ((j : Int) + 1) ∧ W1 = wr)
        (fun _ b _ => kk + 1 - (intOf b).toNat)
      case atStart => exact ⟨0, Nat.zero_le _, by simp [val], by simp, rfl⟩
      case round =>
        obtain ⟨j, hj, rfl, rfl, rfl⟩ := hrel
        by_cases hlt : j < kk
        · have hlti : (j : Int) + 1 ≤ (kk : Int) := by omega
          have hjL : (j : Int) + 1 < (L : Int) := by omega
          have hjf : j < F.length := by have := HFLn.out; omega
          obtain ⟨v, hv⟩ : ∃ v, val (F.take j) = v := ⟨_, rfl⟩
          obtain ⟨zz, hzz⟩ : ∃ zz : Nat, F[j].toNat = zz := ⟨_, rfl⟩
          have hnx := HFV.out (j + 1) (by omega)
          have HNX : Hid (val (F.take (j + 1)) = v * 256 + zz) := Lib.hid (by rw [val_take hjf, hv, hzz])
          rw [HNX.out] at hnx
          have dj : W1.cell? ⟨g, off + (j + 1), none⟩ = some (.int .u8 (zz : Int)) := by rw [← hzz]; exact HCF.out j hjf
          have hv1 : 256 * (v : Int) + (zz : Int) ≤ 18446744073709551615 := by omega
          have hv2 : 256 * (v : Int) ≤ 18446744073709551615 := by omega
          rw [hv]
          clear hv hzz hjf hnx
          go_wp2_with fail
          go_roundw
          case rel => exact ⟨j + 1, by omega, by rw [HNX.out]; congr 1; push_cast; omega, by push_cast; rfl, trivial⟩
          case measure => simp [intOf]; omega
        · have hlti : ¬ (j : Int) + 1 ≤ (kk : Int) := by omega
          obtain rfl : j = kk := by omega
          have hFt : F.take j = F := List.take_of_length_le (by have := HFLn.out; omega)
          rw [hFt]
          obtain ⟨n, hn⟩ : ∃ n, val F = n := ⟨_, rfl⟩
          have hn64' : n < 18446744073709551616 := by have := HFV.out j (Nat.le_refl _); rw [hFt, hn] at this; exact this
          rw [hn]
          have HN64 : Hid ((n : Int) ≤ 18446744073709551615) := Lib.hid (by omega)
          have hnI : (n : Int) ≤ 18446744073709551615 := HN64.out
          by_cases hsm : n < 56
          · have hsmi : (n : Int) < 56 := by omega
            have HF := Lib.hid (HFL.out (by rw [HX2.out, if_pos (.inl (hn ▸ hsm))]))
            clear hsm hn hFt
            go_wp2_with fail
            obtain ⟨W4, hW4⟩ : ∃ W4, W4 = (((W1.setCell ⟨N, 0, none⟩ (.int .i64 0)).setCell ⟨N, 1, none⟩ (.int .i64 0)).setCell ⟨N, 2, none⟩ (.string ⟨#[]⟩)).setCell ⟨N, 3, none⟩ (.slice none 0 0) := ⟨_, rfl⟩
            rw [← hW4]
            obtain ⟨⟨k0, k1, k2, k3⟩, hp⟩ := HF.out W4 hW4
            clear hW4
            exact bodyPost_ret (v := .tuple #[.agg #[.int .i64 0, .int .i64 0, .string ⟨#[]⟩, .slice none 0 0], .int .i64 0]) (by simp [results, Try.results25, go_sem, k0, k1, k2, k3]) rfl hp
          · have hsmi : ¬ (n : Int) < 56 := by omega
            obtain ⟨rr, hrr⟩ : ∃ rr, r.drop j = rr := ⟨_, rfl⟩
            obtain ⟨at0, hat0⟩ : ∃ at0, j + 1 = at0 := ⟨_, rfl⟩
            have haI : 1 + (j : Int) = (at0 : Int) := by omega
            have HX : Hid (rdHead (x :: r) = some (kn, n, rr)) := Lib.hid (by rw [HX2.out, hn, if_neg (by rintro (h | h) <;> omega), hrr])
            have HLR : Hid ((L : Int) = (at0 : Int) + (rr.length : Int)) := Lib.hid (by have h1 := hrl.out; have h2 := hsh2.out; rw [← hrr, List.length_drop]; omega)
            have HDR0 : Hid ((x :: r).drop at0 = rr) := Lib.hid (by rw [← hat0, List.drop_succ_cons, hrr])
            have HBR : Hid (BytAt W1 W1.heap.size (some ⟨g, off + at0, none⟩) rr) := Lib.hid (by have := HBT.out.drop at0; rwa [HDR0.out] at this)
            clear hsm hn hFt hrr f0 f1 f2 f3 d1
            go_upto_region 16 with fail
            rw [haI]
            have hn64 : (n : Int) ≤ 18446744073709551615 := HN64.out
            have HBZ : Hid (Box4 W1 N (.int .i64 0) (.int .i64 0) (.string ⟨#[]⟩) (.slice none 0 0)) := Lib.hid ⟨z0, z1, z2, z3, HZ.out⟩
            clear z0 z1 z2 z3
            rcases hk3 with rfl | rfl | rfl
            · have hO1 : OutS W1 W1 (N + 1) 24 1 0 ⟨#[]⟩ (.slice none 0 0) [] := hO
              have c0 := hO1.c0
              have c1 := hO1.c1
              have c2 := hO1.c2
              have c3 := hO1.c3
              have g1 := hO1.free 1
              have HB0 := Lib.hid hO1.box
              have HV := Lib.hid (rd_k1 (e := e) HX.out)
              clear hO hO1
              by_cases hp : n % 2 = 1
              · have hp1 : (n : Int) % 2 = 1 := by omega
                have HI : Hid (intg n = (-((n : Int) / 2) - 1)) := Lib.hid (by unfold intg; rw [if_pos hp]; push_cast; rfl)
                clear hp
                go_upto_region 36 with fail
                obtain ⟨W2, hW2⟩ : ∃ W2, W2 = ((W1.setCell ⟨N + 1, 1, none⟩ (.int .i64 ((n : Int) / 2))).setCell ⟨N + 1, 1, none⟩ (.int .i64 (-((n : Int) / 2) - 1))) := ⟨_, rfl⟩
                rw [← hW2]
                have hx2 : Box4 W2 (N + 1) (.int .i64 1) (.int .i64 (-((n : Int) / 2) - 1)) (.string ⟨#[]⟩) (.slice none 0 0) := by rw [hW2]; exact (HB0.out.set1 _).set1 _
                have hz2 : Box4 W2 N (.int .i64 0) (.int .i64 0) (.string ⟨#[]⟩) (.slice none 0 0) := by rw [hW2]; exact (HBZ.out.other (by omega) _).other (by omega) _
                have hb2 : Below w.heap.size w W2 := by rw [hW2]; exact (HB1.out.setCell (by have := HN.out; show _ ≤ N + 1; omega) _).setCell (by have := HN.out; show _ ≤ N + 1; omega) _
                clear hW2 c0 c1 c2 c3 g1
                have c0 := hx2.c0
                have c1 := hx2.c1
                have c2 := hx2.c2
                have c3 := hx2.c3
                have z0 := hz2.c0
                have z1 := hz2.c1
                have z2 := hz2.c2
                have z3 := hz2.c3
                have f0 := hz2.free 0
                have f1 := hz2.free 1
                have f2 := hz2.free 2
                have f3 := hz2.free 3
                have HF := Lib.hid (rread_made (b := x :: r) (q := (at0 : Int)) (sb := ⟨#[]⟩) (A := none) (n := 0) (c := 0) HV.out (by rw [HL.out]; have := HLR.out; omega) rfl rfl ⟨by omega, by omega⟩ (by rw [HI.out]; exact ⟨by omega, by omega⟩) (by simp) (by simp) (.inl rfl) (fun _ => rfl) HN.out hb2 z0 z1 z2 z3)
                rw [HI.out] at HF
                clear hx2 hz2 hb2
                go_wp2_with fail
                obtain ⟨W4, hW4⟩ : ∃ W4, W4 = (((W2.setCell ⟨N, 0, none⟩ (.int .i64 1)).setCell ⟨N, 1, none⟩ (.int .i64 (-((n : Int) / 2) - 1))).setCell ⟨N, 2, none⟩ (.string ⟨#[]⟩)).setCell ⟨N, 3, none⟩ (.slice none 0 0) := ⟨_, rfl⟩
                rw [← hW4]
                obtain ⟨⟨k0, k1, k2, k3⟩, hp⟩ := HF.out W4 hW4
                clear hW4
                exact bodyPost_ret (v := .tuple #[.agg #[.int .i64 1, .int .i64 (-((n : Int) / 2) - 1), .string ⟨#[]⟩, .slice none 0 0], .int .i64 (at0 : Int)]) (by simp [results, Try.results25, go_sem, k0, k1, k2, k3]) rfl hp
              · have hp1 : (n : Int) % 2 = 0 := by omega
                have HI : Hid (intg n = ((n : Int) / 2)) := Lib.hid (by unfold intg; rw [if_neg hp]; push_cast; rfl)
                clear hp
                go_upto_region 36 with fail
                obtain ⟨W2, hW2⟩ : ∃ W2, W2 = (W1.setCell ⟨N + 1, 1, none⟩ (.int .i64 ((n : Int) / 2))) := ⟨_, rfl⟩
                rw [← hW2]
                have hx2 : Box4 W2 (N + 1) (.int .i64 1) (.int .i64 ((n : Int) / 2)) (.string ⟨#[]⟩) (.slice none 0 0) := by rw [hW2]; exact HB0.out.set1 _
                have hz2 : Box4 W2 N (.int .i64 0) (.int .i64 0) (.string ⟨#[]⟩) (.slice none 0 0) := by rw [hW2]; exact HBZ.out.other (by omega) _
                have hb2 : Below w.heap.size w W2 := by rw [hW2]; exact HB1.out.setCell (by have := HN.out; show _ ≤ N + 1; omega) _
                clear hW2 c0 c1 c2 c3 g1
                have c0 := hx2.c0
                have c1 := hx2.c1
                have c2 := hx2.c2
                have c3 := hx2.c3
                have z0 := hz2.c0
                have z1 := hz2.c1
                have z2 := hz2.c2
                have z3 := hz2.c3
                have f0 := hz2.free 0
                have f1 := hz2.free 1
                have f2 := hz2.free 2
                have f3 := hz2.free 3
                have HF := Lib.hid (rread_made (b := x :: r) (q := (at0 : Int)) (sb := ⟨#[]⟩) (A := none) (n := 0) (c := 0) HV.out (by rw [HL.out]; have := HLR.out; omega) rfl rfl ⟨by omega, by omega⟩ (by rw [HI.out]; exact ⟨by omega, by omega⟩) (by simp) (by simp) (.inl rfl) (fun _ => rfl) HN.out hb2 z0 z1 z2 z3)
                rw [HI.out] at HF
                clear hx2 hz2 hb2
                go_wp2_with fail
                obtain ⟨W4, hW4⟩ : ∃ W4, W4 = (((W2.setCell ⟨N, 0, none⟩ (.int .i64 1)).setCell ⟨N, 1, none⟩ (.int .i64 ((n : Int) / 2))).setCell ⟨N, 2, none⟩ (.string ⟨#[]⟩)).setCell ⟨N, 3, none⟩ (.slice none 0 0) := ⟨_, rfl⟩
                rw [← hW4]
                obtain ⟨⟨k0, k1, k2, k3⟩, hp⟩ := HF.out W4 hW4
                clear hW4
                exact bodyPost_ret (v := .tuple #[.agg #[.int .i64 1, .int .i64 ((n : Int) / 2), .string ⟨#[]⟩, .slice none 0 0], .int .i64 (at0 : Int)]) (by simp [results, Try.results25, go_sem, k0, k1, k2, k3]) rfl hp
            · have hO1 : OutS W1 W1 (N + 1) 24 2 0 ⟨#[]⟩ (.slice none 0 0) [] := hO
              have c0 := hO1.c0
              have c1 := hO1.c1
              have c2 := hO1.c2
              have c3 := hO1.c3
              have g2 := hO1.free 2
              have HB0 := Lib.hid hO1.box
              clear hO hO1
              have h0 := HLR.out
              have hLr : (L : Int) - (at0 : Int) = (rr.length : Int) := by omega
              have hRl : (rr.length : Int) ≤ 3000 := by omega
              by_cases hlt : rr.length < n
              · have hlti : (rr.length : Int) < (n : Int) := by omega
                have HV := Lib.hid (rd_k2f (e := e) HX.out hlt)
                clear hlt h0
                have z0 := HBZ.out.c0
                have z1 := HBZ.out.c1
                have z2 := HBZ.out.c2
                have z3 := HBZ.out.c3
                have f0 := HBZ.out.free 0
                have f1 := HBZ.out.free 1
                have f2 := HBZ.out.free 2
                have f3 := HBZ.out.free 3
                have HF := Lib.hid (rread_fail (l := x :: r) HV.out HN.out HB1.out z0 z1 z2 z3)
                go_wp2_with fail
                obtain ⟨W4, hW4⟩ : ∃ W4, W4 = (((W1.setCell ⟨N, 0, none⟩ (.int .i64 0)).setCell ⟨N, 1, none⟩ (.int .i64 0)).setCell ⟨N, 2, none⟩ (.string ⟨#[]⟩)).setCell ⟨N, 3, none⟩ (.slice none 0 0) := ⟨_, rfl⟩
                rw [← hW4]
                obtain ⟨⟨k0, k1, k2, k3⟩, hp⟩ := HF.out W4 hW4
                clear hW4
                exact bodyPost_ret (v := .tuple #[.agg #[.int .i64 0, .int .i64 0, .string ⟨#[]⟩, .slice none 0 0], .int .i64 0]) (by simp [results, Try.results25, go_sem, k0, k1, k2, k3]) rfl hp
              · have hlti : ¬ (rr.length : Int) < (n : Int) := by omega
                have hlti2 : (at0 : Int) + (n : Int) ≤ (L : Int) := by omega
                have hlti3 : (at0 : Int) + (n : Int) ≤ (c : Int) := by omega
                have HV := Lib.hid (rd_k2 (e := e) HX.out hlt)
                obtain ⟨sT, hsT⟩ : ∃ sT : ByteArray, sT = ⟨(rr.take n).toArray⟩ := ⟨_, rfl⟩
                have HST : Hid (sT.data.toList = rr.take n) := Lib.hid (by rw [hsT])
                have hTl : (rr.take n).length = n := by rw [List.length_take]; omega
                have HTL := Lib.hid hTl
                have HDL : Hid ((rr.drop n).length = rr.length - n) := Lib.hid (by rw [List.length_drop])
                have hn3 : n ≤ 3000 := by omega
                by_cases hc1 : c = at0
                · exact absurd hsmi (by omega)
                · have cv : (convert 31 9 (.slice (some ⟨g, off + at0, none⟩) n (c - at0))).run Try.prog W1 = .ok (.string sT) W1 := by
                    have := (HBR.out.take n).conv (fun h => by cases h) (c - at0)
                    rw [hTl, ← hsT] at this
                    exact this
                  clear hlt h0 hsT hTl
                  go_upto_region 36 with fail
                  obtain ⟨W2, hW2⟩ : ∃ W2, W2 = W1.setCell ⟨N + 1, 2, none⟩ (.string sT) := ⟨_, rfl⟩
                  rw [← hW2]
                  have hx2 : Box4 W2 (N + 1) (.int .i64 2) (.int .i64 0) (.string sT) (.slice none 0 0) := by rw [hW2]; exact HB0.out.set2 _
                  have hz2 : Box4 W2 N (.int .i64 0) (.int .i64 0) (.string ⟨#[]⟩) (.slice none 0 0) := by rw [hW2]; exact HBZ.out.other (by omega) _
                  have hb2 : Below w.heap.size w W2 := by rw [hW2]; exact HB1.out.setCell (by have := HN.out; show _ ≤ N + 1; omega) _
                  clear hW2 c0 c1 c2 c3 g2
                  have c0 := hx2.c0
                  have c1 := hx2.c1
                  have c2 := hx2.c2
                  have c3 := hx2.c3
                  have z0 := hz2.c0
                  have z1 := hz2.c1
                  have z2 := hz2.c2
                  have z3 := hz2.c3
                  have f0 := hz2.free 0
                  have f1 := hz2.free 1
                  have f2 := hz2.free 2
                  have f3 := hz2.free 3
                  have HF := Lib.hid (rread_made (b := x :: r) (q := (at0 : Int) + (n : Int)) (sb := sT) (A := none) (n := 0) (c := 0) HV.out (by rw [HL.out, HDL.out]; have := HLR.out; omega) rfl HST.out ⟨by omega, by omega⟩ ⟨by omega, by omega⟩ (by rw [HTL.out]; omega) (by simp) (.inl rfl) (fun _ => rfl) HN.out hb2 z0 z1 z2 z3)
                  clear hx2 hz2 hb2
                  go_wp2_with fail
                  obtain ⟨W4, hW4⟩ : ∃ W4, W4 = (((W2.setCell ⟨N, 0, none⟩ (.int .i64 2)).setCell ⟨N, 1, none⟩ (.int .i64 0)).setCell ⟨N, 2, none⟩ (.string sT)).setCell ⟨N, 3, none⟩ (.slice none 0 0) := ⟨_, rfl⟩
                  rw [← hW4]
                  obtain ⟨⟨k0, k1, k2, k3⟩, hp⟩ := HF.out W4 hW4
                  clear hW4
                  exact bodyPost_ret (v := .tuple #[.agg #[.int .i64 2, .int .i64 0, .string sT, .slice none 0 0], .int .i64 ((at0 : Int) + (n : Int))]) (by simp [results, Try.results25, go_sem, k0, k1, k2, k3]) rfl hp
            · have hO1 : OutS W1 W1 (N + 1) 24 3 0 ⟨#[]⟩ (.slice none 0 0) [] := hO
              have c0 := hO1.c0
              have HO := Lib.hid hO1
              have h0 := HLR.out
              have hLr : (L : Int) - (at0 : Int) = (rr.length : Int) := by omega
              have hRl : (rr.length : Int) ≤ 3000 := by omega
              have h3 := rd_k3 (e := e) HX.out
              clear hO hO1
              by_cases hlt : rr.length < n
              · have hlti : (rr.length : Int) < (n : Int) := by omega
                have HV : Hid (rd (e + 1) (x :: r) = none) := Lib.hid (by rw [h3, rdN_more (by omega) hlt])
                clear hlt h0 h3
                have z0 := HBZ.out.c0
                have z1 := HBZ.out.c1
                have z2 := HBZ.out.c2
                have z3 := HBZ.out.c3
                have f0 := HBZ.out.free 0
                have f1 := HBZ.out.free 1
                have f2 := HBZ.out.free 2
                have f3 := HBZ.out.free 3
                have HF := Lib.hid (rread_fail (l := x :: r) HV.out HN.out HB1.out z0 z1 z2 z3)
                go_wp2_with fail
                obtain ⟨W4, hW4⟩ : ∃ W4, W4 = (((W1.setCell ⟨N, 0, none⟩ (.int .i64 0)).setCell ⟨N, 1, none⟩ (.int .i64 0)).setCell ⟨N, 2, none⟩ (.string ⟨#[]⟩)).setCell ⟨N, 3, none⟩ (.slice none 0 0) := ⟨_, rfl⟩
                rw [← hW4]
                obtain ⟨⟨k0, k1, k2, k3⟩, hp⟩ := HF.out W4 hW4
                clear hW4
                exact bodyPost_ret (v := .tuple #[.agg #[.int .i64 0, .int .i64 0, .string ⟨#[]⟩, .slice none 0 0], .int .i64 0]) (by simp [results, Try.results25, go_sem, k0, k1, k2, k3]) rfl hp
              · have hlti : ¬ (rr.length : Int) < (n : Int) := by omega
                have hnn : n ≤ 3000 := by omega
                have HV : Hid (rd (e + 1) (x :: r) = toList3 (comb [] (rdN (rd e) n rr))) := Lib.hid (by rw [h3]; cases rdN (rd e) n rr with | none => rfl | some p => rfl)
                clear hlt h0 h3
                go_upto_region 19 with fail
                go_wp2_with fail
                obtain ⟨i0, hi0, hz0, hz1, hz2⟩ := info_parts info_rval
                go_loopw [8, 11] (fun a b wr => ∃ (j at_ : Nat) (rest : List UInt8) (L3 : List T) (vO : Value), j ≤ n ∧ a = .int .i64 at_ ∧ b = .int .i64 j ∧ OutS W1 wr (N + 1) 24 3 0 ⟨#[]⟩ vO L3 ∧ L3.length = j ∧ at_ + rest.length = L ∧
                    Hid ((x :: r).drop at_ = rest) ∧ Hid (rd (e + 1) (x :: r) = toList3 (comb L3 (rdN (rd e) (n - j) rest))))
                  (fun _ b _ => n - (intOf b).toNat)
                case atStart => exact ⟨0, at0, rr, [], .slice none 0 0, Nat.zero_le _, rfl, rfl, HO.out, rfl, by have := HLR.out; omega, HDR0, Lib.hid (by rw [HV.out, Nat.sub_zero])⟩
                case round =>
                  obtain ⟨j, at_, rest, L3, vO, hj, rfl, rfl, hS, hlj, hat, HDR, HEQ⟩ := hrel
                  have hB := hS.below
                  have HNw : Hid (N < wr.heap.size) := Lib.hid (by have := hB.size; omega)
                  have HZr : Hid (Box4 wr N (.int .i64 0) (.int .i64 0) (.string ⟨#[]⟩) (.slice none 0 0)) := Lib.hid (HBZ.out.go hB (by omega))
                  have HBw : Hid (Below w.heap.size w wr) := Lib.hid (HB1.out.trans (hB.mono (by have := HN.out; omega)))
                  have HBR2 : Hid (BytAt wr wr.heap.size (some ⟨g, off + at_, none⟩) rest) := Lib.hid (by
                    have := (((HBN.out.drop at_).keep fun b o x hlt hx => old_cell hB hx hlt).mono (n1 := wr.heap.size) (by have := HNw.out; omega))
                    rwa [HDR.out] at this)
                  obtain ⟨OA, Oc, rfl, OA0, hOA⟩ := hS.grows.at
                  rw [hlj] at hS
                  by_cases hlt : j < n
                  · have hltI : (j : Int) < (n : Int) := by omega
                    have hatc : at_ ≤ c := by omega
                    have hati : (at_ : Int) ≤ (L : Int) := by omega
                    by_cases hca : c = at_
                    · obtain rfl : rest = [] := List.eq_nil_of_length_eq_zero (by omega)
                      obtain rfl : L = at_ := by simpa using hat.symm
                      subst hca
                      have HVN : Hid (rd (e + 1) (x :: r) = none) := Lib.hid (by rw [HEQ.out, show n - j = (n - j - 1) + 1 by omega, comb_stop (rd_nil e)]; rfl)
                      have HC : Hid (Calls Try.prog 25 #[.slice (some ⟨g, off, none⟩) 0 0, .int .i64 (e : Int)] wr (RReadR wr [] none)) := Lib.hid (rd_nil e ▸ IH.out [] (some ⟨g, off, none⟩) 0 wr (.inl rfl) (Nat.le_refl _) (by omega) (fun h => by cases h) (by simp))
                      clear hS hB hOA HEQ hlt
                      go_wp2_with (first
                        | (go_at_call 25; refine HC.out.mono ?_; rintro e' w1 ⟨hbq, rfl⟩
                           have hbn := below_new w1 (.cells #[.int .i64 0, .int .i64 0, .string ⟨#[]⟩, .slice none 0 0] 24)
                           have hz2 := (HZr.out.go hbq HNw.out).go hbn (Nat.lt_of_lt_of_le HNw.out hbq.size)
                           have z0 := hz2.c0
                           have z1 := hz2.c1
                           have z2 := hz2.c2
                           have z3 := hz2.c3
                           have f0 := hz2.free 0
                           have f1 := hz2.free 1
                           have f2 := hz2.free 2
                           have f3 := hz2.free 3
                           have HF := Lib.hid (rread_fail (l := x :: r) HVN.out HN.out (below_self (below_self HBw.out hbq) hbn) z0 z1 z2 z3)
                           clear hbq hbn hz2)
                        | fail)
                      obtain ⟨W4, hW4⟩ : ∃ W4, W4 = ((((w1.alloc (.cells #[.int .i64 0, .int .i64 0, .string ⟨#[]⟩, .slice none 0 0] 24)).setCell ⟨N, 0, none⟩ (.int .i64 0)).setCell ⟨N, 1, none⟩ (.int .i64 0)).setCell ⟨N, 2, none⟩ (.string ⟨#[]⟩)).setCell ⟨N, 3, none⟩ (.slice none 0 0) := ⟨_, rfl⟩
                      rw [← hW4]
                      obtain ⟨⟨k0, k1, k2, k3⟩, hp⟩ := HF.out W4 hW4
                      clear hW4
                      exact bodyPost_ret (v := .tuple #[.agg #[.int .i64 0, .int .i64 0, .string ⟨#[]⟩, .slice none 0 0], .int .i64 0]) (by simp [results, Try.results25, go_sem, k0, k1, k2, k3]) rfl hp
                    · have hlc : rest.length ≤ c - at_ := by omega
                      have hre : rest.length = L - at_ := by omega
                      have HC0 := IH.out rest (some ⟨g, off + at_, none⟩) (c - at_) wr HBR2.out hlc (by omega) (fun h => by cases h) (by omega)
                      rw [hre] at HC0
                      cases hx : rd e rest with
                      | none =>
                        have HVN : Hid (rd (e + 1) (x :: r) = none) := Lib.hid (by rw [HEQ.out, show n - j = (n - j - 1) + 1 by omega, comb_stop hx]; rfl)
                        rw [hx] at HC0
                        have HC := Lib.hid HC0
                        clear hx HC0 hS hB hOA HEQ hlt hre
                        go_wp2_with (first
                          | (go_at_call 25; refine HC.out.mono ?_; rintro e' w1 ⟨hbq, rfl⟩
                             have hbn := below_new w1 (.cells #[.int .i64 0, .int .i64 0, .string ⟨#[]⟩, .slice none 0 0] 24)
                             have hz2 := (HZr.out.go hbq HNw.out).go hbn (Nat.lt_of_lt_of_le HNw.out hbq.size)
                             have z0 := hz2.c0
                             have z1 := hz2.c1
                             have z2 := hz2.c2
                             have z3 := hz2.c3
                             have f0 := hz2.free 0
                             have f1 := hz2.free 1
                             have f2 := hz2.free 2
                             have f3 := hz2.free 3
                             have HF := Lib.hid (rread_fail (l := x :: r) HVN.out HN.out (below_self (below_self HBw.out hbq) hbn) z0 z1 z2 z3)
                             clear hbq hbn hz2)
                          | fail)
                        obtain ⟨W4, hW4⟩ : ∃ W4, W4 = ((((w1.alloc (.cells #[.int .i64 0, .int .i64 0, .string ⟨#[]⟩, .slice none 0 0] 24)).setCell ⟨N, 0, none⟩ (.int .i64 0)).setCell ⟨N, 1, none⟩ (.int .i64 0)).setCell ⟨N, 2, none⟩ (.string ⟨#[]⟩)).setCell ⟨N, 3, none⟩ (.slice none 0 0) := ⟨_, rfl⟩
                        rw [← hW4]
                        obtain ⟨⟨k0, k1, k2, k3⟩, hp⟩ := HF.out W4 hW4
                        clear hW4
                        exact bodyPost_ret (v := .tuple #[.agg #[.int .i64 0, .int .i64 0, .string ⟨#[]⟩, .slice none 0 0], .int .i64 0]) (by simp [results, Try.results25, go_sem, k0, k1, k2, k3]) rfl hp
                      | some p =>
                        obtain ⟨t1, r1⟩ := p
                        have hsh := rd_shorter (by omega) hx
                        have HEQ2 : Hid (rd (e + 1) (x :: r) = toList3 (comb (L3 ++ [t1]) (rdN (rd e) (n - (j + 1)) r1))) := Lib.hid (by rw [HEQ.out, show n - j = (n - (j + 1)) + 1 by omega, comb_next hx])
                        obtain ⟨u, hu⟩ : ∃ u, rest.length - r1.length = u := ⟨_, rfl⟩
                        have HDR2 : Hid ((x :: r).drop (at_ + u) = r1) := Lib.hid (by
                          have e1 := (enc_rd e rest t1 r1 (by omega) hx).1
                          have e2 : rest.drop u = r1 := by rw [← hu]; conv => lhs; rw [e1]
                                                           simp
                          rw [← List.drop_drop, HDR.out, e2])
                        rw [hx] at HC0
                        have HC : Hid (Calls Try.prog 25 #[.slice (some ⟨g, off + at_, none⟩) (L - at_) (c - at_), .int .i64 (e : Int)] wr fun e' w' => ∃ (a i : Int) (sb : ByteArray) (A : Option Addr) (m c2 : Nat), e' = .returned (.tuple #[.agg #[.int .i64 a, .int .i64 i, .string sb, .slice A m c2], .int .i64 (u : Int)]) ∧
                            Lies w' (fun b => wr.heap.size ≤ b ∧ b < w'.heap.size) t1 (.agg #[.int .i64 a, .int .i64 i, .string sb, .slice A m c2]) ∧ Below wr.heap.size wr w') := Lib.hid (HC0.mono fun e' w' h => by
                          obtain ⟨hb, a, i, sb, A, m, c2, he, hL⟩ := h
                          rw [hu] at he
                          exact ⟨a, i, sb, A, m, c2, he, hL, hb⟩)
                        have hu1 : ¬ (u : Int) = 0 := by omega
                        have hub : ((u : Int) == 0) = false := by simpa using hu1
                        have hatu : at_ + u + r1.length = L := by omega
                        have HS1 := Lib.hid hS
                        have HLJ := Lib.hid hlj
                        have o3 : wr.cell? ⟨N + 1, 3, none⟩ = some (.slice OA j Oc) := hS.c3
                        have hj3 : j ≤ 3000 := by omega
                        clear hx HC0 hS hB hOA HEQ hre hlj hu hsh
                        go_wp2_with (first
                          | (go_at_call 25; refine HC.out.mono ?_; rintro e' w1 ⟨a, i', sb', A', m, c', rfl, hLq, hbq⟩
                             have hbn := below_new w1 (.cells #[.int .i64 a, .int .i64 i', .string sb', .slice A' m c'] 24)
                             have hbm := below_new (w1.alloc (.cells #[.int .i64 a, .int .i64 i', .string sb', .slice A' m c'] 24)) (.cells #[.int .i64 a, .int .i64 i', .string sb', .slice A' m c'] 24)
                             have HSq := Lib.hid (HS1.out.go hbq)
                             have HS2 := Lib.hid (HSq.out.go hbn)
                             have HS3 := Lib.hid (HS2.out.go hbm)
                             have q1 : (w1.alloc (.cells #[.int .i64 a, .int .i64 i', .string sb', .slice A' m c'] 24)).cell? ⟨N + 1, 3, none⟩ = some (.slice OA j Oc) := HS2.out.c3
                             have q2 : ((w1.alloc (.cells #[.int .i64 a, .int .i64 i', .string sb', .slice A' m c'] 24)).alloc (.cells #[.int .i64 a, .int .i64 i', .string sb', .slice A' m c'] 24)).cell? ⟨N + 1, 3, none⟩ = some (.slice OA j Oc) := HS3.out.c3
                             have HLL := Lib.hid (((Lies.mono hLq fun b hb => (⟨Nat.lt_of_lt_of_le HS1.out.lt hb.1, hb.2, HS1.out.grows.own_lt hb.1⟩ : N + 1 < b ∧ b < w1.heap.size ∧ some b ≠ (Value.slice OA j Oc).ownBlock)).below hbn).below hbm)
                             have hs3 : (w1.alloc (.cells #[.int .i64 a, .int .i64 i', .string sb', .slice A' m c'] 24)).heap.size = w1.heap.size + 1 := size_new rfl _
                             have hX3 := HS3.out.lt
                             have hXw : N + 1 ≤ (w1.alloc (.cells #[.int .i64 a, .int .i64 i', .string sb', .slice A' m c'] 24)).heap.size := Nat.le_of_lt HS2.out.lt
                             obtain ⟨cells, hown⟩ := HS3.out.grows.owns HLJ.out
                             clear hbq hbn hbm hLq)
                          | (at_builtin; refine wpList_append_own_at _ rfl _ _ 22 rfl (N + 1 + 1) 24 i0 _ 4 56 Try.underlying22 hi0 hz0 hz1 hz2 rfl (by decide) (.slice OA j Oc) j cells rfl hown ⟨w1.heap.size + 1, 0, none⟩ 1 1 [_, _, _, _] rfl rfl (four_new hs3 _ _ _ _ _) ?c2 ?c3 ?c4 ?c5 ?_)
                          | fail)
                        case c2 => intro u hu; simp at hu; rcases hu with rfl | rfl | rfl | rfl <;> rfl
                        case c3 => unfold maxLen; omega
                        case c4 => omega
                        case c5 => exact hX3
                        intro v2 w2 hown2 hgrow _ hat2
                        have hf : ∃ A2 c2, v2 = .slice A2 (j + 1) c2 := by
                          rcases hown2.2 with ⟨e1, e2⟩ | ⟨g, cap, cur, e1, _⟩
                          · omega
                          · exact ⟨_, _, e1⟩
                        obtain ⟨A2, c2', rfl⟩ := hf
                        have q3 : w2.cell? ⟨N + 1, 3, none⟩ = some (.slice OA j Oc) := (HS3.out.grown hgrow).2.2.2.1
                        have qf : w2.frozen? ⟨N + 1, 3, none⟩ = false := (HS3.out.grown hgrow).2.2.2.2 3
                        have hNx := HS3.out.next (HLL.out.mono fun b hb => ⟨hb.1, Nat.lt_of_lt_of_le hb.2.1 (by rw [size_new (size_new rfl _) _]; omega), hb.2.2⟩) (fun cells' h' => by
                          rw [HLJ.out] at h' ⊢
                          rw [← own_unique hown h']
                          exact hown2) hgrow (by rcases hat2 with e | e
                                                 · exact .inl e
                                                 · exact .inr (e.trans (by rw [size_new (size_new rfl _) _])))
                        have HNX := Lib.hid hNx
                        clear hown2 hgrow hat2 hown hNx
                        go_wp2_with fail
                        go_roundw
                        case rel => exact ⟨j + 1, at_ + u, r1, L3 ++ [t1], _, by omega, by go_num, by go_num, HNX.out, by rw [List.length_append, HLJ.out]; rfl, hatu, HDR2, HEQ2⟩
                        case measure => simp [intOf]; omega
                  · have hltI : ¬ (j : Int) < (n : Int) := by omega
                    obtain rfl : j = n := by omega
                    have HV2 : Hid (rd (e + 1) (x :: r) = some (.node 3 0 [] L3, rest)) := Lib.hid (by rw [HEQ.out, Nat.sub_self]; simp [rdN, comb, toList3])
                    have z0 := HZr.out.c0
                    have z1 := HZr.out.c1
                    have z2 := HZr.out.c2
                    have z3 := HZr.out.c3
                    have f0 := HZr.out.free 0
                    have f1 := HZr.out.free 1
                    have f2 := HZr.out.free 2
                    have f3 := HZr.out.free 3
                    have o0 : wr.cell? ⟨N + 1, 0, none⟩ = some (.int .i64 3) := hS.c0
                    have o1 : wr.cell? ⟨N + 1, 1, none⟩ = some (.int .i64 0) := hS.c1
                    have o2 := hS.c2
                    have o3 := hS.c3
                    have HF := Lib.hid (rread_made (b := x :: r) (q := (at_ : Int)) (sb := ⟨#[]⟩) (A := OA) (n := j) (c := Oc) HV2.out (by rw [HL.out]; omega) hlj rfl ⟨by omega, by omega⟩ ⟨by omega, by omega⟩ (by simp) (by omega) (hOA.map (fun b hb => ⟨by omega, hb.2⟩) (fun _ _ _ _ h => h)) OA0 HN.out HBw.out z0 z1 z2 z3)
                    clear hS hB hOA HEQ hlt
                    go_wp2_with fail
                    obtain ⟨W4, hW4⟩ : ∃ W4, W4 = (((wr.setCell ⟨N, 0, none⟩ (.int .i64 3)).setCell ⟨N, 1, none⟩ (.int .i64 0)).setCell ⟨N, 2, none⟩ (.string ⟨#[]⟩)).setCell ⟨N, 3, none⟩ (.slice OA j Oc) := ⟨_, rfl⟩
                    rw [← hW4]
                    obtain ⟨⟨k0, k1, k2, k3⟩, hp⟩ := HF.out W4 hW4
                    clear hW4
                    exact bodyPost_ret (v := .tuple #[.agg #[.int .i64 3, .int .i64 0, .string ⟨#[]⟩, .slice OA j Oc], .int .i64 (at_ : Int)]) (by simp [results, Try.results25, go_sem, k0, k1, k2, k3]) rfl hp
end Go.Proofs.Ytiababmfalnflaa.Cod

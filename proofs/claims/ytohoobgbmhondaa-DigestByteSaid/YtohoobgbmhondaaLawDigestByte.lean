/- DigestByte: for every bytes, change and two numbers the law returns true and turns nothing that lay in memory. No condition but the form's own reach. -/
import Derived.SevenTiedAt
import Derived.OpenShut
import Derived.Test.YtohoobgbmhondaaFrame
import Derived.Test.YtohoobgbmhondaaDigOwn
namespace Go.Proofs.Ytohoobgbmhondaa.digestByte
open Go Go.RowKit Go.WideShapes Go.ChangeShapes By

theorem upd_below {w : World} {A : Option Addr} {n c : Nat} {l : List UInt8} {U : Int} (h : Int) (hn : n = l.length) (hB : BytAt w w.heap.size A l) (hl : l.length ≤ 9223372036854775807) (hU : updI h l = U) :
    Calls Try.prog 19 #[.int .u64 h, .slice A n c] w fun e w' => e = .returned (.int .u64 U) ∧ Below w.heap.size w w' := by
  subst hU
  exact (upd_any h hn hB hl).mono fun e w' ⟨he, hw⟩ => ⟨he, hw ▸ Below.refl _ _⟩
set_option maxRecDepth 100000 in
set_option maxHeartbeats 2000000 in
theorem walk (l : List UInt8) (A : Option Addr) (c : Nat) (p q h0 h1 : Int) (w : World) (hl : l.length ≤ 140737488351232) (hB : BytAt w w.heap.size A l) (hp : 0 ≤ p ∧ p < 256) (hq : 0 ≤ q ∧ q < 256) (b0 : U64 h0) (b1 : U64 h1) :
    Calls Try.prog 9 #[.slice A l.length c, .agg #[.int .u8 p, .int .u8 q], .agg #[.int .u64 h0, .int .u64 h1]] w fun e w' => e = .returned (.bool true) ∧ Below w.heap.size w w' := by
  obtain ⟨pn, rfl⟩ : ∃ pn : Nat, p = pn := ⟨p.toNat, by omega⟩
  obtain ⟨x, hx⟩ : ∃ x : UInt8, q = (x.toNat : Int) := ⟨UInt8.ofNat q.toNat, by rw [UInt8.toNat_ofNat']; omega⟩
  subst hx
  have hp2 : (pn : Int) < 256 := hp.2
  obtain ⟨N, hN⟩ : ∃ N, w.heap.size = N := ⟨_, rfl⟩
  obtain ⟨Wa, hWa⟩ : ∃ W, W = w.alloc (.cells #[.int .u8 pn, .int .u8 (x.toNat : Int)] 54) := ⟨_, rfl⟩
  obtain ⟨W1, hW1⟩ : ∃ W, W = Wa.alloc (.cells #[.int .u64 h0, .int .u64 h1] 55) := ⟨_, rfl⟩
  have sa : Wa.heap.size = N + 1 := by rw [hWa]; exact size_new hN _
  have ba : Below w.heap.size w Wa := by rw [hWa]; exact below_new _ _
  have bb : Below Wa.heap.size Wa W1 := by rw [hW1]; exact below_new _ _
  have hB1 := below_self ba bb
  have a0 := keep_cell bb (show Wa.cell? ⟨N, 0, none⟩ = some (.int .u8 pn) by rw [hWa]; exact new_cell hN _ _ 0 rfl)
  have a1 := keep_cell bb (show Wa.cell? ⟨N, 1, none⟩ = some (.int .u8 (x.toNat : Int)) by rw [hWa]; exact new_cell hN _ _ 1 rfl)
  have e0 : W1.cell? ⟨N + 1, 0, none⟩ = some (.int .u64 h0) := by rw [hW1]; exact new_cell sa _ _ 0 rfl
  have e1 : W1.cell? ⟨N + 1, 1, none⟩ = some (.int .u64 h1) := by rw [hW1]; exact new_cell sa _ _ 1 rfl
  have HW : Hid (W1 = (w.alloc (.cells #[.int .u8 pn, .int .u8 (x.toNat : Int)] 54)).alloc (.cells #[.int .u64 h0, .int .u64 h1] 55)) := Lib.hid (by rw [hW1, hWa])
  have hdr := below_drew W1
  have HBA := Lib.hid (hB.below hB1)
  have HBB := Lib.hid hB1
  have heq := updI_eq b0 b1 l
  obtain ⟨U0, hU0⟩ : ∃ U, updI h0 l = U := ⟨_, rfl⟩
  obtain ⟨U1, hU1⟩ : ∃ U, updI h1 l = U := ⟨_, rfl⟩
  rw [hU0, hU1] at heq
  have HU0 := Lib.hid hU0
  have HU1 := Lib.hid hU1
  obtain ⟨Q, hQ⟩ : ∃ Q, (h0 == h1) = Q := ⟨_, rfl⟩
  rw [hQ] at heq
  have hl2 : (l.length : Int) ≤ 140737488351232 := by omega
  have HL : Hid (l.length ≤ 9223372036854775807) := Lib.hid (by omega)
  have HN := Lib.hid hN
  clear hB1 ba bb hWa hW1 hB hU0 hU1 sa hp hq
  obtain ⟨n, hn⟩ : ∃ n, l.length = n := ⟨_, rfl⟩
  rw [hn] at hl hl2 ⊢
  have HNN := Lib.hid hn
  clear hn
  go_enter Try.func9, Try.ntmps9
  go_wp2_with fail
  rw [← HW.out]
  have hbW := hdr
  go_region_held3 (fun w' => w'.cell? ⟨N + 1, 0, none⟩ = some (.int .u64 h0) ∧ w'.cell? ⟨N + 1, 1, none⟩ = some (.int .u64 h1))
    (first
      | (refine ⟨?_, ?_⟩
         all_goals go_keep)
      | (go_split_ands
         refine ⟨?_, ?_⟩
         all_goals ((rw [hbx.cell (World.block_lt_of_cell? _ _ (by assumption))]; assumption)))
      | (go_keep; done))
    (first
      | (go_at_call 16
         refine (awake_any _).mono ?_
         rintro e w' ⟨rfl, hbx⟩
         replace hbW := below_self hbW hbx)
      | (go_at_call 19
         first
           | (with_reducible refine (upd_below h0 HNN.out.symm (HBA.out.below hbW) HL.out HU0.out).mono ?_)
           | (with_reducible refine (upd_below h1 HNN.out.symm (HBA.out.below hbW) HL.out HU1.out).mono ?_)
           | fail
         rintro e w' ⟨rfl, hbx⟩
         replace hbW := below_self hbW hbx)
      | fail)
  rename_i w2
  have HB2 := Lib.hid (below_self HBB.out hbW)
  have HA2 := Lib.hid (HBA.out.below hbW)
  have k0 := keep_cell hbW a0
  have k1 := keep_cell hbW a1
  clear heq hQ hbW hdr a0 a1
  by_cases hz : n = 0
  · subst hz
    go_wp2
    go_ret
    exact ⟨rfl, HB2.out⟩
  · have hz1 : ¬ (n : Int) = 0 := by omega
    have hz2 : ((n : Int) == 0) = false := by simpa using hz1
    obtain ⟨g, off, rfl, hg, hc⟩ := HA2.out.pos (by rw [HNN.out]; omega)
    obtain ⟨k, hk⟩ : ∃ k, pn % n = k := ⟨_, rfl⟩
    have hkn : k < n := by rw [← hk]; exact Nat.mod_lt _ (by omega)
    have hkE : (pn : Int) % (n : Int) = (k : Int) := by omega
    have HC := Lib.hid hc
    clear hc hg
    go_wp2_with fail
    go_quiet (fail)
    rw [hkE]
    obtain ⟨w3, hw3⟩ : ∃ w3, w3 = w'.drewN nq := ⟨_, rfl⟩
    rw [← hw3]
    have hb3 : Below w'.heap.size w' w3 := by rw [hw3]; exact below_drewN _ _
    have HB3 := Lib.hid (below_self HB2.out hb3)
    have HA3 := Lib.hid (HA2.out.below hb3)
    obtain ⟨M, hM⟩ : ∃ M, w3.heap.size = M := ⟨_, rfl⟩
    have HM := Lib.hid hM
    obtain ⟨i0, hi, hz0, hz3, hz4⟩ := info_parts info_u8
    have hkl : k < l.length := by rw [HNN.out]; exact hkn
    have hset := updI_set start_bd hkl x
    obtain ⟨V, hV⟩ : ∃ V, updI startI l = V := ⟨_, rfl⟩
    obtain ⟨V2, hV2⟩ : ∃ V, updI startI (l.set k x) = V := ⟨_, rfl⟩
    have HV := Lib.hid hV
    have HV2 := Lib.hid hV2
    rw [hV, hV2] at hset
    have hku : ((l[k].toNat : Int) == (x.toNat : Int)) = (l[k] == x) := by
      rw [Bool.eq_iff_iff, beq_iff_eq, beq_iff_eq]
      exact ⟨fun h => UInt8.toNat_inj.1 (by omega), fun h => by rw [h]⟩
    obtain ⟨R, hR⟩ : ∃ R, (l[k] == x) = R := ⟨_, rfl⟩
    rw [hR] at hset hku
    have HSET := Lib.hid hset
    have HKU := Lib.hid hku
    clear hb3 hw3 k0 k1 HC hV hV2 hset hku hk hR hkE
    go_wp2_with (first
      | (at_builtin; refine wpList_append_own_at _ rfl (.tmp 40) (.tmp 41) 24 rfl M 5 i0 (.int .u8 0) 1 1 Try.underlying24 hi hz0 hz3 hz4 rfl (by decide) (.slice (some ⟨M, 0, none⟩) 0 0) 0 [] rfl (zero_owned HM.out (Nat.le_refl _)) ⟨g, off, none⟩ n c (cellsL l) rfl (by rw [lenL, HNN.out]) ?src (oneL l) ?c3 ?c4 ?c5 ?_)
      | fail)
    case src => exact (HA3.out.below (below_new _ _)).src
    case c3 => unfold maxLen; omega
    case c4 => omega
    case c5 => rw [size_new HM.out]; omega
    intro v4 w4 hown hgrow _ hat
    have hB4 := byt_of HNN.out hown
    have hb4 : Below w3.heap.size w3 w4 := (below_new w3 _).grown hgrow (by simp) (fun k hk => by simp [Value.ownBlock] at hk; rw [HM.out]; omega)
    obtain ⟨A4, c4, rfl⟩ := hB4.form
    obtain ⟨a4, rfl⟩ := hB4.some_of (by omega)
    obtain ⟨g4, rfl, hg4, hg4b, _, hc4⟩ := hB4.cells
    have hck := hc4 k hkl
    have hfk := hB4.frz k
    obtain ⟨hP, hG⟩ := hB4.put k x
    have hbp := hb4.grown hG hb4.size (fun k hk => by cases hk; rw [HM.out]; exact hg4)
    have HP := Lib.hid hP
    have HB5 := Lib.hid (below_self HB3.out hbp)
    have HA5 := Lib.hid (HA3.out.below hbp)
    rw [HNN.out]
    clear hown hgrow hat hc4 hP hG hbp hb4 hB4
    go_wp2_with fail
    obtain ⟨w5, hw5⟩ : ∃ W, W = w4.setCell ⟨g4, k, none⟩ (.int .u8 (x.toNat : Int)) := ⟨_, rfl⟩
    rw [← hw5] at HP HB5 HA5 ⊢
    obtain ⟨g', off', hge, _, hcc⟩ := HA5.out.pos (by omega)
    injection hge with hge
    injection hge with e1 e2
    subst e1 e2
    have hckb := hcc k hkl
    have HPA := Lib.hid HP.out.at_.2
    have HN2 : Hid (n = (l.set k x).length) := Lib.hid (by rw [List.length_set, HNN.out])
    have HN3 : Hid ((l.set k x).length ≤ 9223372036854775807) := Lib.hid (by rw [← HN2.out]; omega)
    clear hcc hw5 hck hfk
    go_quiet ((first
      | (go_at_call 17; exact Calls.quiet_of_same (bytes_let HN2.out HPA.out HN3.out HV2.out))
      | (go_at_call 17; exact Calls.quiet_of_same (bytes_let HNN.out.symm HA5.out HL.out HV.out))
      | fail))
    go_wp2_with fail
    go_ret
    have hfin := below_self HB5.out (below_drewN w5 nq)
    exact ⟨ret_bool (by rw [HSET.out, HKU.out]; exact beq_self_eq_true R), hN ▸ hfin⟩

theorem readable : ∀ t ∈ Try.f9.params.toList, Try.prog.readableRec t = true ∧ t < Try.prog.types.size := Frame.readable_of (by kernel_rfl)

set_option maxRecDepth 100000 in
theorem contract (H : Type) (enc : TypeId × Value → H) (W : World) (base : Nat) (args : Array Value) (ds gs : List (DataW H)) (before : List MemPlace)
    (hval : ∀ (j : Nat) t v, Try.f9.params[j]? = some t → args[j]? = some v → Value.okWide Try.prog W .any base t v)
    (hW : DataW.Whole enc Try.prog Try.f9.params.toList Rows.digestByteSpec.vars false W args.toList ds gs before) (hT : True) (hsz : (DataW.weightsEach Try.prog (Try.f9.params.toList ++ (OpenSpec.ofChange Rows.digestByteSpec).bare.plain.varTypes Try.prog) (ds ++ gs)).all (· ≤ reachBytes) = true) :
    Calls Try.prog 9 args W fun e W' => ∃ v, e = .returned v ∧ Rows.digestByteSpec.post enc Try.prog Try.f9 false true false false W args v W' := by
  have hW' := hW
  obtain ⟨p, q, hA0, hV, rfl, hfz, hnd⟩ := hW
  have hA : DataW.TrodAll enc Try.prog W 0 (fun _ => true) true Try.f9.params.toList args.toList ds p := hA0
  rw [Try.params9] at hA hval
  obtain ⟨v0, vs0, d0, ds0, p0, q0, hargs, rfl, rfl, h0, r0⟩ := trodAll_cons hA
  obtain ⟨v1, vs1, d1, ds1, p1, q1, rfl, rfl, rfl, h1, r1⟩ := trodAll_cons r0
  obtain ⟨v2, vs2, d2, ds2, p2, q2, rfl, rfl, rfl, h2, r2⟩ := trodAll_cons r1
  obtain ⟨rfl, rfl, rfl⟩ := trodAll_nil r2
  obtain rfl : args = #[v0, v1, v2] := by cases args; simp_all
  obtain ⟨bs0, hl0, ⟨A0, c0, rfl, hlc0, hc0, hA0, hB0⟩, hd0⟩ := By.open_bytes (hval 0 24 v0 rfl rfl) h0
  obtain ⟨x1, y1, rfl, wx1, wy1⟩ := Frame.open_pair Try.underlying54 Try.underlying5 (by kernel_rfl) (by kernel_rfl) (hval 1 54 v1 rfl rfl) h1
  obtain ⟨x2, y2, rfl, wx2, wy2⟩ := Frame.open_pair Try.underlying55 Try.underlying39 (by kernel_rfl) (by kernel_rfl) (hval 2 55 v2 rfl rfl) h2
  refine (walk bs0 A0 c0 x1 y1 x2 y2 W (By.bytes_reach (j := 0) hsz rfl rfl hd0) hB0 (u8_bds wx1) (u8_bds wy1) (u64_bds wx2) (u64_bds wy2)).mono fun e W' ⟨he, hb⟩ => ⟨_, he, Frame.post_law Frame.laidOut readable (by kernel_rfl) Try.underlying4 hW' rfl rfl hb⟩

theorem laid_met (os : Os) : laidMetH Try.prog Rows.digestByteRow.laid ((World.laidAll Try.prog os Rows.digestByteRow.laid).forCall (fun _ _ => 0) ⟨#[], #[.slice none 0 0, .agg #[.int .u8 0, .int .u8 0], .agg #[.int .u64 0, .int .u64 0]], []⟩).memory := by
  rw [MakeChecks.laidMetH_plain _ _ _ (by kernel_rfl)]; exact laidMet_laidAll _ (by kernel_rfl) (by kernel_rfl)
theorem reads (os : Os) {H : Type} (enc : TypeId × Value → H) : ∃ places, DataW.whole enc Try.prog ((World.laidAll Try.prog os Rows.digestByteRow.laid).forCall (fun _ _ => 0) ⟨#[], #[.slice none 0 0, .agg #[.int .u8 0, .int .u8 0], .agg #[.int .u64 0, .int .u64 0]], []⟩).memory Try.f9.params.toList Rows.digestByteSpec.vars false (#[.slice none 0 0, .agg #[.int .u8 0, .int .u8 0], .agg #[.int .u64 0, .int .u64 0]] : Array Value).toList 8 = some ([.nil, .agg [.lit (.int .u8 0), .lit (.int .u8 0)], .agg [.lit (.int .u64 0), .lit (.int .u64 0)]], [], places) :=
  ⟨[], by kernel_rfl⟩
set_option maxRecDepth 100000 in
theorem lifted (os : Os) (started : os.Started) (H : Type) (enc : TypeId × Value → H) (F : Stop.Interp) :
    ReturnsInHanded {} Try.checked os 9 .any ((OpenSpec.ofChange Rows.digestByteSpec).preRow enc Try.prog Try.f9 Rows.digestByteRow.domain false Rows.digestByteRow.laid) (((OpenSpec.ofChange Rows.digestByteSpec).at F).post enc Try.prog Try.f9 false true false false) := by
  obtain ⟨places, hx⟩ := reads os enc
  refine returnsInHanded_of_row (C := Try.checked) (s := OpenSpec.ofChange Rows.digestByteSpec) Frame.own started (by kernel_rfl) Try.func9
    (Frame.witness_row_shaped (enc := enc) (C := Try.checked) false (World.laidAll Try.prog os Rows.digestByteRow.laid) #[.slice none 0 0, .agg #[.int .u8 0, .int .u8 0], .agg #[.int .u64 0, .int .u64 0]] (World.laidAll_os _ _ _) (World.shaped_of_ZipB (by kernel_rfl) (by kernel_rfl)) (by kernel_rfl)
      (OpenSpec.preRow_of_cond 8 hx (by kernel_rfl) (fun k hk => by cases hk) (by kernel_rfl) (laid_met os))) ?_
  intro W base args ds gs before hval hW _ _ hsz hL hsh _
  rw [MakeChecks.laidMetH_plain _ _ _ (by kernel_rfl)] at hL
  exact contract H enc W base args ds gs before hval hW (trivial) hsz

theorem said : Rows.DigestByteSaid :=
  OpenClaim.holds_of_cond 9 Try.f9 rfl rfl rfl rfl rfl rfl rfl ⟨rfl, rfl, rfl, rfl, rfl⟩ rfl rfl rfl rfl rfl (by kernel_rfl) Try.func9 (by kernel_rfl)
    (of_decide_eq_true (by kernel_rfl)) (by unfold Func.isWrapper; first | (rw [if_pos (by decide +kernel)]; kernel_rfl) | (rw [if_neg (by decide +kernel)]; exact ⟨rfl, rfl⟩))
    (fun os started H enc _ F => by rw [OpenClaim.pre_eq_preRow]; exact lifted os started H enc F)

end Go.Proofs.Ytohoobgbmhondaa.digestByte

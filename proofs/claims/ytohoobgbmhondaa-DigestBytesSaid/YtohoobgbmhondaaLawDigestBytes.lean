/- DigestBytes: for every number and every bytes the law returns true and turns nothing that lay in memory. No condition. -/
import Derived.SevenTiedAt
import Derived.OpenShut
import Derived.Test.YtohoobgbmhondaaFrame
import Derived.Test.YtohoobgbmhondaaDigUpd
namespace Go.Proofs.Ytohoobgbmhondaa.digestBytes
open Go Go.RowKit Go.WideShapes Go.ChangeShapes By

set_option maxHeartbeats 1000000 in
theorem walk (h : Int) (l : List UInt8) (A : Option Addr) (c : Nat) (w : World) (hl : l.length ≤ 9223372036854775807) (hB : BytAt w w.heap.size A l) :
    Calls Try.prog 4 #[.int .u64 h, .slice A l.length c] w fun e w' => e = .returned (.bool true) ∧ Below w.heap.size w w' := by
  have HBA := Lib.hid hB
  obtain ⟨n, hn⟩ : ∃ n, l.length = n := ⟨_, rfl⟩
  have HN := Lib.hid hn
  rw [hn]
  obtain ⟨U, hU⟩ : ∃ U, updI h l = U := ⟨_, rfl⟩
  obtain ⟨V, hV⟩ : ∃ V, updI startI l = V := ⟨_, rfl⟩
  have HU := Lib.hid hU
  have HV := Lib.hid hV
  clear hB hn hU hV
  go_enter Try.func4, Try.ntmps4
  go_wp2_with (first
    | (go_at_call 16
       refine (awake_any _).mono ?_
       rintro e w2 ⟨rfl, hb⟩
       have HB := Lib.hid hb
       have HBB := Lib.hid (HBA.out.below hb)
       clear hb)
    | (go_at_call 17
       refine (bytes_any HN.out.symm HBB.out hl).mono ?_
       rintro e w3 ⟨he, rfl⟩
       rw [HV.out] at he
       subst he)
    | (go_at_call 18
       refine (rbytes_any HN.out.symm HBB.out hl).mono ?_
       rintro e w3 ⟨he, rfl⟩
       rw [HV.out] at he
       subst he)
    | (go_at_call 19
       refine (upd_any h HN.out.symm HBB.out hl).mono ?_
       rintro e w3 ⟨he, rfl⟩
       rw [HU.out] at he
       subst he)
    | (go_at_call 20
       refine (rupd_any h HN.out.symm HBB.out hl).mono ?_
       rintro e w3 ⟨he, rfl⟩
       rw [HU.out] at he
       subst he)
    | fail)
  go_ret
  exact ⟨rfl, HB.out⟩

theorem readable : ∀ t ∈ Try.f4.params.toList, Try.prog.readableRec t = true ∧ t < Try.prog.types.size := Frame.readable_of (by kernel_rfl)

set_option maxRecDepth 100000 in
theorem contract (H : Type) (enc : TypeId × Value → H) (W : World) (base : Nat) (args : Array Value) (ds gs : List (DataW H)) (before : List MemPlace)
    (hval : ∀ (j : Nat) t v, Try.f4.params[j]? = some t → args[j]? = some v → Value.okWide Try.prog W .any base t v)
    (hW : DataW.Whole enc Try.prog Try.f4.params.toList Rows.digestBytesSpec.vars false W args.toList ds gs before) (hT : True) :
    Calls Try.prog 4 args W fun e W' => ∃ v, e = .returned v ∧ Rows.digestBytesSpec.post enc Try.prog Try.f4 false true false false W args v W' := by
  have hW' := hW
  obtain ⟨p, q, hA0, hV, rfl, hfz, hnd⟩ := hW
  have hA : DataW.TrodAll enc Try.prog W 0 (fun _ => true) true Try.f4.params.toList args.toList ds p := hA0
  rw [Try.params4] at hA hval
  obtain ⟨v0, vs0, d0, ds0, p0, q0, hargs, rfl, rfl, h0, r0⟩ := trodAll_cons hA
  obtain ⟨v1, vs1, d1, ds1, p1, q1, rfl, rfl, rfl, h1, r1⟩ := trodAll_cons r0
  obtain ⟨rfl, rfl, rfl⟩ := trodAll_nil r1
  obtain rfl : args = #[v0, v1] := by cases args; simp_all
  obtain ⟨a0, rfl, rfl, rfl, w0⟩ := open_int Try.underlying39 (hval 0 39 v0 rfl rfl) h0
  obtain ⟨bs1, hl1, ⟨A1, c1, rfl, hlc1, hc1, hA1, hB1⟩, hd1⟩ := By.open_bytes (hval 1 24 v1 rfl rfl) h1
  refine (walk a0 bs1 A1 c1 W hl1 hB1).mono fun e W' ⟨he, hb⟩ => ⟨_, he, Frame.post_law Frame.laidOut readable (by kernel_rfl) Try.underlying4 hW' rfl rfl hb⟩

theorem laid_met (os : Os) : laidMetH Try.prog Rows.digestBytesRow.laid ((World.laidAll Try.prog os Rows.digestBytesRow.laid).forCall (fun _ _ => 0) ⟨#[], #[.int .u64 0, .slice none 0 0], []⟩).memory := by
  rw [MakeChecks.laidMetH_plain _ _ _ (by kernel_rfl)]; exact laidMet_laidAll _ (by kernel_rfl) (by kernel_rfl)
theorem reads (os : Os) {H : Type} (enc : TypeId × Value → H) : ∃ places, DataW.whole enc Try.prog ((World.laidAll Try.prog os Rows.digestBytesRow.laid).forCall (fun _ _ => 0) ⟨#[], #[.int .u64 0, .slice none 0 0], []⟩).memory Try.f4.params.toList Rows.digestBytesSpec.vars false (#[.int .u64 0, .slice none 0 0] : Array Value).toList 8 = some ([.lit (.int .u64 0), .nil], [], places) :=
  ⟨[], by kernel_rfl⟩
set_option maxRecDepth 100000 in
theorem lifted (os : Os) (started : os.Started) (H : Type) (enc : TypeId × Value → H) (F : Stop.Interp) :
    ReturnsInHanded {} Try.checked os 4 .any ((OpenSpec.ofChange Rows.digestBytesSpec).preRow enc Try.prog Try.f4 Rows.digestBytesRow.domain false Rows.digestBytesRow.laid) (((OpenSpec.ofChange Rows.digestBytesSpec).at F).post enc Try.prog Try.f4 false true false false) := by
  obtain ⟨places, hx⟩ := reads os enc
  refine returnsInHanded_of_row (C := Try.checked) (s := OpenSpec.ofChange Rows.digestBytesSpec) Frame.own started (by kernel_rfl) Try.func4
    (Frame.witness_row_shaped (enc := enc) (C := Try.checked) false (World.laidAll Try.prog os Rows.digestBytesRow.laid) #[.int .u64 0, .slice none 0 0] (World.laidAll_os _ _ _) (World.shaped_of_ZipB (by kernel_rfl) (by kernel_rfl)) (by kernel_rfl)
      (OpenSpec.preRow_of_cond 8 hx (by kernel_rfl) (fun k hk => by cases hk) (by kernel_rfl) (laid_met os))) ?_
  intro W base args ds gs before hval hW _ _ hsz hL hsh _
  rw [MakeChecks.laidMetH_plain _ _ _ (by kernel_rfl)] at hL
  exact contract H enc W base args ds gs before hval hW (trivial)

theorem said : Rows.DigestBytesSaid :=
  OpenClaim.holds_of_cond 4 Try.f4 rfl rfl rfl rfl rfl rfl rfl ⟨rfl, rfl, rfl, rfl, rfl⟩ rfl rfl rfl rfl rfl (by kernel_rfl) Try.func4 (by kernel_rfl)
    (of_decide_eq_true (by kernel_rfl)) (by unfold Func.isWrapper; first | (rw [if_pos (by decide +kernel)]; kernel_rfl) | (rw [if_neg (by decide +kernel)]; exact ⟨rfl, rfl⟩))
    (fun os started H enc _ F => by rw [OpenClaim.pre_eq_preRow]; exact lifted os started H enc F)

end Go.Proofs.Ytohoobgbmhondaa.digestBytes

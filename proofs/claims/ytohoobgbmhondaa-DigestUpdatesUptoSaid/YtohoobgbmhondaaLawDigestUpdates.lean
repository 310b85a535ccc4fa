/- DigestUpdates: for any two byte strings the law returns true and turns nothing that lay in memory. Condition: the two are together of bulk at most 1048576 (both joined must fit into memory). -/
import Derived.SevenTiedAt
import Derived.OpenShut
import Derived.Test.YtohoobgbmhondaaFrame
import Derived.Test.YtohoobgbmhondaaBulk
import Derived.Test.YtohoobgbmhondaaDigOwn
namespace Go.Proofs.Ytohoobgbmhondaa.digestUpdates
open Go Go.RowKit Go.WideShapes Go.ChangeShapes By

theorem upd_let {w : World} {A : Option Addr} {n c : Nat} {l : List UInt8} {h V : Int} (hn : n = l.length) (hB : BytAt w w.heap.size A l) (hl : l.length ≤ 9223372036854775807) (hV : updI h l = V) :
    Calls Try.prog 19 #[.int .u64 h, .slice A n c] w fun e w' => e = .returned (.int .u64 V) ∧ w' = w := by
  subst hV
  exact upd_any h hn hB hl
set_option maxRecDepth 100000 in
set_option maxHeartbeats 2000000 in
theorem walk (l m : List UInt8) (A B : Option Addr) (c d : Nat) (w : World) (hl : l.length ≤ 1048576) (hm : m.length ≤ 1048576) (hA : A = none → l = [] ∧ c = 0) (hB : B = none → m = [] ∧ d = 0) (hBA : BytAt w w.heap.size A l) (hBB : BytAt w w.heap.size B m) :
    Calls Try.prog 7 #[.slice A l.length c, .slice B m.length d] w fun e w' => e = .returned (.bool true) ∧ Below w.heap.size w w' := by
  have HA := Lib.hid hA
  have HB := Lib.hid hB
  have HBA := Lib.hid hBA
  have HBB := Lib.hid hBB
  obtain ⟨n, hn⟩ : ∃ n, l.length = n := ⟨_, rfl⟩
  obtain ⟨k, hk⟩ : ∃ k, m.length = k := ⟨_, rfl⟩
  have HL : Hid (l.length ≤ 9223372036854775807) := Lib.hid (by omega)
  have HM : Hid (m.length ≤ 9223372036854775807) := Lib.hid (by omega)
  rw [hn] at hl ⊢
  rw [hk] at hm ⊢
  have HN := Lib.hid hn
  have HK := Lib.hid hk
  obtain ⟨U, hU⟩ : ∃ U, updI startI l = U := ⟨_, rfl⟩
  obtain ⟨V, hV⟩ : ∃ V, updI U m = V := ⟨_, rfl⟩
  obtain ⟨Z, hZ⟩ : ∃ Z, l ++ m = Z := ⟨_, rfl⟩
  have HZ := Lib.hid hZ
  have HV2 : Hid (updI startI Z = V) := Lib.hid (by rw [← hZ, updI_append, hU, hV])
  have HU := Lib.hid hU
  have HUS : Hid (updI 14695981039346656037 l = U) := Lib.hid (by rw [← hU, startI])
  have HV := Lib.hid hV
  have HLM : Hid (Z.length ≤ 9223372036854775807) := Lib.hid (by rw [← hZ, List.length_append]; omega)
  have HLM2 : Hid (l.length + m.length ≤ 140737488355328) := Lib.hid (by omega)
  have HL2 : Hid ((([] : List UInt8)).length + l.length ≤ 140737488355328) := Lib.hid (by simp; omega)
  clear hA hB hBA hBB hn hk hU hV hZ
  go_enter Try.func7, Try.ntmps7
  go_wp2_with (first
    | (go_at_call 16
       refine (awake_any _).mono ?_
       rintro e w2 ⟨rfl, hb⟩
       have HB2 := Lib.hid hb
       have HA2 := Lib.hid (HBA.out.below hb)
       have HM2 := Lib.hid (HBB.out.below hb)
       have HA4 := HA2
       clear hb)
    | (go_at_call 17
       first
         | (with_reducible refine (bytes_let HN.out.symm HA4.out HL.out HU.out).mono ?_)
         | (with_reducible refine (bytes_let rfl HX.out HLM.out HV2.out).mono ?_)
         | fail
       rintro e w3 ⟨rfl, rfl⟩)
    | (go_at_call 19
       first
         | (with_reducible refine (upd_let HK.out.symm HM2.out HM.out HV.out).mono ?_)
         | (with_reducible refine (upd_let HN.out.symm HA4.out HL.out HUS.out).mono ?_)
         | fail
       rintro e w3 ⟨rfl, rfl⟩)
    | (at_builtin
       refine wpList_append_by (by rfl) (.tmp 11) (.tmp 12) rfl w3.heap.size (.slice (some ⟨w3.heap.size, 0, none⟩) 0 0) [] (by simp [Act.eval]) (zero_byt rfl (Nat.le_refl _)) A n c w3.heap.size l (by simp [Act.eval]) HN.out.symm HA.out (HA2.out.keep fun b o x hlt hx => keep_cell (below_new _ _) hx) HL2.out (by simp) ?_
       intro v4 w4 hB4 hg4 _
       rw [List.nil_append] at hB4
       have hb4 : Below w3.heap.size w3 w4 := (below_new w3 _).grown hg4 (by simp) (fun k hk => by simp [Value.ownBlock] at hk; omega)
       obtain ⟨A5, c5, rfl⟩ := hB4.form
       have HB5 := Lib.hid hB4
       have HM5 := Lib.hid (HM2.out.below hb4)
       have HS5 := Lib.hid hb4
       clear hB4 hg4 hb4)
    | (at_builtin
       refine wpList_append_by (by rfl) (.tmp 13) (.tmp 14) rfl w3.heap.size (.slice A5 l.length c5) l (by simp [Act.eval]) HB5.out B k d w4.heap.size m (by simp [Act.eval]) HK.out.symm HB.out HM5.out HLM2.out HS5.out.size ?_
       intro v6 w6 hB6 hg6 _
       rw [HZ.out] at hB6
       have hb6 : Below w3.heap.size w3 w6 := HS5.out.grown hg6 HS5.out.size (fun k hk => HB5.out.low k hk)
       obtain ⟨A6, c6, rfl⟩ := hB6.form
       have HX := Lib.hid hB6.at_.2
       have HC6 := Lib.hid (below_self HB2.out hb6)
       have HA4 := Lib.hid (HA2.out.below hb6)
       clear hB6 hg6 hb6)
    | fail)
  go_ret
  exact ⟨rfl, HC6.out⟩

theorem readable : ∀ t ∈ Try.f7.params.toList, Try.prog.readableRec t = true ∧ t < Try.prog.types.size := Frame.readable_of (by kernel_rfl)

set_option maxRecDepth 100000 in
theorem contract (H : Type) (enc : TypeId × Value → H) (W : World) (base : Nat) (args : Array Value) (ds gs : List (DataW H)) (before : List MemPlace)
    (hval : ∀ (j : Nat) t v, Try.f7.params[j]? = some t → args[j]? = some v → Value.okWide Try.prog W .any base t v)
    (hW : DataW.Whole enc Try.prog Try.f7.params.toList Rows.digestUpdatesSpec.vars false W args.toList ds gs before) (hT : True) (hk : Rows.uptoSmall H (ds ++ gs) = true) :
    Calls Try.prog 7 args W fun e W' => ∃ v, e = .returned v ∧ Rows.digestUpdatesSpec.post enc Try.prog Try.f7 false true false false W args v W' := by
  have hW' := hW
  obtain ⟨p, q, hA0, hV, rfl, hfz, hnd⟩ := hW
  have hA : DataW.TrodAll enc Try.prog W 0 (fun _ => true) true Try.f7.params.toList args.toList ds p := hA0
  rw [Try.params7] at hA hval
  obtain ⟨v0, vs0, d0, ds0, p0, q0, hargs, rfl, rfl, h0, r0⟩ := trodAll_cons hA
  obtain ⟨v1, vs1, d1, ds1, p1, q1, rfl, rfl, rfl, h1, r1⟩ := trodAll_cons r0
  obtain ⟨rfl, rfl, rfl⟩ := trodAll_nil r1
  obtain rfl : args = #[v0, v1] := by cases args; simp_all
  obtain ⟨bs0, hl0, ⟨A0, c0, rfl, hlc0, hc0, hZ0, hB0⟩, hd0⟩ := By.open_bytes (hval 0 24 v0 rfl rfl) h0
  have hn0 : A0 = none → bs0 = [] := fun h => List.eq_nil_of_length_eq_zero (by have := hZ0 h; omega)
  obtain ⟨bs1, hl1, ⟨A1, c1, rfl, hlc1, hc1, hZ1, hB1⟩, hd1⟩ := By.open_bytes (hval 1 24 v1 rfl rfl) h1
  have hn1 : A1 = none → bs1 = [] := fun h => List.eq_nil_of_length_eq_zero (by have := hZ1 h; omega)
  refine (walk bs0 bs1 A0 A1 c0 c1 W (Bulk.slice_of hk (j := 0) rfl hd0) (Bulk.slice_of hk (j := 1) rfl hd1) (fun h => ⟨hn0 h, hZ0 h⟩) (fun h => ⟨hn1 h, hZ1 h⟩) hB0 hB1).mono fun e W' ⟨he, hb⟩ => ⟨_, he, Frame.post_law Frame.laidOut readable (by kernel_rfl) Try.underlying4 hW' rfl rfl hb⟩

theorem laid_met (os : Os) : laidMetH Try.prog Rows.digestUpdatesUptoRow.laid ((World.laidAll Try.prog os Rows.digestUpdatesUptoRow.laid).forCall (fun _ _ => 0) ⟨#[], #[.slice none 0 0, .slice none 0 0], []⟩).memory := by
  rw [MakeChecks.laidMetH_plain _ _ _ (by kernel_rfl)]; exact laidMet_laidAll _ (by kernel_rfl) (by kernel_rfl)
theorem reads (os : Os) {H : Type} (enc : TypeId × Value → H) : ∃ places, DataW.whole enc Try.prog ((World.laidAll Try.prog os Rows.digestUpdatesUptoRow.laid).forCall (fun _ _ => 0) ⟨#[], #[.slice none 0 0, .slice none 0 0], []⟩).memory Try.f7.params.toList Rows.digestUpdatesSpec.vars false (#[.slice none 0 0, .slice none 0 0] : Array Value).toList 8 = some ([.nil, .nil], [], places) :=
  ⟨[], by kernel_rfl⟩
set_option maxRecDepth 100000 in
theorem lifted (os : Os) (started : os.Started) (H : Type) (enc : TypeId × Value → H) (F : Stop.Interp) :
    ReturnsInHanded {} Try.checked os 7 .any ((Rows.OpenSpec.upto Rows.digestUpdatesSpec).preRow enc Try.prog Try.f7 Rows.digestUpdatesUptoRow.domain false Rows.digestUpdatesUptoRow.laid) (((Rows.OpenSpec.upto Rows.digestUpdatesSpec).at F).post enc Try.prog Try.f7 false true false false) := by
  obtain ⟨places, hx⟩ := reads os enc
  refine returnsInHanded_of_row (C := Try.checked) (s := Rows.OpenSpec.upto Rows.digestUpdatesSpec) Frame.own started (by kernel_rfl) Try.func7
    (Frame.witness_row_shaped (enc := enc) (C := Try.checked) false (World.laidAll Try.prog os Rows.digestUpdatesUptoRow.laid) #[.slice none 0 0, .slice none 0 0] (World.laidAll_os _ _ _) (World.shaped_of_ZipB (by kernel_rfl) (by kernel_rfl)) (by kernel_rfl)
      (OpenSpec.preRow_of_cond 8 hx (by kernel_rfl) (fun k hk => by cases hk; kernel_rfl) (by kernel_rfl) (laid_met os))) ?_
  intro W base args ds gs before hval hW _ hcond hsz hL hsh _
  rw [MakeChecks.laidMetH_plain _ _ _ (by kernel_rfl)] at hL
  exact contract H enc W base args ds gs before hval hW (trivial) (hcond _ rfl)

theorem said : Rows.DigestUpdatesUptoSaid :=
  OpenClaim.holds_of_cond 7 Try.f7 rfl rfl rfl rfl rfl rfl rfl ⟨rfl, rfl, rfl, rfl, rfl⟩ rfl rfl rfl rfl rfl (by kernel_rfl) Try.func7 (by kernel_rfl)
    (of_decide_eq_true (by kernel_rfl)) (by unfold Func.isWrapper; first | (rw [if_pos (by decide +kernel)]; kernel_rfl) | (rw [if_neg (by decide +kernel)]; exact ⟨rfl, rfl⟩))
    (fun os started H enc _ F => by rw [OpenClaim.pre_eq_preRow]; exact lifted os started H enc F)

end Go.Proofs.Ytohoobgbmhondaa.digestUpdates

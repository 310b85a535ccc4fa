/- DigestJoin: for any two numbers, text and kids the law returns true and turns nothing that lay in memory. Condition: what it reads is of bulk at most 1048576 (the bytes of a node must fit into memory). -/
import Derived.SevenTiedAt
import Derived.OpenShut
import Derived.Test.YtohoobgbmhondaaFrame
import Derived.Test.YtohoobgbmhondaaBulk
import Derived.Test.YtohoobgbmhondaaNums
import Derived.Test.YtohoobgbmhondaaDigRJoin
namespace Go.Proofs.Ytohoobgbmhondaa.digestJoin
open Go Go.RowKit Go.WideShapes Go.ChangeShapes By

set_option maxRecDepth 100000 in
set_option maxHeartbeats 2000000 in
theorem walk (k c : Int) (sb : ByteArray) (A : Option Addr) (l : List Int) (cp : Nat) (w : World) (hs : sb.data.toList.length ≤ 1048576) (hl : l.length ≤ 1048576) (hA : NumAt w w.heap.size A l) (hU : ∀ x ∈ l, U64 x) :
    Calls Try.prog 5 #[.agg #[.int .i64 k, .int .i64 c], .string sb, .slice A l.length cp] w fun e w' => e = .returned (.bool true) ∧ Below w.heap.size w w' := by
  obtain ⟨N, hN⟩ : ∃ N, w.heap.size = N := ⟨_, rfl⟩
  obtain ⟨W1, hW1⟩ : ∃ W, W = w.alloc (.cells #[.int .i64 k, .int .i64 c] 43) := ⟨_, rfl⟩
  have hB1 : Below w.heap.size w W1 := by rw [hW1]; exact below_new _ _
  have e0 : W1.cell? ⟨N, 0, none⟩ = some (.int .i64 k) := by rw [hW1]; exact new_cell hN _ _ 0 rfl
  have e1 : W1.cell? ⟨N, 1, none⟩ = some (.int .i64 c) := by rw [hW1]; exact new_cell hN _ _ 1 rfl
  have HW := Lib.hid hW1
  have HBB := Lib.hid hB1
  have HAA := Lib.hid (hA.below hB1)
  have HUU := Lib.hid hU
  obtain ⟨s, hs2⟩ : ∃ s, sb.data.toList = s := ⟨_, rfl⟩
  rw [hs2] at hs
  have HS := Lib.hid hs2
  have HBD : Hid (32 + s.length + 8 * l.length ≤ 140737488355328) := Lib.hid (by omega)
  obtain ⟨n, hn⟩ : ∃ n, l.length = n := ⟨_, rfl⟩
  have HN := Lib.hid hn
  rw [hn]
  obtain ⟨V, hV⟩ : ∃ V, updI startI (joinL k c s l) = V := ⟨_, rfl⟩
  have HJ : Hid (∀ W, Below W1.heap.size W1 W → Calls Try.prog 21 #[.int .i64 k, .string sb, .int .i64 c, .slice A n cp] W fun e w' => e = .returned (.int .u64 V) ∧ Below W.heap.size W w') :=
    Lib.hid fun W hb => hV ▸ join_any HS.out HN.out.symm (HAA.out.below hb) HUU.out HBD.out
  have HR : Hid (∀ W, Below W1.heap.size W1 W → Calls Try.prog 22 #[.int .i64 k, .string sb, .int .i64 c, .slice A n cp] W fun e w' => e = .returned (.int .u64 V) ∧ Below W.heap.size W w') :=
    Lib.hid fun W hb => hV ▸ rjoin_any HS.out HN.out.symm (HAA.out.below hb) HUU.out HBD.out
  have hdr := below_drew W1
  clear hB1 hA hU hs2 hs hl hn hV hW1
  go_enter Try.func5, Try.ntmps5
  go_wp2_with fail
  rw [← HW.out]
  have hbW := hdr
  go_region_held3 (fun w' => w'.cell? ⟨N, 0, none⟩ = some (.int .i64 k) ∧ w'.cell? ⟨N, 1, none⟩ = some (.int .i64 c))
    (first
      | (refine ⟨?_, ?_⟩
         all_goals go_keep)
      | (go_split_ands
         refine ⟨?_, ?_⟩
         all_goals ((rw [hbx.cell (World.block_lt_of_cell? _ _ (by assumption))]; assumption)))
      | (go_keep; done))
    (first
      | (go_at_call 16
         refine (awake_any _).mono ?_
         rintro e w' ⟨rfl, hbx⟩
         replace hbW := below_self hbW hbx)
      | (go_at_call 21
         with_reducible refine (HJ.out _ hbW).mono ?_
         rintro e w' ⟨rfl, hbx⟩
         replace hbW := below_self hbW hbx)
      | (go_at_call 22
         with_reducible refine (HR.out _ hbW).mono ?_
         rintro e w' ⟨rfl, hbx⟩
         replace hbW := below_self hbW hbx)
      | fail)
  all_goals go_wp2
  all_goals go_ret
  all_goals exact ⟨ret_bool rfl, hN ▸ below_self HBB.out hbW⟩

theorem readable : ∀ t ∈ Try.f5.params.toList, Try.prog.readableRec t = true ∧ t < Try.prog.types.size := Frame.readable_of (by kernel_rfl)

set_option maxRecDepth 100000 in
theorem contract (H : Type) (enc : TypeId × Value → H) (W : World) (base : Nat) (args : Array Value) (ds gs : List (DataW H)) (before : List MemPlace)
    (hval : ∀ (j : Nat) t v, Try.f5.params[j]? = some t → args[j]? = some v → Value.okWide Try.prog W .any base t v)
    (hW : DataW.Whole enc Try.prog Try.f5.params.toList Rows.digestJoinSpec.vars false W args.toList ds gs before) (hT : True) (hk : Rows.uptoSmall H (ds ++ gs) = true) :
    Calls Try.prog 5 args W fun e W' => ∃ v, e = .returned v ∧ Rows.digestJoinSpec.post enc Try.prog Try.f5 false true false false W args v W' := by
  have hW' := hW
  obtain ⟨p, q, hA0, hV, rfl, hfz, hnd⟩ := hW
  have hA : DataW.TrodAll enc Try.prog W 0 (fun _ => true) true Try.f5.params.toList args.toList ds p := hA0
  rw [Try.params5] at hA hval
  obtain ⟨v0, vs0, d0, ds0, p0, q0, hargs, rfl, rfl, h0, r0⟩ := trodAll_cons hA
  obtain ⟨v1, vs1, d1, ds1, p1, q1, rfl, rfl, rfl, h1, r1⟩ := trodAll_cons r0
  obtain ⟨v2, vs2, d2, ds2, p2, q2, rfl, rfl, rfl, h2, r2⟩ := trodAll_cons r1
  obtain ⟨rfl, rfl, rfl⟩ := trodAll_nil r2
  obtain rfl : args = #[v0, v1, v2] := by cases args; simp_all
  obtain ⟨x0, y0, rfl, wx0, wy0⟩ := Frame.open_pair Try.underlying43 Try.underlying3 (by kernel_rfl) (by kernel_rfl) (hval 0 43 v0 rfl rfl) h0
  obtain ⟨a1, rfl, rfl, rfl, w1⟩ := Go.ChangeMaps.open_string Try.underlying9 (hval 1 9 v1 rfl rfl) h1
  obtain ⟨ls2, hU2, ⟨A2, c2, rfl, hB2⟩, hd2⟩ := By.open_nums (hval 2 44 v2 rfl rfl) h2
  refine (walk x0 y0 a1 A2 ls2 c2 W (Bulk.string_of hk (j := 1) rfl) (Bulk.slice_of hk (j := 2) rfl hd2) hB2 hU2).mono fun e W' ⟨he, hb⟩ => ⟨_, he, Frame.post_law Frame.laidOut readable (by kernel_rfl) Try.underlying4 hW' rfl rfl hb⟩

theorem laid_met (os : Os) : laidMetH Try.prog Rows.digestJoinUptoRow.laid ((World.laidAll Try.prog os Rows.digestJoinUptoRow.laid).forCall (fun _ _ => 0) ⟨#[], #[.agg #[.int .i64 0, .int .i64 0], .string ⟨#[]⟩, .slice none 0 0], []⟩).memory := by
  rw [MakeChecks.laidMetH_plain _ _ _ (by kernel_rfl)]; exact laidMet_laidAll _ (by kernel_rfl) (by kernel_rfl)
theorem reads (os : Os) {H : Type} (enc : TypeId × Value → H) : ∃ places, DataW.whole enc Try.prog ((World.laidAll Try.prog os Rows.digestJoinUptoRow.laid).forCall (fun _ _ => 0) ⟨#[], #[.agg #[.int .i64 0, .int .i64 0], .string ⟨#[]⟩, .slice none 0 0], []⟩).memory Try.f5.params.toList Rows.digestJoinSpec.vars false (#[.agg #[.int .i64 0, .int .i64 0], .string ⟨#[]⟩, .slice none 0 0] : Array Value).toList 8 = some ([.agg [.lit (.int .i64 0), .lit (.int .i64 0)], .lit (.string []), .nil], [], places) :=
  ⟨[], by kernel_rfl⟩
set_option maxRecDepth 100000 in
theorem lifted (os : Os) (started : os.Started) (H : Type) (enc : TypeId × Value → H) (F : Stop.Interp) :
    ReturnsInHanded {} Try.checked os 5 .any ((Rows.OpenSpec.upto Rows.digestJoinSpec).preRow enc Try.prog Try.f5 Rows.digestJoinUptoRow.domain false Rows.digestJoinUptoRow.laid) (((Rows.OpenSpec.upto Rows.digestJoinSpec).at F).post enc Try.prog Try.f5 false true false false) := by
  obtain ⟨places, hx⟩ := reads os enc
  refine returnsInHanded_of_row (C := Try.checked) (s := Rows.OpenSpec.upto Rows.digestJoinSpec) Frame.own started (by kernel_rfl) Try.func5
    (Frame.witness_row_shaped (enc := enc) (C := Try.checked) false (World.laidAll Try.prog os Rows.digestJoinUptoRow.laid) #[.agg #[.int .i64 0, .int .i64 0], .string ⟨#[]⟩, .slice none 0 0] (World.laidAll_os _ _ _) (World.shaped_of_ZipB (by kernel_rfl) (by kernel_rfl)) (by kernel_rfl)
      (OpenSpec.preRow_of_cond 8 hx (by kernel_rfl) (fun k hk => by cases hk; kernel_rfl) (by kernel_rfl) (laid_met os))) ?_
  intro W base args ds gs before hval hW _ hcond hsz hL hsh _
  rw [MakeChecks.laidMetH_plain _ _ _ (by kernel_rfl)] at hL
  exact contract H enc W base args ds gs before hval hW (trivial) (hcond _ rfl)

theorem said : Rows.DigestJoinUptoSaid :=
  OpenClaim.holds_of_cond 5 Try.f5 rfl rfl rfl rfl rfl rfl rfl ⟨rfl, rfl, rfl, rfl, rfl⟩ rfl rfl rfl rfl rfl (by kernel_rfl) Try.func5 (by kernel_rfl)
    (of_decide_eq_true (by kernel_rfl)) (by unfold Func.isWrapper; first | (rw [if_pos (by decide +kernel)]; kernel_rfl) | (rw [if_neg (by decide +kernel)]; exact ⟨rfl, rfl⟩))
    (fun os started H enc _ F => by rw [OpenClaim.pre_eq_preRow]; exact lifted os started H enc F)

end Go.Proofs.Ytohoobgbmhondaa.digestJoin

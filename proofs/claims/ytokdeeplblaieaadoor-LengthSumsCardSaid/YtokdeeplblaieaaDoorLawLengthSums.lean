/- LengthSums: for every list of integers the law returns true and turns nothing that lay in memory. Condition: the package-level tables hold what the program's text lays (tied by the card). -/
import Derived.Test.YtokdeeplblaieaaDoorCards
import Derived.SevenTiedAt
import Derived.OpenShut
import Derived.Test.YtokdeeplblaieaaDoorTie
import Derived.Test.YtokdeeplblaieaaDoorLaid
import Derived.Test.YtokdeeplblaieaaDoorAwake
import Derived.Test.YtokdeeplblaieaaDoorLenSums
import Derived.OwnWalk
import Derived.Deep.RegionHeld3
import Derived.Laws.AppendOwnNone
import Derived.Lib.SmallJoins
import Derived.Laws.AppendOwn
namespace Go.Proofs.YtokdeeplblaieaaDoor.lengthSums
open Go Go.RowKit Go.WideShapes Go.ChangeShapes Len

theorem long_ (A : Option Addr) (n c : Nat) (w : World) (hT : Tabs w) (h : 50 < n) (hn : n ≤ 9223372036854775807) :
    Calls Tryd.prog 7 #[.slice A n c] w fun e w' => e = .returned (.bool true) ∧ Below w.heap.size w w' := by
  go_enter Tryd.func7, Tryd.ntmps7
  go_wp2_with fail
  refine (awake_any _ hT).mono ?_
  rintro e w1 ⟨rfl, hb⟩
  go_wp2_with fail
  go_ret
  exact ⟨rfl, hb⟩

theorem info_int : (Tryd.prog.info? 3).map (fun i => (i.zero, i.size, i.bytes)) = some (some (.int .i64 0), 1, 8) := by kernel_rfl
theorem own_none (w : World) : (w.alloc (.cells #[] 3)).ownsRow w.heap.size 3 1 (.slice (some ⟨w.heap.size, 0, none⟩) 0 0) 0 [] :=
  ⟨rfl, .inr ⟨w.heap.size, 0, #[], rfl, Nat.le_refl _, heap_alloc_new w _, Nat.le_refl _, Nat.zero_le _, rfl, rfl⟩⟩

/-- What the copy reads as. -/
theorem copy_at {w : World} {base g cap n : Nat} {xs : List Int} (h : w.ownsRow base 3 1 (.slice (some ⟨g, 0, none⟩) n cap) n (xs.map (Value.int .i64))) : IntsAt w (some ⟨g, 0, none⟩) xs := by
  refine .inr ⟨g, 0, rfl, fun j hj => ?_⟩
  have := h.cells (g := g) rfl j (.int .i64 (xs.getD j 0)) (by simp [List.getD, List.getElem?_eq_getElem hj])
  rcases j with _ | j <;> simpa [Addr.add] using this

theorem add_at (b off j : Nat) : (⟨b, off, none⟩ : Addr).add j = ⟨b, off + j, none⟩ := by
  unfold Addr.add; split <;> simp_all
/-- The list that came in lies there still. -/
theorem still {w w' : World} {b off : Nat} {xs : List Int} (hb : Below w.heap.size w w') (hbw : b < w.heap.size) (hc : ∀ j, j < xs.length → w.cell? ⟨b, off + j, none⟩ = some (.int .i64 (xs.getD j 0))) :
    ∀ j, j < xs.length → w'.cell? ⟨b, off + j, none⟩ = some (.int .i64 (xs.getD j 0)) := fun j hj => (hb.cell hbw).trans (hc j hj)
theorem source_at {w : World} {b off : Nat} {xs : List Int} (hc : ∀ j, j < xs.length → w.cell? ⟨b, off + j, none⟩ = some (.int .i64 (xs.getD j 0))) :
    ∀ j u, (xs.map (Value.int .i64))[j]? = some u → w.cell? ((⟨b, off, none⟩ : Addr).add j) = some u := fun j u hu => by
  rw [List.getElem?_map] at hu
  rcases Nat.lt_or_ge j xs.length with hj | hj
  · rw [add_at, hc j hj, List.getD]
    rw [List.getElem?_eq_getElem hj] at hu ⊢
    exact hu
  · rw [List.getElem?_eq_none hj] at hu; cases hu

set_option maxHeartbeats 1000000 in
set_option maxRecDepth 100000 in
theorem short_ (b off c : Nat) (xs : List Int) (w : World) (hT : Tabs w) (h0 : 0 < xs.length) (h : xs.length ≤ 50) (hc : ∀ j, j < xs.length → w.cell? ⟨b, off + j, none⟩ = some (.int .i64 (xs.getD j 0))) (hbw : b < w.heap.size) :
    Calls Tryd.prog 7 #[.slice (some ⟨b, off, none⟩) xs.length c] w fun e w' => e = .returned (.bool true) ∧ Below w.heap.size w w' := by
  obtain ⟨i0, hi, hz0, hz1, hz2⟩ := info_parts info_int
  have HC := Lib.hid hc
  clear hc
  go_enter Tryd.func7, Tryd.ntmps7
  go_wp2_with fail
  refine (awake_any _ hT).mono ?_
  rintro e w1 ⟨rfl, hb⟩
  have hsz := hb.size
  go_wp2_with (at_builtin; refine wpList_append_own _ rfl (.tmp 17) (.tmp 18) 33 rfl w1.heap.size 3 i0 (.int .i64 0) 1 8 Tryd.underlying33 hi hz0 hz1 hz2 rfl (by omega) _ 0 [] rfl (own_none w1) ⟨b, off, none⟩ xs.length c (xs.map (Value.int .i64)) rfl ?c1 ?c2 ?c3 ?c4 ?c5 ?c6 ?_)
  case c1 => simp
  case c2 => exact source_at (still (hb.alloc hsz _) hbw HC.out)
  case c3 => simp [Value.oneCell']
  case c4 => unfold maxLen; omega
  case c5 => omega
  case c6 => simp
  intro v' w2 hown hgrow _
  have hB : Below w.heap.size w w2 := (hb.alloc hsz _).grown hgrow (by simp; omega) (fun k hk => by simp [Value.ownBlock] at hk; omega)
  obtain ⟨g, cap, rfl⟩ := Joins.ownsRow_form hown h0
  have H1 := Lib.hid (copy_at hown)
  have H2 : Hid (IntsAt w2 (some ⟨b, off, none⟩) xs) := Lib.hid (.inr ⟨b, off, rfl, still hB hbw HC.out⟩)
  have HB := Lib.hid hB
  clear hB hown hgrow hb hsz
  go_wp2_with fail
  refine (sum_any _ _ _ xs _ rfl (by omega) H1.out).mono ?_
  rintro e w3 ⟨rfl, rfl⟩
  go_wp2_with fail
  refine (refsum_any _ _ _ xs _ rfl (by omega) H2.out).mono ?_
  rintro e w4 ⟨rfl, rfl⟩
  go_wp2_with fail
  · go_ret
    exact ⟨rfl, HB.out⟩
  · have h2 : 1 < xs.length := by omega
    have k0 := still HB.out hbw HC.out 0 h0
    have k1 := still HB.out hbw HC.out 1 h2
    rw [Nat.add_zero] at k0
    generalize xs.getD 0 0 = x0 at k0
    generalize xs.getD 1 0 = x1 at k1
    have h2' : (1 : Int) < (xs.length : Int) := by omega
    go_region_held3 (fun w' => w'.cell? ⟨b, off, none⟩ = some (.int .i64 x0) ∧ w'.cell? ⟨b, off + 1, none⟩ = some (.int .i64 x1))
      (first
        | go_keep
        | (go_split_ands
           refine ⟨?_, ?_⟩
           · (rw [hbx.cell (World.block_lt_of_cell? _ _ (by assumption))]; assumption)
           · (rw [hbx.cell (World.block_lt_of_cell? _ _ (by assumption))]; assumption)))
      (first | (go_at_call 21; refine (add_any _ _ _).mono ?_; rintro e w' ⟨rfl, hbx⟩))
    have hB2 : Below w.heap.size w w' := HB.out.drew.trans (hbx.mono HB.out.size)
    have HB2 := Lib.hid hB2
    have j0 := (hbx.cell (p := ⟨b, off, none⟩) (Nat.lt_of_lt_of_le hbw HB.out.size)).trans k0
    have j1 := (hbx.cell (p := ⟨b, off + 1, none⟩) (Nat.lt_of_lt_of_le hbw HB.out.size)).trans k1
    clear hB2 hbx k0 k1
    go_wp2_with fail
    go_region_held3 (fun w'' => w''.cell? ⟨b, off, none⟩ = some (.int .i64 x0) ∧ w''.cell? ⟨b, off + 1, none⟩ = some (.int .i64 x1))
      (first
        | go_keep
        | (go_split_ands
           refine ⟨?_, ?_⟩
           · (rw [hby.cell (World.block_lt_of_cell? _ _ (by assumption))]; assumption)
           · (rw [hby.cell (World.block_lt_of_cell? _ _ (by assumption))]; assumption)))
      (first | (go_at_call 22; refine (refadd_any _ _ _).mono ?_; rintro e w' ⟨rfl, hby⟩))
    go_wp2_with fail
    go_ret
    exact ⟨rfl, HB2.out.drew.trans (hby.mono HB2.out.size)⟩

set_option maxHeartbeats 1000000 in
set_option maxRecDepth 100000 in
theorem empty_ (ad : Addr) (c : Nat) (w : World) (hT : Tabs w) :
    Calls Tryd.prog 7 #[.slice (some ad) 0 c] w fun e w' => e = .returned (.bool true) ∧ Below w.heap.size w w' := by
  obtain ⟨i0, hi, hz0, hz1, hz2⟩ := info_parts info_int
  go_enter Tryd.func7, Tryd.ntmps7
  go_wp2_with fail
  refine (awake_any _ hT).mono ?_
  rintro e w1 ⟨rfl, hb⟩
  have hsz := hb.size
  go_wp2_with (at_builtin; refine wpList_append_own _ rfl (.tmp 17) (.tmp 18) 33 rfl w1.heap.size 3 i0 (.int .i64 0) 1 8 Tryd.underlying33 hi hz0 hz1 hz2 rfl (by omega) _ 0 [] rfl (own_none w1) ad 0 c [] rfl ?c1 ?c2 ?c3 ?c4 ?c5 ?c6 ?_)
  case c1 => rfl
  case c2 => intro j u hu; simp at hu
  case c3 => intro u hu; simp at hu
  case c4 => unfold maxLen; omega
  case c5 => omega
  case c6 => simp
  intro v' w2 hown hgrow _
  have hB : Below w.heap.size w w2 := (hb.alloc hsz _).grown hgrow (by simp; omega) (fun k hk => by simp [Value.ownBlock] at hk; omega)
  have HB := Lib.hid hB
  have hform : ∃ A' c', v' = .slice A' 0 c' := by
    rcases Joins.ownsRow_forms hown with ⟨h1, _⟩ | ⟨g, cap, h1⟩
    · exact ⟨_, _, h1⟩
    · exact ⟨_, _, h1⟩
  obtain ⟨A', c', rfl⟩ := hform
  clear hB hown hgrow hb hsz
  go_wp2_with fail
  refine (sum_any _ _ _ [] _ rfl (by simp) (.inl rfl)).mono ?_
  rintro e w3 ⟨rfl, rfl⟩
  go_wp2_with fail
  refine (refsum_any _ _ _ [] _ rfl (by simp) (.inl rfl)).mono ?_
  rintro e w4 ⟨rfl, rfl⟩
  go_wp2_with fail
  go_ret
  exact ⟨rfl, HB.out⟩

set_option maxHeartbeats 1000000 in
set_option maxRecDepth 100000 in
theorem nil_ (w : World) (hT : Tabs w) :
    Calls Tryd.prog 7 #[.slice none 0 0] w fun e w' => e = .returned (.bool true) ∧ Below w.heap.size w w' := by
  obtain ⟨i0, hi, hz0, hz1, hz2⟩ := info_parts info_int
  go_enter Tryd.func7, Tryd.ntmps7
  go_wp2_with fail
  refine (awake_any _ hT).mono ?_
  rintro e w1 ⟨rfl, hb⟩
  have hsz := hb.size
  have HB := Lib.hid (hb.alloc hsz (.cells #[] 3))
  clear hb
  go_wp2_with (at_builtin; refine wpList_append_own_none rfl (.tmp 17) (.tmp 18) 33 rfl w1.heap.size 3 i0 1 Tryd.underlying33 hi _ 0 [] rfl (own_none w1) rfl ?_)
  go_wp2_with fail
  refine (sum_any _ _ _ [] _ rfl (by simp) (.inl rfl)).mono ?_
  rintro e w3 ⟨rfl, rfl⟩
  go_wp2_with fail
  refine (refsum_any _ _ _ [] _ rfl (by simp) (.inl rfl)).mono ?_
  rintro e w4 ⟨rfl, rfl⟩
  go_wp2_with fail
  go_ret
  exact ⟨rfl, HB.out⟩

/-- A slice of integers that came in. -/
theorem ints_in {H : Type} {enc : TypeId × Value → H} {W : World} {base : Nat} {sp : Nat → Bool} {held : Bool} {fuel : Nat} {A : Option Addr} {n c : Nat} {x : DataW H × List MemPlace}
    (h : DataW.trod enc Tryd.prog W base sp held fuel 33 (Value.slice A n c).cells.toList = some x) :
    (A = none ∧ n = 0 ∧ c = 0) ∨ ∃ ad, A = some ad ∧ n ≤ maxLen ∧ (n = 0 ∨ ∃ (b off : Nat) (xs : List Int), ad = ⟨b, off, none⟩ ∧ xs.length = n ∧ b < W.heap.size ∧ ∀ j, j < xs.length → W.cell? ⟨b, off + j, none⟩ = some (.int .i64 (xs.getD j 0))) := by
  rcases open_ints Tryd.underlying33 Tryd.underlying3 (by kernel_rfl) h with ⟨hcs, _⟩ | ⟨a, len, cap, zs, hcs, _, hl, hm, hz, _, hcell, _⟩
  · simp [Value.cells] at hcs
    exact .inl hcs
  · simp [Value.cells] at hcs
    obtain ⟨rfl, rfl, rfl⟩ := hcs
    refine .inr ⟨a, rfl, Nat.le_trans hl hm, ?_⟩
    rcases Nat.eq_zero_or_pos n with h0 | h0
    · exact .inl h0
    · have hzl : n ≤ zs.length := by rw [hz]; split <;> omega
      obtain ⟨b, off, rfl, hc⟩ := ints_at hcell (by omega)
      refine .inr ⟨b, off, zs.take n, rfl, by rw [List.length_take]; omega, World.block_lt_of_cell? _ _ (hc 0 (by omega)), fun j hj => ?_⟩
      rw [List.length_take] at hj
      rw [hc j (by omega)]
      congr 2
      simp only [List.getD, List.getElem?_take]
      rw [if_pos (by omega)]

theorem walk {H : Type} {enc : TypeId × Value → H} {W : World} {base : Nat} {sp : Nat → Bool} {held : Bool} {fuel : Nat} {A : Option Addr} {n c : Nat} {x : DataW H × List MemPlace}
    (h : DataW.trod enc Tryd.prog W base sp held fuel 33 (Value.slice A n c).cells.toList = some x) (hT : Tabs W) :
    Calls Tryd.prog 7 #[.slice A n c] W fun e W' => e = .returned (.bool true) ∧ Below W.heap.size W W' := by
  rcases ints_in h with ⟨rfl, rfl, rfl⟩ | ⟨ad, rfl, hm, h0⟩
  · exact nil_ W hT
  · by_cases h50 : 50 < n
    · exact long_ _ n c W hT h50 (by unfold maxLen at hm; omega)
    · rcases h0 with rfl | ⟨b, off, xs, rfl, rfl, hb, hc⟩
      · exact empty_ ad c W hT
      · rcases Nat.eq_zero_or_pos xs.length with h0 | h0
        · rw [h0]; exact empty_ _ c W hT
        · exact short_ b off c xs W hT h0 (by omega) hc hb

theorem readable : ∀ t ∈ Tryd.f7.params.toList, Tryd.prog.readableRec t = true ∧ t < Tryd.prog.types.size := Frame.readable_of (by kernel_rfl)

set_option maxRecDepth 100000 in
theorem contract (H : Type) (enc : TypeId × Value → H) (W : World) (base : Nat) (args : Array Value) (ds gs : List (DataW H)) (before : List MemPlace)
    (hval : ∀ (j : Nat) t v, Tryd.f7.params[j]? = some t → args[j]? = some v → Value.okWide Tryd.prog W .any base t v)
    (hW : DataW.Whole enc Tryd.prog Tryd.f7.params.toList Rows.lengthSumsSpec.vars false W args.toList ds gs before) (hT : Len.Tabs W) :
    Calls Tryd.prog 7 args W fun e W' => ∃ v, e = .returned v ∧ Rows.lengthSumsSpec.post enc Tryd.prog Tryd.f7 false true false false W args v W' := by
  have hW' := hW
  obtain ⟨p, q, hA0, hV, rfl, hfz, hnd⟩ := hW
  have hA : DataW.TrodAll enc Tryd.prog W 0 (fun _ => true) true Tryd.f7.params.toList args.toList ds p := hA0
  rw [Tryd.params7] at hA hval
  obtain ⟨v0, vs0, d0, ds0, p0, q0, hargs, rfl, rfl, h0, r0⟩ := trodAll_cons hA
  obtain ⟨rfl, rfl, rfl⟩ := trodAll_nil r0
  obtain rfl : args = #[v0] := by cases args; simp_all
  obtain ⟨a0, len0, cap0, rfl⟩ := okWide_slice Tryd.underlying33 (hval 0 33 v0 rfl rfl)
  obtain ⟨fuel0, hf0⟩ := h0
  refine (walk hf0 hT).mono fun e W' ⟨he, hb⟩ => ⟨_, he, Frame.post_law Frame.laidOut readable (by kernel_rfl) Tryd.underlying4 hW' rfl rfl hb⟩

theorem laid_met (os : Os) : laidMetH Tryd.prog Rows.lengthSumsRow.laid ((World.laidAll Tryd.prog os Rows.lengthSumsRow.laid).forCall (fun _ _ => 0) ⟨#[], #[.slice none 0 0], []⟩).memory := by
  rw [MakeChecks.laidMetH_plain _ _ _ (by kernel_rfl)]; exact laidMet_laidAll _ (by kernel_rfl) (by kernel_rfl)
theorem reads (os : Os) {H : Type} (enc : TypeId × Value → H) : ∃ places, DataW.whole enc Tryd.prog ((World.laidAll Tryd.prog os Rows.lengthSumsRow.laid).forCall (fun _ _ => 0) ⟨#[], #[.slice none 0 0], []⟩).memory Tryd.f7.params.toList Rows.lengthSumsSpec.vars false (#[.slice none 0 0] : Array Value).toList 8 = some ([.nil], [], places) :=
  ⟨[], by kernel_rfl⟩
set_option maxRecDepth 100000 in
theorem lifted (os : Os) (started : os.Started) (H : Type) (enc : TypeId × Value → H) (F : Stop.Interp) :
    ReturnsInHanded {} Tryd.checked os 7 .any ((OpenSpec.ofChange Rows.lengthSumsSpec).preRow enc Tryd.prog Tryd.f7 Rows.lengthSumsRow.domain false Rows.lengthSumsRow.laid) (((OpenSpec.ofChange Rows.lengthSumsSpec).at F).post enc Tryd.prog Tryd.f7 false true false false) := by
  obtain ⟨places, hx⟩ := reads os enc
  refine returnsInHanded_of_row (C := Tryd.checked) (s := OpenSpec.ofChange Rows.lengthSumsSpec) Frame.own started (by kernel_rfl) Tryd.func7
    (Frame.witness_row_shaped (enc := enc) (C := Tryd.checked) false (World.laidAll Tryd.prog os Rows.lengthSumsRow.laid) #[.slice none 0 0] (World.laidAll_os _ _ _) (World.shaped_of_ZipB (by kernel_rfl) (by kernel_rfl)) (by kernel_rfl)
      (OpenSpec.preRow_of_cond 8 hx (by kernel_rfl) (fun k hk => by cases hk) (by kernel_rfl) (laid_met os))) ?_
  intro W base args ds gs before hval hW _ _ hsz hL hsh _
  rw [MakeChecks.laidMetH_plain _ _ _ (by kernel_rfl)] at hL
  exact contract H enc W base args ds gs before hval hW (Laid.tabs_of hL)

theorem said : Rows.LengthSumsSaid :=
  OpenClaim.holds_of_cond 7 Tryd.f7 rfl rfl rfl rfl rfl rfl rfl ⟨rfl, rfl, rfl, rfl, rfl⟩ rfl rfl rfl rfl rfl (by kernel_rfl) Tryd.func7 (by kernel_rfl)
    (of_decide_eq_true (by kernel_rfl)) (by unfold Func.isWrapper; first | (rw [if_pos (by decide +kernel)]; kernel_rfl) | (rw [if_neg (by decide +kernel)]; exact ⟨rfl, rfl⟩))
    (fun os started H enc _ F => by rw [OpenClaim.pre_eq_preRow]; exact lifted os started H enc F)

/-- No parameter wants a stand-in; the program's own looks are off. -/
theorem plain (f : FuncId) (fn : Func) (hf : Tryd.pinned.checked.prog.funcNamed "vinculum/vinculumlaw01.LengthSums" = some f) (hfn : Tryd.pinned.checked.prog.funcs[f]? = some fn) :
    true = Tryd.pinned.checked.prog.looks [] ∧ ∀ (j : Nat) t, fn.params[j]? = some t → Tryd.pinned.checked.prog.wantsStandIn t = false := by
  obtain rfl : f = 7 := Option.some.inj ((show Tryd.prog.funcNamed "vinculum/vinculumlaw01.LengthSums" = some 7 by kernel_rfl).symm.trans hf) |>.symm
  obtain rfl : fn = Tryd.f7 := (Option.some.inj (Tryd.func7.symm.trans hfn)).symm
  refine ⟨by kernel_rfl, fun j t ht => ?_⟩
  have hall : (Tryd.f7.params.toList.all fun u => !Tryd.prog.wantsStandIn u) = true := by kernel_rfl
  have hm : t ∈ Tryd.f7.params.toList := by simpa using Array.mem_of_getElem? ht
  exact (show Tryd.prog.wantsStandIn t = false by simpa using List.all_eq_true.1 hall t hm)

/-- ████ THE CARD ████ -/
theorem card : Rows.LengthSumsCardSaid :=
  Claim7.holds_tied_plain_at .later [] _ _ _ _ said (fun _ h => by cases h) (by kernel_rfl) (fun _ h => by cases h) lengthSums_row_tie rfl ⟨rfl, rfl⟩ (by kernel_rfl) rfl plain (by kernel_rfl)
end Go.Proofs.YtokdeeplblaieaaDoor.lengthSums

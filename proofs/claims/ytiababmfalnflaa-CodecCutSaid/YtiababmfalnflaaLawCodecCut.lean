/- CodecCut: for every value, every number and every bytes the law returns true and turns nothing that lay in memory. No condition. (Written by wip/tools/gencut.py.) -/
import Derived.SevenTiedAt
import Derived.OpenShut
import Derived.Test.YtiababmfalnflaaFrame
import Derived.Test.YtiababmfalnflaaCodLaw
namespace Go.Proofs.Ytiababmfalnflaa.codecCut
open Go Go.RowKit Go.WideShapes Go.ChangeShapes Cod

theorem tail_none {bs : List UInt8} (h : decV bs = none) {w : World} {B : Option Addr} {cb : Nat} (hB : BytAt w w.heap.size B bs) (h1 : bs.length ≤ cb) (h2 : cb ≤ 9223372036854775807) (h3 : B = none → cb = 0) :
    Calls Try.prog 20 #[.slice B bs.length cb] w fun e w' => e = .returned (.tuple #[.agg #[.int .i64 0, .int .i64 0, .string ⟨#[]⟩, .slice none 0 0], .int .i64 4]) ∧ Below w.heap.size w w' :=
  (decode_any hB h1 h2 h3).mono fun e w' hR => by rw [h] at hR; exact ⟨hR.2, hR.1⟩
theorem tail_some {bs : List UInt8} {t : T} (h : decV bs = some t) {w : World} {B : Option Addr} {cb : Nat} (hB : BytAt w w.heap.size B bs) (h1 : bs.length ≤ cb) (h2 : cb ≤ 9223372036854775807) (h3 : B = none → cb = 0) :
    Calls Try.prog 20 #[.slice B bs.length cb] w fun e w' => ∃ (a i : Int) (sb : ByteArray) (A : Option Addr) (n c : Nat), e = .returned (.tuple #[.agg #[.int .i64 a, .int .i64 i, .string sb, .slice A n c], .int .i64 0]) ∧
        Lies w' TT t (.agg #[.int .i64 a, .int .i64 i, .string sb, .slice A n c]) ∧ Below w.heap.size w w' :=
  (decode_any hB h1 h2 h3).mono fun e w' hR => by
    rw [h] at hR
    obtain ⟨hb, a, i, sb, A, n, c, he, hL⟩ := hR
    exact ⟨a, i, sb, A, n, c, he, hL.mono fun _ _ => trivial, hb⟩

theorem cut_none {t : T} {L : List UInt8} {m : Nat} (hv : valT 64 t = true) (hb : bdT t) (he : enc t = L) (hm : m < L.length) (hL : L.length ≤ 1048576) : decV (L.take m) = none := by
  cases hd : decV (L.take m) with
  | none => rfl
  | some t' =>
    exfalso
    unfold decV at hd
    split at hd
    · cases hd
    · split at hd
      · rename_i t2 hx
        obtain ⟨h1, h2, h3⟩ := enc_rd 64 _ _ _ (by rw [List.length_take]; omega) hx
        rw [List.append_nil] at h1
        have e1 := rd_enc 64 t2 h2 h3 (L.drop m)
        rw [← h1, List.take_append_drop] at e1
        have e2 := rd_enc 64 t hv hb []
        rw [he, List.append_nil, e1] at e2
        injection e2 with e2
        injection e2 with _ e3
        have := congrArg List.length e3
        rw [List.length_drop] at this
        simp at this
        omega
      · cases hd
theorem more_none {t : T} {L bs : List UInt8} (hv : valT 64 t = true) (hb : bdT t) (he : enc t = L) (hne : bs ≠ []) : decV (L ++ bs) = none := by
  unfold decV
  split
  · rfl
  · rw [← he, rd_enc 64 t hv hb bs]
    cases bs with
    | nil => exact absurd rfl hne
    | cons x r => rfl
theorem byt_empty {w : World} {g : Nat} (hg : w.heap.size = g) : Byt (w.alloc (.cells #[] 5)) g (.slice (some ⟨g, 0, none⟩) 0 0) [] :=
  ⟨rfl, .inr ⟨g, 0, #[], rfl, Nat.le_refl _, by subst hg; exact heap_alloc_new w _, Nat.le_refl _, Nat.zero_le _, rfl, rfl⟩⟩
theorem byt_app {w : World} {base : Nat} {v : Value} {l m : List UInt8} (h : w.ownsRow base 5 1 v (l.length + m.length) (cellsL l ++ cellsL m)) : Byt w base v (l ++ m) := by
  unfold Byt cellsL at *
  rw [List.map_append, List.length_append]
  exact h
theorem src_cells {w : World} {n0 : Nat} {a : Addr} {l : List UInt8} (h : BytAt w n0 (some a) l) : ∀ j u, (cellsL l)[j]? = some u → w.cell? (a.add j) = some u := by
  intro j u hu
  unfold cellsL at hu
  rw [List.getElem?_map] at hu
  rcases Nat.lt_or_ge j l.length with hj | hj
  · rw [List.getElem?_eq_getElem hj] at hu
    obtain ⟨g, off, h1, _, h3⟩ := h.pos (by omega)
    injection h1 with h1
    subst h1
    rw [Go.WideShapes.add_plain, h3 j hj]
    exact hu
  · rw [List.getElem?_eq_none hj] at hu; cases hu
theorem cells_one (l : List UInt8) : ∀ u ∈ cellsL l, u.oneCell' = true := by
  intro u hu
  unfold cellsL at hu
  obtain ⟨x, _, rfl⟩ := List.mem_map.1 hu
  rfl
theorem cells_len (l : List UInt8) : (cellsL l).length = l.length * 1 := by simp [cellsL]

set_option maxRecDepth 100000 in
set_option maxHeartbeats 16000000 in
theorem walk0 (t : T) (v : Value) (at_ : Nat) (bs : List UInt8) (bv : Value) (w : World) (hL : Lies w TT t v) (hat : at_ ≤ 65535) (hbv : BytesIn w bv bs) :
    Calls Try.prog 9 #[v, .int .u16 (at_ : Int), bv] w fun e w' => e = .returned (.bool true) ∧ Below w.heap.size w w' := by
  obtain ⟨k, i, s, l⟩ := t
  obtain ⟨sb, A, c, rfl, _⟩ := hL.node
  obtain ⟨B, cb, rfl, hB1, hB2, hB3, hBB⟩ := hbv
  obtain ⟨tv, htv⟩ : ∃ t, T.node k i s l = t := ⟨_, rfl⟩
  rw [htv] at hL
  clear htv
  obtain ⟨N, hN⟩ : ∃ N, w.heap.size = N := ⟨_, rfl⟩
  obtain ⟨W1, hW1⟩ : ∃ W, W = w.alloc (.cells #[.int .i64 k, .int .i64 i, .string sb, .slice A l.length c] 24) := ⟨_, rfl⟩
  have hb1 : Below w.heap.size w W1 := by rw [hW1]; exact below_new _ _
  have bx1 : Bx W1 N k i sb A l.length c := by rw [hW1]; exact Bx.new hN _ _ _ _ _ _ _
  have hL1 := hL.below hb1
  have hBB1 := bytAt_below hBB hb1
  have HW := Lib.hid hW1
  have HB1 := Lib.hid hb1
  have HBD := Lib.hid (Lies.bd _ _ hL)
  clear hL hBB hW1 hb1
  go_enter Try.func9, Try.ntmps9
  go_wp2_with fail
  rw [← HW.out]
  refine (awake_any _).mono ?_
  rintro e w2 ⟨rfl, hb⟩
  have bx2 := bx1.go hb
  have hL2 := hL1.below hb
  have HBB2 := Lib.hid (bytAt_below hBB1 hb)
  have HB2 := Lib.hid (below_self HB1.out hb)
  clear hb bx1 hL1 hBB1
  have a0 := bx2.c0
  have a1 := bx2.c1
  have a2 := bx2.c2
  have a3 := bx2.c3
  go_wp2_with fail
  clear a0 a1 a2 a3
  cases hfa : fewB tv with
  | false =>
    have HC : Hid (Calls Try.prog 12 #[.agg #[.int .i64 k, .int .i64 i, .string sb, .slice A l.length c]] w2 fun e w' => e = .returned (.bool false) ∧ Below w2.heap.size w2 w') := Lib.hid (hfa ▸ few_any hL2)
    clear hfa
    refine HC.out.mono ?_
    rintro e w3 ⟨rfl, hb⟩
    go_wp2_with fail
    go_ret
    exact ⟨rfl, below_self HB2.out hb⟩
  | true =>
    have HC : Hid (Calls Try.prog 12 #[.agg #[.int .i64 k, .int .i64 i, .string sb, .slice A l.length c]] w2 fun e w' => e = .returned (.bool true) ∧ Below w2.heap.size w2 w') := Lib.hid (hfa ▸ few_any hL2)
    have hfew : szT tv ≤ 300 ∧ shT tv = true := by unfold fewB at hfa; simpa using hfa
    have HSZ : Hid (szT tv ≤ 1000000) := Lib.hid (by omega)
    have HSH := Lib.hid hfew.2
    clear hfa hfew
    refine HC.out.mono ?_
    rintro e w3 ⟨rfl, hb⟩
    have bx3 := bx2.go hb
    have hL3 := hL2.below hb
    have HBB3 := Lib.hid (bytAt_below HBB2.out hb)
    have HB3 := Lib.hid (below_self HB2.out hb)
    clear hb bx2 hL2 HC HBB2
    by_cases hbig : 100 < bs.length
    · have hbi : (100 : Int) < (bs.length : Int) := by omega
      clear hbig
      go_wp2_with fail
      go_ret
      exact ⟨rfl, HB3.out⟩
    · have hbi : ¬ (100 : Int) < (bs.length : Int) := by omega
      have a0 := bx3.c0
      have a1 := bx3.c1
      have a2 := bx3.c2
      have a3 := bx3.c3
      go_wp2_with fail
      clear a0 a1 a2 a3
      have HO := Lib.hid (own_any hL3 HSZ.out)
      refine HO.out.mono ?_
      rintro e w4 hM
      obtain ⟨xa, xi, xs, xA, xn, xc, rfl, hLo, hb⟩ := hM.shape
      have bx4 := bx3.go hb
      have hL4 := hL3.below hb
      have HBB4 := Lib.hid (bytAt_below HBB3.out hb)
      have HB4 := Lib.hid (below_self HB3.out hb)
      clear hb bx3 hL3 HO hM HBB3
      go_wp2_with fail
      by_cases hok : valT 64 tv = true ∧ (enc tv).length ≤ 1048576
      · obtain ⟨L, hLe⟩ : ∃ L, enc tv = L := ⟨_, rfl⟩
        have HE := Lib.hid (encode_ok hLo HSH.out hok.1 hLe (hLe ▸ hok.2))
        have hL1 : 1 ≤ L.length := by rw [← hLe]; exact enc_pos tv
        have hL2 : L.length ≤ 1048576 := by rw [← hLe]; exact hok.2
        obtain ⟨m, hm⟩ : ∃ m, at_ % L.length = m := ⟨_, rfl⟩
        have hml : m < L.length := by rw [← hm]; exact Nat.mod_lt _ (by omega)
        have HD1 : Hid (decV (L.take m) = none) := Lib.hid (cut_none hok.1 HBD.out hLe hml hL2)
        have HD2 : Hid (bs ≠ [] → decV (L ++ bs) = none) := Lib.hid (more_none hok.1 HBD.out hLe)
        have HD3 : Hid (decV L = some tv) := Lib.hid (hLe ▸ dec_enc hok.1 HBD.out hok.2)
        have hmi : (at_ : Int) % (L.length : Int) = (m : Int) := by rw [← hm]; push_cast; rfl
        have hti : (m : Int).toNat = m := by omega
        have hml2 : (m : Int) ≤ (L.length : Int) := by omega
        have HTL : Hid ((L.take m).length = m) := Lib.hid (by rw [List.length_take]; omega)
        clear hok hLe hm
        obtain ⟨i0, hi0, hz0, hz1, hz2⟩ := info_parts info_u8
        refine HE.out.mono ?_
        rintro e w5 ⟨A5, c5, rfl, hBy, hb⟩
        have HBB5 := Lib.hid (bytAt_below HBB4.out hb)
        have HB5 := Lib.hid (below_self HB4.out hb)
        have HBY5 := Lib.hid hBy
        obtain ⟨h1, h2, h3, h4⟩ := hBy.at_
        cases A5 with
        | none =>
          exfalso
          have := h4 rfl
          omega
        | some a5 =>
        have HTK : Hid (BytAt w5 w5.heap.size (some a5) (L.take m)) := Lib.hid (h1.take m)
        have HSR : Hid (BytAt w5 w5.heap.size (some a5) L) := Lib.hid h1
        have HT0 := Lib.hid (tail_none HD1.out HTK.out (by rw [HTL.out]; omega) h3 (fun h => by cases h))
        have HT : Hid (Calls Try.prog 20 #[.slice (some a5) m c5] w5 fun e w' => e = .returned (.tuple #[.agg #[.int .i64 0, .int .i64 0, .string ⟨#[]⟩, .slice none 0 0], .int .i64 4]) ∧ Below w5.heap.size w5 w') := Lib.hid (by have := HT0.out; rw [HTL.out] at this; exact this)
        clear hb bx4 hL4 HE hLo HBB4 h1 h4 hBy HT0 HTK
        go_wp2_with (first
          | (go_at_call 20; refine HT.out.mono ?_; rintro e w6 ⟨rfl, hb⟩
             have hbn := below_new w6 (.cells #[.int .i64 0, .int .i64 0, .string ⟨#[]⟩, .slice none 0 0] 29)
             have hs7 : (w6.alloc (.cells #[.int .i64 0, .int .i64 0, .string ⟨#[]⟩, .slice none 0 0] 29)).heap.size = w6.heap.size + 1 := size_new rfl _
             have hbm := below_new (w6.alloc (.cells #[.int .i64 0, .int .i64 0, .string ⟨#[]⟩, .slice none 0 0] 29)) (.cells #[] 5)
             have hY0 := byt_empty (w := w6.alloc (.cells #[.int .i64 0, .int .i64 0, .string ⟨#[]⟩, .slice none 0 0] 29)) hs7
             have HS7 := Lib.hid (bytAt_below (bytAt_below (bytAt_below HSR.out hb) hbn) hbm)
             have HBB7 := Lib.hid (((bytAt_below HBB5.out hb).keep fun b o x hlt hx => old_cell hbn hx hlt).keep fun b o x hlt hx => old_cell hbm hx (by have h0 := hbn.size; omega))
             have HS6 := Lib.hid (((bytAt_below HSR.out hb).keep fun b o x hlt hx => old_cell hbn hx hlt).keep fun b o x hlt hx => old_cell hbm hx (by have h0 := hbn.size; omega))
             have HB7 := Lib.hid (below_self (below_self (below_self HB5.out hb) hbn) hbm)
             have hgs : w6.heap.size + 1 ≤ ((w6.alloc (.cells #[.int .i64 0, .int .i64 0, .string ⟨#[]⟩, .slice none 0 0] 29)).alloc (.cells #[] 5)).heap.size := by rw [size_new hs7]; omega
             have hgw : w.heap.size ≤ w6.heap.size + 1 := by have := (below_self (below_self HB5.out hb) hbn).size; omega
             clear hb hbn hbm)
          | (at_builtin; refine wpList_append_own_at _ rfl (.tmp 50) (.tmp 51) 31 rfl (w6.heap.size + 1) 5 i0 (.int .u8 0) 1 1 Try.underlying31 hi0 hz0 hz1 hz2 rfl (by decide) _ 0 (cellsL []) rfl hY0 a5 L.length c5 (cellsL L) rfl (cells_len L) (src_cells HS7.out) (cells_one L) ?c3 ?c4 hgs ?_)
          | fail)
        case c3 => unfold maxLen; omega
        case c4 => omega
        intro v8 w8 hown8 hgrow8 _ hat8
        have hY8 : Byt w8 (w6.heap.size + 1) v8 L := by have := byt_app (l := []) (m := L) (by simpa using hown8); simpa using this
        obtain ⟨A8, c8, rfl⟩ := hY8.form
        have HB8 := Lib.hid (HB7.out.grown hgrow8 (Nat.le_trans hgw hgs) (fun q hq => by simp [Value.ownBlock] at hq; omega))
        have hne : ∀ b, b < w6.heap.size + 1 → some b ≠ (Value.slice (some ⟨w6.heap.size + 1, 0, none⟩) 0 0).ownBlock := fun b hb => by simp [Value.ownBlock]; omega
        have HG8 := Lib.hid hgrow8
        have HY8 := Lib.hid hY8
        have hs8 := hgrow8.size
        clear hown8 hgrow8 hat8 hY8
        have HBQ : Hid (BytAt w8 w6.heap.size B bs) := Lib.hid (HBB7.out.keep fun b o x hlt hx => HG8.out.cell hx (hne b (by omega)))
        cases B with
        | none =>
          have hcb := hB3 rfl
          subst hcb
          have hbs : bs = [] := List.eq_nil_of_length_eq_zero (by omega)
          subst hbs
          go_wp2_with (first
            | (at_builtin; refine wpList_append_own_none rfl (.tmp 52) (.tmp 53) 31 rfl (w6.heap.size + 1) 5 i0 1 Try.underlying31 hi0 _ L.length (cellsL L) rfl HY8.out rfl ?_)
            | fail)
          obtain ⟨g1, g2, g3, g4⟩ := HY8.out.at_
          have HTT := Lib.hid (tail_some HD3.out g1 g2 g3 g4)
          clear g1 g2 g3 g4
          go_wp2_with (first | (go_at_call 20; refine HTT.out.mono ?_; rintro e w0 ⟨pa, pi, ps, pA, pn, pc, rfl, hLp, hbz⟩) | fail)
          go_ret
          exact ⟨rfl, below_self (below_self HB8.out hbz) (below_new _ _)⟩
        | some aB =>
          go_wp2_with (first
            | (at_builtin; refine wpList_append_own_at _ rfl (.tmp 52) (.tmp 53) 31 rfl (w6.heap.size + 1) 5 i0 (.int .u8 0) 1 1 Try.underlying31 hi0 hz0 hz1 hz2 rfl (by decide) _ L.length (cellsL L) rfl HY8.out aB bs.length cb (cellsL bs) rfl (cells_len bs) (src_cells HBQ.out) (cells_one bs) ?d3 ?d4 (Nat.le_trans hgs hs8) ?_)
            | fail)
          case d3 => unfold maxLen; omega
          case d4 => omega
          intro v9 w9 hown9 hgrow9 _ hat9
          have hY9 : Byt w9 (w6.heap.size + 1) v9 (L ++ bs) := byt_app hown9
          obtain ⟨A9, c9, rfl⟩ := hY9.form
          have HB9 := Lib.hid (HB8.out.grown hgrow9 (Nat.le_trans (Nat.le_trans hgw hgs) hs8) (fun q hq => by have := HY8.out.low q hq; omega))
          have HY9 := Lib.hid hY9
          clear hown9 hgrow9 hat9 hY9
          by_cases hbs : bs = []
          · subst hbs
            have HY10 : Hid (Byt w9 (w6.heap.size + 1) (.slice A9 L.length c9) L) := Lib.hid (by have := HY9.out; simpa using this)
            rw [List.append_nil]
            clear HY9
            obtain ⟨g1, g2, g3, g4⟩ := HY10.out.at_
            have HTT := Lib.hid (tail_some HD3.out g1 g2 g3 g4)
            clear g1 g2 g3 g4
            go_wp2_with (first | (go_at_call 20; refine HTT.out.mono ?_; rintro e w0 ⟨pa, pi, ps, pA, pn, pc, rfl, hLp, hbz⟩) | fail)
            go_ret
            exact ⟨rfl, below_self (below_self HB9.out hbz) (below_new _ _)⟩
          · have hbl : (((bs.length : Int)) == 0) = false := by
              have : 0 < bs.length := List.length_pos_iff.2 hbs
              simp; omega
            have HD4 := Lib.hid (HD2.out hbs)
            obtain ⟨Z, hZ⟩ : ∃ Z, L ++ bs = Z := ⟨_, rfl⟩
            rw [hZ] at HY9 HD4 ⊢
            clear hbs hZ HD2
            obtain ⟨g1, g2, g3, g4⟩ := HY9.out.at_
            have HTT := Lib.hid (tail_none HD4.out g1 g2 g3 g4)
            clear g1 g2 g3 g4
            go_wp2_with (first | (go_at_call 20; refine HTT.out.mono ?_; rintro e w0 ⟨rfl, hbz⟩) | fail)
            go_ret
            exact ⟨rfl, below_self (below_self HB9.out hbz) (below_new _ _)⟩
      · have HE := Lib.hid (encode_not hLo HSH.out hok)
        clear hok
        refine HE.out.mono ?_
        rintro e w5 ⟨n5, rfl, hn0, hn1, hb⟩
        have HB5 := Lib.hid (below_self HB4.out hb)
        clear hb bx4 hL4 HE hLo HBB4
        go_wp2_with fail
        go_ret
        exact ⟨rfl, HB5.out⟩
theorem u16_bds {a : Int} (h : (Lit.int .u16 a).wf = true) : 0 ≤ a ∧ a ≤ 65535 := by unfold Lit.wf at h; simp [IntKind.min, IntKind.max, IntKind.bits, IntKind.signed] at h; omega
theorem walk (t : T) (v : Value) (a : Int) (bs : List UInt8) (bv : Value) (w : World) (hL : Lies w TT t v) (ha : 0 ≤ a ∧ a ≤ 65535) (hbv : BytesIn w bv bs) :
    Calls Try.prog 9 #[v, .int .u16 a, bv] w fun e w' => e = .returned (.bool true) ∧ Below w.heap.size w w' := by
  obtain ⟨n, rfl⟩ : ∃ n : Nat, a = (n : Int) := ⟨a.toNat, by omega⟩
  exact walk0 t v n bs bv w hL (by omega) hbv

theorem readable : ∀ t ∈ Try.f9.params.toList, Try.prog.readableRec t = true ∧ t < Try.prog.types.size := Frame.readable_of (by kernel_rfl)

set_option maxRecDepth 100000 in
theorem contract (H : Type) (enc : TypeId × Value → H) (W : World) (base : Nat) (args : Array Value) (ds gs : List (DataW H)) (before : List MemPlace)
    (hval : ∀ (j : Nat) t v, Try.f9.params[j]? = some t → args[j]? = some v → Value.okWide Try.prog W .any base t v)
    (hW : DataW.Whole enc Try.prog Try.f9.params.toList Rows.codecCutSpec.vars false W args.toList ds gs before) (hT : True) :
    Calls Try.prog 9 args W fun e W' => ∃ v, e = .returned v ∧ Rows.codecCutSpec.post enc Try.prog Try.f9 false true false false W args v W' := by
  have hW' := hW
  obtain ⟨p, q, hA0, hV, rfl, hfz, hnd⟩ := hW
  have hA : DataW.TrodAll enc Try.prog W 0 (fun _ => true) true Try.f9.params.toList args.toList ds p := hA0
  rw [Try.params9] at hA hval
  obtain ⟨v0, vs0, d0, ds0, p0, q0, hargs, rfl, rfl, h0, r0⟩ := trodAll_cons hA
  obtain ⟨v1, vs1, d1, ds1, p1, q1, rfl, rfl, rfl, h1, r1⟩ := trodAll_cons r0
  obtain ⟨v2, vs2, d2, ds2, p2, q2, rfl, rfl, rfl, h2, r2⟩ := trodAll_cons r1
  obtain ⟨rfl, rfl, rfl⟩ := trodAll_nil r2
  obtain rfl : args = #[v0, v1, v2] := by cases args; simp_all
  obtain ⟨tv0, hv0⟩ := Cod.open_value (hval 0 24 v0 rfl rfl) h0
  obtain ⟨a1, rfl, rfl, rfl, w1⟩ := open_int Try.underlying54 (hval 1 54 v1 rfl rfl) h1
  obtain ⟨bs2, hb2⟩ := Cod.open_bytes (hval 2 31 v2 rfl rfl) h2
  refine (walk tv0 _ a1 bs2 _ W hv0 (u16_bds w1) hb2).mono fun e W' ⟨he, hb⟩ => ⟨_, he, Frame.post_law Frame.laidOut readable (by kernel_rfl) Try.underlying4 hW' rfl rfl hb⟩

theorem laid_met (os : Os) : laidMetH Try.prog Rows.codecCutRow.laid ((World.laidAll Try.prog os Rows.codecCutRow.laid).forCall (fun _ _ => 0) ⟨#[], #[.agg #[.int .i64 0, .int .i64 0, .string ⟨#[]⟩, .slice none 0 0], .int .u16 0, .slice none 0 0], []⟩).memory := by
  rw [MakeChecks.laidMetH_plain _ _ _ (by kernel_rfl)]; exact laidMet_laidAll _ (by kernel_rfl) (by kernel_rfl)
theorem reads (os : Os) {H : Type} (enc : TypeId × Value → H) : ∃ places, DataW.whole enc Try.prog ((World.laidAll Try.prog os Rows.codecCutRow.laid).forCall (fun _ _ => 0) ⟨#[], #[.agg #[.int .i64 0, .int .i64 0, .string ⟨#[]⟩, .slice none 0 0], .int .u16 0, .slice none 0 0], []⟩).memory Try.f9.params.toList Rows.codecCutSpec.vars false (#[.agg #[.int .i64 0, .int .i64 0, .string ⟨#[]⟩, .slice none 0 0], .int .u16 0, .slice none 0 0] : Array Value).toList 8 = some ([.agg [.lit (.int .i64 0), .lit (.int .i64 0), .lit (.string []), .nil], .lit (.int .u16 0), .nil], [], places) :=
  ⟨[], by kernel_rfl⟩
set_option maxRecDepth 100000 in
theorem lifted (os : Os) (started : os.Started) (H : Type) (enc : TypeId × Value → H) (F : Stop.Interp) :
    ReturnsInHanded {} Try.checked os 9 .any ((OpenSpec.ofChange Rows.codecCutSpec).preRow enc Try.prog Try.f9 Rows.codecCutRow.domain false Rows.codecCutRow.laid) (((OpenSpec.ofChange Rows.codecCutSpec).at F).post enc Try.prog Try.f9 false true false false) := by
  obtain ⟨places, hx⟩ := reads os enc
  refine returnsInHanded_of_row (C := Try.checked) (s := OpenSpec.ofChange Rows.codecCutSpec) Frame.own started (by kernel_rfl) Try.func9
    (Frame.witness_row_shaped (enc := enc) (C := Try.checked) false (World.laidAll Try.prog os Rows.codecCutRow.laid) #[.agg #[.int .i64 0, .int .i64 0, .string ⟨#[]⟩, .slice none 0 0], .int .u16 0, .slice none 0 0] (World.laidAll_os _ _ _) (World.shaped_of_ZipB (by kernel_rfl) (by kernel_rfl)) (by kernel_rfl)
      (OpenSpec.preRow_of_cond 8 hx (by kernel_rfl) (fun k hk => by cases hk) (by kernel_rfl) (laid_met os))) ?_
  intro W base args ds gs before hval hW _ _ hsz hL hsh _
  rw [MakeChecks.laidMetH_plain _ _ _ (by kernel_rfl)] at hL
  exact contract H enc W base args ds gs before hval hW (trivial)

theorem said : Rows.CodecCutSaid :=
  OpenClaim.holds_of_cond 9 Try.f9 rfl rfl rfl rfl rfl rfl rfl ⟨rfl, rfl, rfl, rfl, rfl⟩ rfl rfl rfl rfl rfl (by kernel_rfl) Try.func9 (by kernel_rfl)
    (of_decide_eq_true (by kernel_rfl)) (by unfold Func.isWrapper; first | (rw [if_pos (by decide +kernel)]; kernel_rfl) | (rw [if_neg (by decide +kernel)]; exact ⟨rfl, rfl⟩))
    (fun os started H enc _ F => by rw [OpenClaim.pre_eq_preRow]; exact lifted os started H enc F)

end Go.Proofs.Ytiababmfalnflaa.codecCut

/- Encode of the reference. -/
import Derived.Test.YtiababmfalnflaaCodHd2
namespace Go.Proofs.Ytiababmfalnflaa.Cod
open Go Go.RowKit Go.Lib

/-- append of a string, as a step of a region that draws its order -/
theorem step_append_str {P : Program} {ops : Array Oper} {o : Oper} {a : Act} {w : World} {K : Act → World → Prop} {Q : Exit → Act → World → Prop} {E : Prop}
    (hg : o.guard = none) (sl x : Operand) (t u : TypeId) (hop : o.op = Op.call { callee := Callee.builtin Builtin.append, args := #[sl, x], argTypes := #[t, u] })
    (base : Nat) (e : TypeId) (i : TypeInfo) (ht : P.underlying t = some (.slice e)) (hu : P.underlying u = some .string) (hi : P.info? e = some i) (hz : i.zero = some (.int .u8 0))
    (hsize : i.size = 1) (hby : i.bytes = 1)
    (v : Value) (n : Nat) (hn : 0 < n) (xs : List Value) (hs : a.eval sl = v) (hown : w.ownsRow base e 1 v n xs) (s : ByteArray) (hx : a.eval x = .string s)
    (h63 : n + s.size ≤ maxLen) (hbytes : n + s.size ≤ 140737488355328) (hbase : base ≤ w.heap.size)
    (h : ∀ v' w', w'.ownsRow base e 1 v' (n + s.size) (xs ++ strCells s) → w.grownBy w' v.ownBlock → (v'.ownBlock = v.ownBlock ∨ v'.ownBlock = some w.heap.size) → K (a.put o.dst v') w') :
    if Region.wanted o (yielded ops a.tmps) = true then Oper.wp P o a w K Q else E := by
  have hw : Region.wanted o (yielded ops a.tmps) = true := by simp [Region.wanted, hg]
  rw [if_pos hw]
  obtain ⟨v', w', hr, h2, h3, _⟩ := run_append_own_string (P := P) w base t u o.type e i ht hu hi hz hsize hby v n xs hown s h63 hbytes hbase
  have hat := str_place ht hu hi hz hsize hby hown hn hbytes hr
  unfold Oper.wp execOp
  simp only [hop, resolve, invoke, builtin, Sem.run_bind, Sem.run_pure, Result.andThen_ok, List.map_toArray, List.map_cons, List.map_nil, hs, hx, hr]
  exact h v' w' h2 h3 hat
theorem byt_app2 {w : World} {base : Nat} {v : Value} {l m : List UInt8} (h : w.ownsRow base 5 1 v (l.length + m.length) (cellsL l ++ cellsL m)) : Byt w base v (l ++ m) := by
  unfold Byt cellsL at *
  rw [List.map_append, List.length_append]
  exact h
theorem Byt.some_of {w : World} {base n c : Nat} {A : Option Addr} {l : List UInt8} (h : Byt w base (.slice A n c) l) (hl : 0 < l.length) : ∃ a, A = some a := by
  cases A with
  | none => rw [(Byt.none_nil h).1] at hl; exact absurd hl (by simp)
  | some a => exact ⟨a, rfl⟩
set_option maxRecDepth 100000 in
set_option maxHeartbeats 2000000 in
theorem renc_n : ∀ (n : Nat) (t : T) (tv : Value) (F : Nat → Prop) (w : World), szT t ≤ n → propT t = true → Lies w F t tv → (enc t).length ≤ 10000000000 →
    Calls Try.prog 19 #[tv] w (Fresh w (enc t)) := by
  intro n
  induction n with
  | zero => intro t tv F w h; have := szT_pos t; omega
  | succ n ih =>
    intro t tv F w hn hp hT hlen
    obtain ⟨k, i, s, l⟩ := t
    have hT0 := hT
    obtain ⟨sb, A, c, rfl, hs, hk, hi, hs2, hl, hA⟩ := hT.node
    have hsz : Hid (szT (.node k i s l) = 1 + szL l) := Lib.hid rfl
    have IH := Lib.hid ih
    obtain ⟨N, hN⟩ : ∃ N, w.heap.size = N := ⟨_, rfl⟩
    obtain ⟨W1, hW1⟩ : ∃ W1, W1 = w.alloc (.cells #[.int .i64 k, .int .i64 i, .string sb, .slice A l.length c] 24) := ⟨_, rfl⟩
    have HW1 := Lib.hid hW1
    have hs1 : W1.heap.size = N + 1 := by rw [hW1]; exact size_new hN _
    have hB1 : Below w.heap.size w W1 := by rw [hW1]; exact below_new _ _
    have hc0 : W1.cell? ⟨N, 0, none⟩ = some (.int .i64 k) := by rw [hW1]; exact new_cell hN _ _ 0 rfl
    have hc1 : W1.cell? ⟨N, 1, none⟩ = some (.int .i64 i) := by rw [hW1]; exact new_cell hN _ _ 1 rfl
    have hc2 : W1.cell? ⟨N, 2, none⟩ = some (.string sb) := by rw [hW1]; exact new_cell hN _ _ 2 rfl
    have hc3 : W1.cell? ⟨N, 3, none⟩ = some (.slice A l.length c) := by rw [hW1]; exact new_cell hN _ _ 3 rfl
    have hA1 : ListAt W1 F A l := hA.below hB1
    have hpp : ownB k i s l.length = true ∧ propL l = true := by simpa [propT] using hp
    have hk3 : 1 ≤ k ∧ k ≤ 3 := by rcases own_kind hpp.1 with h | h | h <;> omega
    obtain ⟨Hd, hHd⟩ : ∃ Hd, headL k.toNat (numT (.node k i s l)) = Hd := ⟨_, rfl⟩
    have HHD : Hid (Calls Try.prog 33 #[.agg #[.int .i64 k, .int .i64 i, .string sb, .slice A l.length c]] W1.drew (Fresh W1.drew Hd)) := Lib.hid (hHd ▸ rhead_any (hT0.below hB1).drew hk3.1 hk3.2)
    have hHd1 : 0 < Hd.length := by rw [← hHd]; have := headL_pos k.toNat (numT (.node k i s l)); omega
    have HE : Hid (enc (.node k i s l) = Hd ++ s ++ encs l) := Lib.hid (by rw [enc, hHd])
    have hle := congrArg List.length HE.out
    rw [List.length_append, List.length_append] at hle
    have hHd2 : Hd.length ≤ 10000000000 := by omega
    have hsb : sb.size = s.length := by subst hs; simp
    have hsb2 : sb.size ≤ 10000000000 := by omega
    have hel : (encs l).length ≤ 10000000000 := by omega
    have hall : Hid (Hd.length + s.length + (encs l).length ≤ 10000000000) := Lib.hid (by omega)
    have HSB := Lib.hid hsb
    have HB := Lib.hid hB1
    have HS := Lib.hid hs
    have HN := Lib.hid hN
    have HP := Lib.hid hpp.2
    have hdr : Below W1.heap.size W1 W1.drew := ⟨rfl, rfl, rfl, Nat.le_refl _, fun _ _ => rfl⟩
    obtain ⟨i0, hi0, hz0, hz1, hz2⟩ := info_parts info_u8
    clear hT hT0 ih hs hA hW1 hp hpp hi hk hk3 hB1 hHd hle hlen hsb
    go_enter Try.func19, Try.ntmps19
    go_upto_region 1 with fail
    rw [← HW1.out]
    go_cut [3] from 5 to 9 (fun b wx => ∃ A3 c3 G, G = Hd ++ s ∧ b = .slice A3 G.length c3 ∧ Hid (Byt wx W1.heap.size (.slice A3 G.length c3) G) ∧ Below W1.heap.size W1 wx)
    case first =>
      go_region_law (first
        | (refine step_append_str rfl (.tmp 6) (.tmp 8) 31 9 rfl W1.heap.size 5 i0 Try.underlying31 Try.underlying9 hi0 hz0 hz1 hz2 (.slice A5 Hd.length c5) Hd.length hHd1 (cellsL Hd) (by simp [Act.eval]) HB5.out sb (by simp [Act.eval]) (by unfold maxLen; omega) (by omega) (by have := hb5.size; exact this) ?_
           intro v4 w4 hown hgrow hat
           have hB4 : Byt w4 W1.heap.size v4 (Hd ++ s) := byt_str HS.out hown
           obtain ⟨A4, c4, rfl⟩ := hB4.form
           have HB4 := Lib.hid hB4
           have hb4 : Below W1.heap.size W1 w4 := (below_self hdr hb5).grown hgrow hb5.size (fun k hk => HB5.out.low k hk)
           clear hown hgrow hat hB4)
        | (go_simp
           refine HHD.out.mono ?_
           rintro e w5 ⟨A5, c5, rfl, hB5, hb5⟩
           have HB5 : Hid (Byt w5 W1.heap.size (.slice A5 Hd.length c5) Hd) := Lib.hid hB5
           have p2 := old_cell hb5 hc2 (by show N < W1.heap.size; omega)
           have p3 := old_cell hb5 hc3 (by show N < W1.heap.size; omega)
           clear hB5))
      all_goals
        go_wp2_with fail
        go_meet
        exact ⟨A4, c4, Hd ++ s, rfl, by simp, HB4, hb4⟩
    case rest =>
      obtain ⟨A3, c3, G, hG, rfl, HB3, hb3⟩ := hcut
      have e3 := old_cell hb3 hc3 (by omega)
      have HG := Lib.hid hG
      have hGl : G.length = Hd.length + s.length := by rw [hG, List.length_append]
      have hGL := Lib.hid hGl
      clear hG hGl HHD hdr hc0 hc1 hc2
      have hb0 : Hid (G.length + (encs l).length ≤ 10000000000) := Lib.hid (by have h1 := hall.out; have h2 := hGL.out; omega)
      go_wp2_with fail
      go_loopw [3, 4] (fun b a wr => ∃ (j : Nat) (A5 : Option Addr) (c5 : Nat) (Q : List UInt8), j ≤ l.length ∧ a = .int .i64 j ∧ b = .slice A5 Q.length c5 ∧ Hid (Byt wr W1.heap.size (.slice A5 Q.length c5) Q) ∧ Hid (Q = G ++ encs (l.take j)) ∧ Below W1.heap.size W1 wr)
        (fun _ a _ => l.length - (RowKit.intOf a).toNat)
      case atStart => exact ⟨0, A3, c3, G, Nat.zero_le _, rfl, rfl, HB3, Lib.hid (by simp [encs]), hb3⟩
      case round =>
        obtain ⟨j, A5, c5, Q, hj, rfl, rfl, HB5, HQ, hb5⟩ := hrel
        have hAw := hA1.below hb5
        have y3 := old_cell hb5 hc3 (by omega)
        by_cases hlt : j < l.length
        · obtain ⟨b, off, xa, xi, xs, xB, xn, xc, rfl, hF, d0, d1, d2, d3, hLj⟩ := hAw.at hlt
          have hszj : szT l[j] ≤ n := by have h1 := szL_get hlt; have h2 := hsz.out; omega
          have htk := encs_take hlt
          have htl := encs_take_le l (j + 1)
          have htl2 := congrArg List.length htk
          have htl3 := congrArg List.length HQ.out
          rw [List.length_append] at htl2 htl3
          obtain ⟨E, hE⟩ : ∃ E, enc l[j] = E := ⟨_, rfl⟩
          have hEp : 0 < E.length := by rw [← hE]; have := enc_pos l[j]; omega
          rw [hE] at htk htl2
          have hEQ : Q.length + E.length ≤ 10000000000 := by have := hb0.out; omega
          have HC : Hid (Calls Try.prog 19 #[.agg #[.int .i64 xa, .int .i64 xi, .string xs, .slice xB xn xc]] wr (Fresh wr E)) :=
            Lib.hid (hE ▸ IH.out l[j] _ F wr hszj (propL_get HP.out hlt) hLj (by rw [hE]; omega))
          have HNX : Hid (Q ++ E = G ++ encs (l.take (j + 1))) := Lib.hid (by rw [HQ.out, htk, List.append_assoc])
          have HBW := Lib.hid hb5
          have hsw := hb5.size
          clear hAw hLj htk htl htl2 htl3 hE
          go_wp2_with (first
            | (go_at_call 19
               refine HC.out.mono ?_
               rintro e w6 ⟨A6, c6, rfl, hB6, hb6⟩
               have HB6 := Lib.hid hB6
               have HB56 := Lib.hid (HB5.out.below hb6)
               have HBW6 := Lib.hid (below_self HBW.out hb6)
               have hs6 := hb6.size
               obtain ⟨a6, rfl⟩ := hB6.some_of hEp
               clear hB6)
            | (at_builtin; refine wpList_append_own_at _ rfl (.tmp 17) (.tmp 23) 31 rfl W1.heap.size 5 i0 (.int .u8 0) 1 1 Try.underlying31 hi0 hz0 hz1 hz2 rfl (by decide) (.slice A5 Q.length c5) Q.length (cellsL Q) rfl HB56.out a6 E.length c6 (cellsL E) rfl (lenL E) (Byt.src HB6.out) (oneL E) ?c3 ?c4 (Nat.le_trans hsw hs6) ?_)
            | fail)
          case c3 => unfold maxLen; omega
          case c4 => omega
          intro v7 w7 hown hgrow _ hat
          have hB7 : Byt w7 W1.heap.size v7 (Q ++ E) := byt_app2 (by rw [hs1]; exact hown)
          obtain ⟨A7, c7, rfl⟩ := hB7.form
          have hb7 : Below W1.heap.size W1 w7 := HBW6.out.grown hgrow (Nat.le_trans hsw hs6) (fun k hk => HB56.out.low k hk)
          obtain ⟨Z, hZ⟩ : ∃ Z, Q ++ E = Z := ⟨_, rfl⟩
          rw [hZ] at hB7 HNX ⊢
          have HB7 := Lib.hid hB7
          clear hown hgrow hat hB7 hZ
          go_wp2
          go_roundw
          case rel => exact ⟨j + 1, A7, c7, Z, by omega, by go_num, rfl, HB7, HNX, hb7⟩
          case measure => simp [RowKit.intOf]; omega
        · have hfin : Hid (Q = enc (.node k i s l)) := Lib.hid (by rw [HQ.out, HE.out, HG.out, List.take_of_length_le (by omega)])
          clear hAw
          go_wp2_with fail
          go_ret
          rw [← hfin.out]
          exact Fresh.mk (HB5.out.mono (by omega)) (below_self HB.out hb5)
end Go.Proofs.Ytiababmfalnflaa.Cod

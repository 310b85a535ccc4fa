/- append of a string's bytes, with the place where the new slice lies. -/
import Derived.Test.YtohoobgbmhondaaCodHead
import Derived.Test.YtohoobgbmhondaaCodGrow
import Derived.Lib.AppendStr
import Derived.Deep.DeepCutAuto
namespace Go.Proofs.Ytohoobgbmhondaa.Cod
open Go Go.RowKit Go.Lib

theorem str_place {P : Program} {w w' : World} {base : Nat} {t u ty e : TypeId} {i : TypeInfo} (ht : P.underlying t = some (.slice e)) (hu : P.underlying u = some .string) (hi : P.info? e = some i) (hz : i.zero = some (.int .u8 0)) (hs1 : i.size = 1) (hby : i.bytes = 1)
    {v v' : Value} {n : Nat} {xs : List Value} (hown : w.ownsRow base e 1 v n xs) (hn : 0 < n) {s : ByteArray} (hb : n + s.size ≤ 140737488355328)
    (hr : (Builtin.append_ #[t, u] ty #[v, .string s]).run P w = .ok v' w') : v'.ownBlock = v.ownBlock ∨ v'.ownBlock = some w.heap.size := by
  rcases hown.2 with ⟨_, h0⟩ | ⟨g, cap, cur, rfl, hbg, hg, hnc, hcm, hcs, htake⟩
  · omega
  · rcases Nat.lt_or_ge cap (n + s.size) with hlt | hge
    · have h2 := run_append_grow_string (P := P) w t u ty e i (.int .u8 0) ht hu hi hz ⟨g, 0, none⟩ n cap xs (by rw [hs1]; exact hown.1) (hown.cells (g := g) rfl) s hlt (by omega) (by rw [hby]; exact growslice_fits (by omega) (by omega))
      rw [h2] at hr
      injection hr with e1 _
      right
      rw [← e1]
      rfl
    · have h2 := run_append_room_string (P := P) w t u ty e i ht hu hi hs1 g n cap cur hg s hge (by omega)
      rw [h2] at hr
      injection hr with e1 _
      left
      rw [← e1]
      rfl
theorem wpList_append_str_at {P : Program} (w : World) {ops : Array Oper} {rest : List Oper} {o : Oper} {a : Act} {Q : Exit → Act → World → Prop} (hgd : o.guard = none) (sl x : Operand) (t u : TypeId)
    (ho : o.op = .call { callee := .builtin .append, args := #[sl, x], argTypes := #[t, u] })
    (base : Nat) (e : TypeId) (i : TypeInfo) (ht : P.underlying t = some (.slice e)) (hu : P.underlying u = some .string) (hi : P.info? e = some i) (hz : i.zero = some (.int .u8 0))
    (hsize : i.size = 1) (hby : i.bytes = 1)
    (v : Value) (n : Nat) (hn : 0 < n) (xs : List Value) (hs : a.eval sl = v) (hown : w.ownsRow base e 1 v n xs) (s : ByteArray) (hx : a.eval x = .string s)
    (h63 : n + s.size ≤ maxLen) (hbytes : n + s.size ≤ 140737488355328) (hbase : base ≤ w.heap.size)
    (h : ∀ v' w', w'.ownsRow base e 1 v' (n + s.size) (xs ++ strCells s) → w.grownBy w' v.ownBlock → (v'.ownBlock = v.ownBlock ∨ v'.ownBlock = some w.heap.size) → wpList P ops Q rest (a.put o.dst v') w') : wpList P ops Q (o :: rest) a w := by
  refine wpList_plain hgd fun K hK => ?_
  obtain ⟨v', w', hr, h2, h3, _⟩ := run_append_own_string (P := P) w base t u o.type e i ht hu hi hz hsize hby v n xs hown s h63 hbytes hbase
  have hat := str_place ht hu hi hz hsize hby hown hn hbytes hr
  unfold Oper.wp execOp
  simp only [ho, resolve, invoke, builtin, Sem.run_bind, Sem.run_pure, Result.andThen_ok, List.map_toArray, List.map_cons, List.map_nil, hs, hx, hr]
  exact hK _ _ (h v' w' h2 h3 hat)
theorem byt_str {w' : World} {base : Nat} {v' : Value} {l : List UInt8} {s : ByteArray} {m : List UInt8} (hs : s.data.toList = m) (h : w'.ownsRow base 5 1 v' (l.length + s.size) (cellsL l ++ strCells s)) : Byt w' base v' (l ++ m) := by
  subst hs
  unfold Byt cellsL at *
  rw [List.map_append, List.length_append]
  have : s.data.toList.length = s.size := by simp
  rw [this]
  exact h
theorem Byt.form {w : World} {base : Nat} {v : Value} {l : List UInt8} (h : Byt w base v l) : ∃ A c, v = .slice A l.length c := by
  rcases h.2 with ⟨e1, e2⟩ | ⟨g, cap, cur, e1, _⟩
  · exact ⟨none, 0, by rw [e1, e2]⟩
  · exact ⟨_, _, e1⟩

/-- what appendValue answers -/
def EncR (base : Nat) (w : World) (v : Value) (L : List UInt8) (t : T) (e : Ending) (w' : World) : Prop :=
  ∃ v', Grew w w' v v' ∧ ((L.length + (enc t).length ≤ 1048576 ∧ e = .returned (.tuple #[v', .bool true]) ∧ Byt w' base v' (L ++ enc t)) ∨
    (1048576 < L.length + (enc t).length ∧ e = .returned (.tuple #[.slice none 0 0, .bool false])))
theorem EncR.ok {base : Nat} {w w' : World} {v : Value} {L : List UInt8} {t : T} {e : Ending} (h : EncR base w v L t e w') (hle : L.length + (enc t).length ≤ 1048576) :
    ∃ A c, e = .returned (.tuple #[.slice A (L ++ enc t).length c, .bool true]) ∧ Hid (Byt w' base (.slice A (L ++ enc t).length c) (L ++ enc t)) ∧ Hid (Grew w w' v (.slice A (L ++ enc t).length c)) := by
  obtain ⟨v', hg, (⟨_, rfl, hb⟩ | ⟨hgt, _⟩)⟩ := h
  · obtain ⟨A, c, rfl⟩ := hb.form
    exact ⟨A, c, rfl, Lib.hid hb, Lib.hid hg⟩
  · omega
theorem EncR.fail {base : Nat} {w w' : World} {v : Value} {L : List UInt8} {t : T} {e : Ending} (h : EncR base w v L t e w') (hle : ¬ L.length + (enc t).length ≤ 1048576) :
    e = .returned (.tuple #[.slice none 0 0, .bool false]) ∧ Hid (∃ v', Grew w w' v v') := by
  obtain ⟨v', hg, (⟨hgt, rfl, hb⟩ | ⟨_, he⟩)⟩ := h
  · omega
  · exact ⟨he, Lib.hid ⟨v', hg⟩⟩
theorem EncR.bad {base : Nat} {w w' : World} {v : Value} {L : List UInt8} {t : T} (h : ∃ v', Grew w w' v v') (hgt : 1048576 < L.length + (enc t).length) : EncR base w v L t (.returned (.tuple #[.slice none 0 0, .bool false])) w' := by
  obtain ⟨v', hg⟩ := h
  exact ⟨v', hg, .inr ⟨hgt, rfl⟩⟩
theorem EncR.good {base : Nat} {w w' : World} {v v' : Value} {L P : List UInt8} {t : T} (hg : Grew w w' v v') (hb : Byt w' base v' P) (hP : P = L ++ enc t) (hle : P.length ≤ 1048576) : EncR base w v L t (.returned (.tuple #[v', .bool true])) w' := by
  subst hP
  exact ⟨v', hg, .inl ⟨by rw [List.length_append] at hle; exact hle, rfl, hb⟩⟩
theorem Grew.list {w w' : World} {v v' : Value} (h : Grew w w' v v') {F : Nat → Prop} {A : Option Addr} {l : List T} (hF : ∀ b, F b → some b ≠ v.ownBlock) (hA : ListAt w F A l) : ListAt w' F A l :=
  hA.map (fun _ h => h) fun b _ _ hf hx => h.cell hx (hF b hf)
set_option maxRecDepth 100000 in
set_option maxHeartbeats 2000000 in
theorem put_n : ∀ (n : Nat) (t : T) (tv v : Value) (F : Nat → Prop) (base : Nat) (L : List UInt8) (w : World), szT t ≤ n → propT t = true → shT t = true → Lies w F t tv → (∀ b, F b → b < base) → base ≤ w.heap.size → Byt w base v L → L.length ≤ 1048576 →
    Calls Try.prog 29 #[v, tv] w (EncR base w v L t) := by
  intro n
  induction n with
  | zero => intro t tv v F base L w h; have := szT_pos t; omega
  | succ n ih =>
    intro t tv v F base L w hn hp hsh hT hFb hbase hBy hLl
    obtain ⟨k, i, s, l⟩ := t
    obtain ⟨sb, A, c, rfl, hs, hk, hi, hs2, hl, hA⟩ := hT.node
    have hsz : Hid (szT (.node k i s l) = 1 + szL l) := Lib.hid rfl
    have IH := Lib.hid ih
    obtain ⟨N, hN⟩ : ∃ N, w.heap.size = N := ⟨_, rfl⟩
    obtain ⟨W1, hW1⟩ : ∃ W1, W1 = w.alloc (.cells #[.int .i64 k, .int .i64 i, .string sb, .slice A l.length c] 33) := ⟨_, rfl⟩
    have HW1 := Lib.hid hW1
    have hs1 : W1.heap.size = N + 1 := by rw [hW1]; exact size_new hN _
    have hB1 : Below w.heap.size w W1 := by rw [hW1]; exact below_new _ _
    have hc0 : W1.cell? ⟨N, 0, none⟩ = some (.int .i64 k) := by rw [hW1]; exact new_cell hN _ _ 0 rfl
    have hc1 : W1.cell? ⟨N, 1, none⟩ = some (.int .i64 i) := by rw [hW1]; exact new_cell hN _ _ 1 rfl
    have hc2 : W1.cell? ⟨N, 2, none⟩ = some (.string sb) := by rw [hW1]; exact new_cell hN _ _ 2 rfl
    have hc3 : W1.cell? ⟨N, 3, none⟩ = some (.slice A l.length c) := by rw [hW1]; exact new_cell hN _ _ 3 rfl
    have hA1 : ListAt W1 F A l := hA.below hB1
    have hs5 : shL l = true ∧ s.length ≤ 5000 := by simpa [shT] using hsh
    have HSL := Lib.hid hs5.1
    have hpp : ownB k i s l.length = true ∧ propL l = true := by simpa [propT] using hp
    have hk3 : 1 ≤ k ∧ k ≤ 3 := by rcases own_kind hpp.1 with h | h | h <;> omega
    obtain ⟨kn, rfl⟩ : ∃ kn : Nat, k = (kn : Int) := ⟨k.toNat, by omega⟩
    obtain ⟨q, hq⟩ : ∃ q, numT (.node (kn : Int) i s l) = q := ⟨_, rfl⟩
    have hq64 : q < 18446744073709551616 := by
      rw [← hq]; simp only [numT]; obtain ⟨h1, h2⟩ := hi
      split
      · omega
      · split
        · omega
        · split <;> omega
    have HE : Hid (enc (.node (kn : Int) i s l) = headL kn q ++ s ++ encs l) := Lib.hid (by rw [enc, hq]; simp)
    have HNUM : Hid (Calls Try.prog 36 #[.agg #[.int .i64 kn, .int .i64 i, .string sb, .slice A l.length c]] W1.drew fun e w' => e = .returned (.int .u64 (q : Int)) ∧ Below W1.drew.heap.size W1.drew w') := Lib.hid (by
      have := number_any (k := kn) (A := A) (l := l) (c := c) hs hi hs2 hl W1.drew; rw [hq] at this; exact this)
    obtain ⟨H, hH⟩ : ∃ H, L ++ headL kn q = H := ⟨_, rfl⟩
    have hH1 : 1 ≤ H.length := by rw [← hH, List.length_append]; have := headL_pos kn q; omega
    have hH2 : H.length ≤ 1048600 := by
      rw [← hH, List.length_append]
      have : (headL kn q).length ≤ 9 := by unfold headL; split; simp; simp only [List.length_cons, be_len]; have := nb8 hq64; omega
      omega
    have HH : Hid (L ++ enc (.node (kn : Int) i s l) = H ++ s ++ encs l) := Lib.hid (by rw [HE.out, ← hH]; simp [List.append_assoc])
    have HNV : Hid (∀ b, F b → some b ≠ v.ownBlock) := Lib.hid fun b hb => hBy.ne (hFb b hb)
    have hsb : Hid (sb.size = s.length) := Lib.hid (by subst hs; simp)
    have hsb2 : sb.size ≤ 5000 := by have h1 := hsb.out; have h2 := hs5.2; omega
    have HBY := Lib.hid (hBy.below hB1)
    have HG1 := Lib.hid (Grew.of_below hB1 v)
    have HNE : Hid (some N ≠ v.ownBlock) := Lib.hid (hBy.new (by omega))
    have HS := Lib.hid hs
    have HN := Lib.hid hN
    have HP := Lib.hid hpp.2
    have HFb := Lib.hid hFb
    have hdr : Below W1.heap.size W1 W1.drew := ⟨rfl, rfl, rfl, Nat.le_refl _, fun _ _ => rfl⟩
    obtain ⟨i0, hi0, hz0, hz1, hz2⟩ := info_parts info_u8
    clear hT ih hs hA hW1 hp hpp hs5 hsh hq hBy hFb hi hk hB1
    go_enter Try.func29, Try.ntmps29
    go_upto_region 1 with fail
    rw [← HW1.out]
    go_cut [0] from 9 to 14 (fun b wx => ∃ A3 c3, b = .slice A3 H.length c3 ∧ Hid (Byt wx base (.slice A3 H.length c3) H) ∧ Hid (Grew W1 wx v (.slice A3 H.length c3)))
    case first =>
      go_region_law (first
        | (go_simp
           refine HNUM.out.mono ?_
           rintro e wq ⟨rfl, hbq⟩
           have p0 := old_cell hbq hc0 (by show N < W1.heap.size; omega)
           have p1 := old_cell hbq hc1 (by show N < W1.heap.size; omega)
           have p2 := old_cell hbq hc2 (by show N < W1.heap.size; omega)
           have p3 := old_cell hbq hc3 (by show N < W1.heap.size; omega)
           have HHD : Hid (Calls Try.prog 35 #[v, .int .i64 kn, .int .u64 q] wq (Put base wq v H)) := Lib.hid (hH ▸ head_any base v L kn q wq ((HBY.out.below (w' := W1.drew) ⟨rfl, rfl, rfl, Nat.le_refl _, fun _ _ => rfl⟩).below hbq) (by have := hbq.size; have : W1.drew.heap.size = N + 1 := hs1; omega) (by omega) (by omega) hq64))
        | (go_simp
           refine HHD.out.mono ?_
           rintro e w3 ⟨v3, rfl, hB3, hG3⟩))
      all_goals
        obtain ⟨A3, c3, rfl⟩ := hB3.form
        have HR3 : Hid (Byt w3 base (.slice A3 H.length c3) H) := Lib.hid hB3
        have HR4 : Hid (Grew W1 w3 v (.slice A3 H.length c3)) := Lib.hid ((Grew.of_below hdr v).trans ((Grew.of_below hbq v).trans hG3))
        clear hB3 hG3
        go_wp2_with fail
        go_meet
        exact ⟨A3, c3, rfl, HR3, HR4⟩
    case rest =>
      obtain ⟨A3, c3, rfl, HB3, HG3⟩ := hcut
      have e2 := HG3.out.cell hc2 HNE.out
      have e3 := HG3.out.cell hc3 HNE.out
      clear hH hdr HNUM HBY hc0 hc1 hc2
      by_cases hbig : 1048576 < H.length + sb.size
      · have HF : Hid (EncR base w v L (.node (kn : Int) i s l) (.returned (.tuple #[.slice none 0 0, .bool false])) wc) := Lib.hid (EncR.bad ⟨_, HG1.out.trans HG3.out⟩ (by
          have h1 := congrArg List.length HH.out; rw [List.length_append, List.length_append, List.length_append] at h1; have h2 := hsb.out; omega))
        have hgt : (1048576 : Int) < (H.length : Int) + (sb.size : Int) := by omega
        go_wp2_with fail
        go_ret2
        exact HF.out
      · have hgt : ¬ (1048576 : Int) < (H.length : Int) + (sb.size : Int) := by omega
        have hbw : base ≤ wc.heap.size := by have h1 := HG3.out.size; omega
        go_wp2_with (first
          | (at_builtin; refine wpList_append_str_at _ rfl (.tmp 22) (.tmp 24) 24 9 rfl base 5 i0 Try.underlying24 Try.underlying9 hi0 hz0 hz1 hz2 (.slice A3 H.length c3) H.length hH1 (cellsL H) rfl HB3.out sb rfl ?c3 ?c4 hbw ?_)
          | fail)
        case c3 => unfold maxLen; omega
        case c4 => omega
        intro v4 w4 hown hgrow hat
        have hB4 : Byt w4 base v4 (H ++ s) := byt_str HS.out hown
        obtain ⟨A4, c4, rfl⟩ := hB4.form
        have HB4 := Lib.hid hB4
        have HG4 : Hid (Grew W1 w4 v (.slice A4 (H ++ s).length c4)) := Lib.hid (HG3.out.trans ⟨hgrow, fun q hq => by
          rcases hat with e | e
          · exact .inl (e ▸ hq)
          · right; rw [e] at hq; have := Option.some.inj hq; omega⟩)
        have f3 := HG4.out.cell hc3 HNE.out
        have hP0 : (H ++ s).length ≤ 1048576 := by rw [List.length_append]; have := hsb.out; omega
        obtain ⟨G, hGe⟩ : ∃ G, H ++ s = G := ⟨_, rfl⟩
        rw [hGe] at HB4 HG4 hP0 ⊢
        have HGE := Lib.hid hGe
        clear hown hgrow hat hB4 hGe e2 e3 HB3 HG3 hbw hgt
        go_wp2_with fail
        go_loopw [0, 29] (fun b a wr => ∃ (j : Nat) (A5 : Option Addr) (c5 : Nat) (P : List UInt8), j ≤ l.length ∧ a = .int .i64 j ∧ b = .slice A5 P.length c5 ∧ Hid (Byt wr base (.slice A5 P.length c5) P) ∧ Hid (Grew W1 wr v (.slice A5 P.length c5)) ∧ Hid (P = G ++ encs (l.take j)) ∧ P.length ≤ 1048576)
          (fun _ a _ => l.length - (RowKit.intOf a).toNat)
        case atStart => exact ⟨0, A4, c4, G, Nat.zero_le _, rfl, rfl, HB4, HG4, Lib.hid (by simp [encs]), hP0⟩
        case round =>
          obtain ⟨j, A5, c5, Q, hj, rfl, rfl, HB5, HG5, HQ, hQ⟩ := hrel
          have hAw := HG5.out.list HNV.out hA1
          by_cases hlt : j < l.length
          · obtain ⟨b, off, xa, xi, xs, xB, xn, xc, rfl, hF, d0, d1, d2, d3, hLj⟩ := hAw.at hlt
            have hszj : szT l[j] ≤ n := by have h1 := szL_get hlt; have h2 := hsz.out; omega
            have HC : Hid (Calls Try.prog 29 #[.slice A5 Q.length c5, .agg #[.int .i64 xa, .int .i64 xi, .string xs, .slice xB xn xc]] (wr.alloc (.cells #[.int .i64 xa, .int .i64 xi, .string xs, .slice xB xn xc] 33)) (EncR base (wr.alloc (.cells #[.int .i64 xa, .int .i64 xi, .string xs, .slice xB xn xc] 33)) (.slice A5 Q.length c5) Q l[j])) :=
              Lib.hid (IH.out l[j] _ _ F base Q _ hszj (propL_get HP.out hlt) (shL_get HSL.out hlt) (hLj.below (below_new _ _)) HFb.out (by have h1 := HG5.out.size; have h2 := (below_new wr (.cells #[.int .i64 xa, .int .i64 xi, .string xs, .slice xB xn xc] 33)).size; omega) (HB5.out.below (below_new _ _)) hQ)
            have HBN := Lib.hid (below_new wr (.cells #[.int .i64 xa, .int .i64 xi, .string xs, .slice xB xn xc] 33))
            obtain ⟨t0, ht0⟩ : ∃ t0, t0 = l[j] := ⟨_, rfl⟩
            have HT : Hid (encs (l.take (j + 1)) = encs (l.take j) ++ enc t0) := Lib.hid (by rw [encs_take hlt, ht0])
            rw [← ht0] at HC
            clear hAw ht0 hLj IH hN
            by_cases hle : Q.length + (enc t0).length ≤ 1048576
            · have hle2 : (Q ++ enc t0).length ≤ 1048576 := by rw [List.length_append]; exact hle
              have HX : Hid (Q ++ enc t0 = G ++ encs (l.take (j + 1))) := Lib.hid (by rw [HT.out, HQ.out, List.append_assoc])
              go_wp2_with (first | (go_at_call 29; refine HC.out.mono ?_; rintro e w' hE; obtain ⟨A6, c6, rfl, HB6, HG6⟩ := hE.ok hle; clear hE) | fail)
              exact ⟨⟨j + 1, A6, c6, Q ++ enc t0, by omega, by go_num, by rw [List.length_append], HB6, Lib.hid ((HG5.out.below HBN.out).trans HG6.out), HX, hle2⟩, by simp [RowKit.intOf]; omega⟩
            · have HF : Hid (1048576 < L.length + (enc (.node (kn : Int) i s l)).length) := Lib.hid (by
                have h1 := congrArg List.length HH.out; rw [List.length_append, HGE.out, List.length_append] at h1
                have h2 := congrArg List.length HQ.out; rw [List.length_append] at h2
                have h3 := congrArg List.length HT.out; rw [List.length_append] at h3
                have h4 := encs_take_le l (j + 1)
                omega)
              go_wp2_with (first | (go_at_call 29; refine HC.out.mono ?_; rintro e w' hE; obtain ⟨rfl, HG6⟩ := hE.fail hle; clear hE) | fail)
              go_ret2
              exact EncR.bad (by obtain ⟨v6, h6⟩ := HG6.out; exact ⟨v6, HG1.out.trans ((HG5.out.below HBN.out).trans h6)⟩) HF.out
          · have HF : Hid (EncR base w v L (.node (kn : Int) i s l) (.returned (.tuple #[.slice A5 Q.length c5, .bool true])) wr) := Lib.hid (EncR.good (HG1.out.trans HG5.out) HB5.out (by rw [HH.out, HGE.out, HQ.out, List.take_of_length_le (by omega)]) hQ)
            clear hAw
            go_wp2_with fail
            go_ret2
            exact HF.out
end Go.Proofs.Ytohoobgbmhondaa.Cod

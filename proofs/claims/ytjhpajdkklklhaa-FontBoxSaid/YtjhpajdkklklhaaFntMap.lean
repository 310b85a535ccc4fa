/- The program's package font: its maps, as data. -/
import Derived.Test.YtjhpajdkklklhaaFntLaw
import Derived.Test.YtjhpajdkklklhaaFonValid
import Derived.Maps.OwnSet
namespace Go.Proofs.Ytjhpajdkklklhaa.Fon
open Go Go.RowKit Go.Maps Go.ChangeMaps Go.WideMaps By

theorem ownsMap_below {H : Type} {P : Program} {k : TypeId} {R : Value → Option (DataW H × List MemPlace)} {b n : Nat} {D : DataW H} {w w' : World} (h : w.ownsMap P k R b n D) (hb : Below w.heap.size w w') : w'.ownsMap P k R b n D := by
  have hl := h.lt
  obtain ⟨es, clock, h1, F, hs, hD⟩ := h
  exact ⟨es, clock, (hb.block b hl).trans h1, F, hs, hD⟩
theorem keyS : Keyed Try.prog 9 := string_keyed Try.underlying9
theorem zeroI (w : World) : (zeroValue 3).run Try.prog w = .ok (.int .i64 0) w := by kernel_rfl
theorem zeroB (w : World) : (zeroValue 4).run Try.prog w = .ok (.bool false) w := by kernel_rfl
def kl (s : ByteArray) : Lit := .string s.data.toList
theorem kl_of {s : ByteArray} (h : s.size ≤ 9223372036854775807) : keyOf Try.prog 9 (.string s) = some (kl s) := keyOf_string_mk Try.underlying9 (by unfold maxLen; omega)
theorem kl_key (s : ByteArray) : WideAt.IsKeyLit (kl s) := by unfold kl; first | trivial | simp [WideAt.IsKeyLit]
theorem kl_eq {a b : ByteArray} : kl a = kl b ↔ (a.toList == b.toList) = true := by
  unfold kl
  rw [Go.ByteArray.toList_eq, Go.ByteArray.toList_eq, beq_iff_eq]
  constructor
  · intro h; injection h
  · intro h; rw [h]
def hmF (D : DataW Unit) (g : Gl) : DataW Unit := D.put (kl g.name) (.lit (.int .i64 (height g)))
def hmD (l : List Gl) : DataW Unit := l.foldl hmF (.map [])
theorem hmD_snoc {l : List Gl} {k : Nat} (h : k < l.length) : hmD (l.take (k + 1)) = (hmD (l.take k)).put (kl l[k].name) (.lit (.int .i64 (height l[k]))) := by
  unfold hmD; rw [List.take_succ_eq_append_getElem h, List.foldl_append]; rfl
theorem fold_has (nm : ByteArray) : ∀ (l : List Gl) (D : DataW Unit), IsMap D → Maps.has (l.foldl hmF D) (kl nm) = (Maps.has D (kl nm) || l.any fun g => g.name.toList == nm.toList)
  | [], D, _ => by simp
  | g :: r, D, hD => by
    rw [List.foldl_cons, fold_has nm r (hmF D g) (hD.put _ _), List.any_cons]
    by_cases h : kl g.name = kl nm
    · have h2 := kl_eq.1 h
      rw [h2]
      have : Maps.has (hmF D g) (kl nm) = true := by unfold hmF; rw [h]; exact has_put_same hD (kl_key nm) _
      rw [this]; simp
    · have h2 : (g.name.toList == nm.toList) = false := by
        cases e : (g.name.toList == nm.toList) with
        | true => exact absurd (kl_eq.2 e) h
        | false => rfl
      have : Maps.has (hmF D g) (kl nm) = Maps.has D (kl nm) := by unfold hmF; exact has_put_other (fun e => h e.symm) _
      rw [this, h2, Bool.false_or]
theorem hm_has (l : List Gl) (nm : ByteArray) : Maps.has (hmD l) (kl nm) = l.any fun g => g.name.toList == nm.toList := by
  unfold hmD; rw [fold_has nm l _ isMap_empty]; rfl
def Dif (l : List Gl) : Prop := l.Pairwise fun a b => (a.name.toList == b.name.toList) = false
theorem fold_at (nm : ByteArray) (z : DataW Unit) : ∀ (l : List Gl) (D : DataW Unit), IsMap D → Dif l → (l.foldl hmF D).atKey (kl nm) z = match findG l nm with | some g => .lit (.int .i64 (height g)) | none => D.atKey (kl nm) z
  | [], D, _, _ => rfl
  | g :: r, D, hD, hd => by
    obtain ⟨h0, hd2⟩ := List.pairwise_cons.1 hd
    rw [List.foldl_cons, fold_at nm z r (hmF D g) (hD.put _ _) hd2]
    unfold findG
    by_cases h : kl g.name = kl nm
    · have h2 := kl_eq.1 h
      have hr : r.find? (fun g => g.name.toList == nm.toList) = none := by
        rw [List.find?_eq_none]
        intro x hx he
        have e1 : x.name.toList = nm.toList := beq_iff_eq.1 he
        have e2 : g.name.toList = nm.toList := beq_iff_eq.1 h2
        have := h0 x hx
        rw [e1, e2] at this
        simp at this
      rw [hr, List.find?_cons_of_pos (by exact h2)]
      show (hmF D g).atKey (kl nm) z = _
      unfold hmF; rw [h]; exact atKey_put_same hD (kl_key nm) _ _
    · have h2 : (g.name.toList == nm.toList) = false := by
        cases e : (g.name.toList == nm.toList) with
        | true => exact absurd (kl_eq.2 e) h
        | false => rfl
      rw [List.find?_cons_of_neg (by simp only [h2]; decide)]
      have : (hmF D g).atKey (kl nm) z = D.atKey (kl nm) z := by unfold hmF; exact atKey_put_other (fun e => h e.symm) _ _
      rw [this]
theorem hm_at {l : List Gl} (hd : Dif l) (nm : ByteArray) : (hmD l).atKey (kl nm) (.lit (.int .i64 0)) = .lit (.int .i64 (hgt l nm)) := by
  unfold hmD; rw [fold_at nm _ l _ isMap_empty hd]
  unfold hgt
  cases findG l nm with
  | some g => rfl
  | none => rfl
theorem any_isSome (l : List Gl) (nm : ByteArray) : (l.any fun g => g.name.toList == nm.toList) = (findG l nm).isSome := by
  unfold findG; rw [List.isSome_find?]
theorem dif_of {l : List Gl} (h : glyphsB l = true) : Dif l := by
  unfold Dif
  rw [List.pairwise_iff_getElem]
  intro i j hi hj hij
  unfold glyphsB at h
  rw [List.all_eq_true] at h
  have h1 := h j (List.mem_range.2 hj)
  rw [glOK_at hj] at h1
  simp only [Bool.and_eq_true, Bool.not_eq_true'] at h1
  cases e : (l[i].name.toList == l[j].name.toList) with
  | false => rfl
  | true => have := any_true (nm := l[j].name) hi hij e; rw [this] at h1; cases h1.2
/-- the map of heights -/
def HMap (w : World) (b : Nat) (l : List Gl) : Prop := ∃ n, n ≤ 500 ∧ w.ownsMap Try.prog 9 (plainElem Try.prog 3) b n (hmD l)
theorem HMap.below {w w' : World} {b : Nat} {l : List Gl} (h : HMap w b l) (hb : Below w.heap.size w w') : HMap w' b l := by
  obtain ⟨n, hn, h⟩ := h
  exact ⟨n, hn, ownsMap_below h hb⟩
/-- 'h, ok := heights[name]' -/
theorem HMap.look {w : World} {b : Nat} {l : List Gl} (h : HMap w b l) (hd : Dif l) {nm : ByteArray} (hs : nm.size ≤ 9223372036854775807) :
    (Instr.lookup 61 (.map (some b)) (.string nm) true).run Try.prog w = .ok (.tuple #[.int .i64 (hgt l nm), .bool (findG l nm).isSome]) w := by
  obtain ⟨n, _, h⟩ := h
  obtain ⟨v, ps, hr, hv⟩ := h.look_ok keyS Try.underlying61 (zeroI w) (plainElem_int Try.underlying3 (by decide)) (kl_of hs)
  obtain ⟨a, rfl, ha, _⟩ := plainElem_int_inv Try.underlying3 hv
  rw [hr, hm_has, any_isSome]
  rw [hm_at hd] at ha
  injection ha with ha _
  injection ha with ha
  injection ha with _ ha
  rw [ha]
/-- the map of names of stretches -/
def nmF (D : DataW Unit) (s : St) : DataW Unit := D.put (kl s.name) (.lit (.bool true))
def nmD (l : List St) : DataW Unit := l.foldl nmF (.map [])
theorem nmD_snoc {l : List St} {k : Nat} (h : k < l.length) : nmD (l.take (k + 1)) = (nmD (l.take k)).put (kl l[k].name) (.lit (.bool true)) := by
  unfold nmD; rw [List.take_succ_eq_append_getElem h, List.foldl_append]; rfl
theorem fold_nm (nm : ByteArray) : ∀ (l : List St) (D : DataW Unit) (z : Bool), IsMap D → D.atKey (kl nm) (.lit (.bool false)) = .lit (.bool z) → (l.foldl nmF D).atKey (kl nm) (.lit (.bool false)) = .lit (.bool (z || l.any fun s => s.name.toList == nm.toList))
  | [], D, z, _, h => by simpa using h
  | s :: r, D, z, hD, hz => by
    rw [List.foldl_cons, List.any_cons]
    by_cases h : kl s.name = kl nm
    · have h2 := kl_eq.1 h
      rw [fold_nm nm r (nmF D s) true (hD.put _ _) (by unfold nmF; rw [h]; exact atKey_put_same hD (kl_key nm) _ _), h2]
      simp
    · have h2 : (s.name.toList == nm.toList) = false := by
        cases e : (s.name.toList == nm.toList) with
        | true => exact absurd (kl_eq.2 e) h
        | false => rfl
      rw [fold_nm nm r (nmF D s) z (hD.put _ _) (by unfold nmF; rw [atKey_put_other (fun e => h e.symm)]; exact hz), h2, Bool.false_or]
theorem nm_at (l : List St) (nm : ByteArray) : (nmD l).atKey (kl nm) (.lit (.bool false)) = .lit (.bool (l.any fun s => s.name.toList == nm.toList)) := by
  unfold nmD; rw [fold_nm nm l _ false isMap_empty rfl, Bool.false_or]
def NMap (w : World) (b n : Nat) (l : List St) : Prop := w.ownsMap Try.prog 9 (plainElem Try.prog 4) b n (nmD l)
theorem plainElem_bool_inv {v : Value} {z : DataW Unit × List MemPlace} (h : plainElem Try.prog 4 v = some z) : ∃ a, v = .bool a ∧ z = (.lit (.bool a), []) := by
  unfold plainElem at h
  rw [Try.underlying4] at h
  cases v <;> simp at h
  exact ⟨_, rfl, h.symm⟩
theorem NMap.look {w : World} {b n : Nat} {l : List St} (h : NMap w b n l) {nm : ByteArray} (hs : nm.size ≤ 9223372036854775807) :
    (Instr.lookup 81 (.map (some b)) (.string nm) false).run Try.prog w = .ok (.bool (l.any fun s => s.name.toList == nm.toList)) w := by
  obtain ⟨v, ps, hr, hv⟩ := World.ownsMap.lookup h keyS Try.underlying81 (zeroB w) (plainElem_bool Try.underlying4 false) (kl_of hs)
  obtain ⟨a, rfl, ha⟩ := plainElem_bool_inv hv
  rw [hr]
  rw [nm_at] at ha
  injection ha with ha _
  injection ha with ha
  injection ha with ha
  rw [ha]
end Go.Proofs.Ytjhpajdkklklhaa.Fon

/- What the laws of layer 3 share: arguments that are bytes, boxes, what a value's bounds are. -/
import Derived.Test.YtohoobgbmhondaaCodInts
import Derived.Test.YtohoobgbmhondaaCodOpen
import Derived.Test.YtohoobgbmhondaaCodOwn
import Derived.Test.YtohoobgbmhondaaCodPeq
namespace Go.Proofs.Ytohoobgbmhondaa.Cod
open Go Go.RowKit Go.ChangeShapes Go.WideShapes

/-- a slice that is these bytes -/
def BytesIn (w : World) (v : Value) (l : List UInt8) : Prop := ∃ (A : Option Addr) (c : Nat), v = .slice A l.length c ∧ l.length ≤ c ∧ c ≤ 9223372036854775807 ∧ (A = none → c = 0) ∧ BytAt w w.heap.size A l
theorem bytAt_below {w w' : World} {A : Option Addr} {l : List UInt8} (h : BytAt w w.heap.size A l) (hb : Below w.heap.size w w') : BytAt w' w'.heap.size A l := by
  rcases h with h | ⟨g, off, h1, h2, h3⟩
  · exact .inl h
  · exact .inr ⟨g, off, h1, Nat.lt_of_lt_of_le h2 hb.size, fun j hj => (hb.cell (p := ⟨g, off + j, none⟩) h2).trans (h3 j hj)⟩
theorem open_bytes {H : Type} {enc : TypeId × Value → H} {W : World} {b0 : Nat} {sp : Nat → Bool} {held : Bool} {r : Reach} {v : Value} {d : DataW H} {p : List MemPlace} (hv : Value.okWide Try.prog W r b0 24 v) (h : DataW.Trod enc Try.prog W 0 sp held 24 v d p) :
    ∃ l, BytesIn W v l := by
  obtain ⟨A, n, c, rfl⟩ := okWide_slice Try.underlying24 hv
  obtain ⟨fuel, hf⟩ := h
  rcases open_ints Try.underlying24 Try.underlying5 (by kernel_rfl) hf with ⟨hcs, _⟩ | ⟨a, len, cap, zs, hcs, _, hl, hm, hz, _, hcell, hwf⟩
  · simp [Value.cells] at hcs
    obtain ⟨rfl, rfl, rfl⟩ := hcs
    exact ⟨[], none, 0, rfl, by simp, by omega, fun _ => rfl, .inl rfl⟩
  · simp [Value.cells] at hcs
    obtain ⟨rfl, rfl, rfl⟩ := hcs
    have hzl : n ≤ zs.length := by rw [hz]; split <;> omega
    have hlen : ((zs.take n).map fun z => UInt8.ofNat z.toNat).length = n := by rw [List.length_map, List.length_take]; omega
    refine ⟨(zs.take n).map fun z => UInt8.ofNat z.toNat, some a, c, by rw [hlen], by omega, by unfold maxLen at hm; omega, fun h => by (cases h), ?_⟩
    rcases Nat.eq_zero_or_pos n with h0 | h0
    · exact .inl (List.eq_nil_of_length_eq_zero (by omega))
    · obtain ⟨b, off, rfl, hc⟩ := ints_at hcell (by omega)
      refine .inr ⟨b, off, rfl, World.block_lt_of_cell? _ _ (hc 0 (by omega)), fun j hj => ?_⟩
      rw [hlen] at hj
      rw [hc j (by omega)]
      have hw := hwf (zs[j]'(by omega)) (List.getElem_mem _)
      unfold Lit.wf at hw
      simp [IntKind.min, IntKind.max, IntKind.bits, IntKind.signed] at hw
      have e : zs.getD j 0 = zs[j]'(by omega) := by rw [List.getD, List.getElem?_eq_getElem (by omega)]; rfl
      rw [e, List.getElem_map, List.getElem_take]
      congr 2
      rw [UInt8.toNat_ofNat']
      omega
/-- a value that lies in a box -/
structure Bx (w : World) (N : Nat) (a i : Int) (s : ByteArray) (A : Option Addr) (n c : Nat) : Prop where
  c0 : w.cell? ⟨N, 0, none⟩ = some (.int .i64 a)
  c1 : w.cell? ⟨N, 1, none⟩ = some (.int .i64 i)
  c2 : w.cell? ⟨N, 2, none⟩ = some (.string s)
  c3 : w.cell? ⟨N, 3, none⟩ = some (.slice A n c)
theorem Bx.go {w w' : World} {N : Nat} {a i : Int} {s : ByteArray} {A : Option Addr} {n c : Nat} (h : Bx w N a i s A n c) (hb : Below w.heap.size w w') : Bx w' N a i s A n c :=
  ⟨old_cell hb h.c0 (World.block_lt_of_cell? _ _ h.c0), old_cell hb h.c1 (World.block_lt_of_cell? _ _ h.c1), old_cell hb h.c2 (World.block_lt_of_cell? _ _ h.c2), old_cell hb h.c3 (World.block_lt_of_cell? _ _ h.c3)⟩
theorem Bx.new {w : World} {N : Nat} (hN : w.heap.size = N) (a i : Int) (s : ByteArray) (A : Option Addr) (n c : Nat) (ty : TypeId) : Bx (w.alloc (.cells #[.int .i64 a, .int .i64 i, .string s, .slice A n c] ty)) N a i s A n c :=
  ⟨new_cell hN _ _ 0 rfl, new_cell hN _ _ 1 rfl, new_cell hN _ _ 2 rfl, new_cell hN _ _ 3 rfl⟩
mutual
theorem Lies.bd {w : World} {F : Nat → Prop} : (t : T) → (v : Value) → Lies w F t v → bdT t
  | .node k i s l, v, h => by
    simp only [Lies] at h
    obtain ⟨sb, sl, rfl, h1, h2, h3, h4, h5, h6⟩ := h
    simp only [bdT]
    refine ⟨h3, h4, h5, ?_⟩
    rcases h6 with ⟨rfl, _⟩ | ⟨b, off, c, _, _, _, h8⟩
    · simp only [bdL]
    · exact LiesL.bd l off h8
theorem LiesL.bd {w : World} {F : Nat → Prop} {b : Nat} : (l : List T) → (off : Nat) → LiesL w F b l off → bdL l
  | [], _, _ => by simp only [bdL]
  | t :: r, off, h => by
    simp only [LiesL] at h
    obtain ⟨⟨v0, v1, v2, v3, _, _, _, _, ht⟩, hr⟩ := h
    simp only [bdL]
    exact ⟨Lies.bd t _ ht, LiesL.bd r _ hr⟩
end
mutual
theorem sh_of : (t : T) → (enc t).length ≤ 5000 → shT t = true
  | .node k i s l, h => by
    simp only [enc, List.length_append] at h
    simp only [shT, Bool.and_eq_true, decide_eq_true_eq]
    exact ⟨shL_of l (by omega), by omega⟩
theorem shL_of : (l : List T) → (encs l).length ≤ 5000 → shL l = true
  | [], _ => by simp only [shL]
  | t :: r, h => by
    simp only [encs, List.length_append] at h
    simp only [shL, Bool.and_eq_true]
    exact ⟨sh_of t (by omega), shL_of r (by omega)⟩
end
/-- what is decoded is the encoding of a valid value -/
theorem enc_dec {l : List UInt8} {t : T} (h : decV l = some t) : enc t = l ∧ valT 64 t = true ∧ l.length ≤ 1048576 := by
  unfold decV at h
  split at h
  · cases h
  · rename_i hl
    split at h
    · rename_i t' hx
      injection h with h
      subst h
      obtain ⟨h1, h2, _⟩ := enc_rd 64 l _ _ (by omega) hx
      exact ⟨by rw [h1, List.append_nil], h2, by omega⟩
    · cases h
/-- Encode of what is valid and short enough -/
theorem encode_ok {t : T} {v : Value} {F : Nat → Prop} {w : World} {L : List UInt8} (h : Lies w F t v) (hsh : shT t = true) (hv : valT 64 t = true) (hL : enc t = L) (hle : L.length ≤ 1048576) :
    Calls Try.prog 12 #[v] w fun e w' => ∃ A c, e = .returned (.tuple #[.slice A L.length c, .int .i64 0]) ∧ Byt w' w.heap.size (.slice A L.length c) L ∧ Below w.heap.size w w' := by
  subst hL
  refine (encode_any h hsh).mono ?_
  rintro e w' ⟨hb, ⟨h1, _⟩ | ⟨_, h1, _⟩ | ⟨_, _, A, c, h1, h2⟩⟩
  · rw [hv] at h1; cases h1
  · omega
  · exact ⟨A, c, h1, h2, hb⟩
/-- Encode of what is not valid or too long -/
theorem encode_not {t : T} {v : Value} {F : Nat → Prop} {w : World} (h : Lies w F t v) (hsh : shT t = true) (hv : ¬ (valT 64 t = true ∧ (enc t).length ≤ 1048576)) :
    Calls Try.prog 12 #[v] w fun e w' => ∃ n : Int, e = .returned (.tuple #[.slice none 0 0, .int .i64 n]) ∧ (n == 0) = false ∧ (n != 0) = true ∧ Below w.heap.size w w' := by
  refine (encode_any h hsh).mono ?_
  rintro e w' ⟨hb, ⟨h1, h2⟩ | ⟨_, h1, h2⟩ | ⟨h1, h2, _⟩⟩
  · exact ⟨1, h2, by decide, by decide, hb⟩
  · exact ⟨6, h2, by decide, by decide, hb⟩
  · exact absurd ⟨h1, h2⟩ hv
end Go.Proofs.Ytohoobgbmhondaa.Cod

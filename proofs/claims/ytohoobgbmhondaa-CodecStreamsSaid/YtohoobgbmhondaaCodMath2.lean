/- Encodings are read back, and what is read is an encoding: plain mathematics. -/
import Derived.Test.YtohoobgbmhondaaCodMath
namespace Go.Proofs.Ytohoobgbmhondaa.Cod

mutual
def bdT : T → Prop
  | .node _ i s l => (-9223372036854775808 ≤ i ∧ i ≤ 9223372036854775807) ∧ s.length ≤ 9223372036854775807 ∧ l.length ≤ 9223372036854775807 ∧ bdL l
def bdL : List T → Prop
  | [] => True
  | t :: r => bdT t ∧ bdL r
end
theorem num_bd {t : T} (h : bdT t) : numT t < 18446744073709551616 := by
  cases t with
  | node k i s l =>
    simp only [bdT] at h
    simp only [numT]
    split
    · omega
    · split
      · omega
      · split <;> omega
theorem intg_num {i : Int} : intg (if i < 0 then 2 * (-(i + 1)).toNat + 1 else 2 * i.toNat) = i := by
  unfold intg
  split <;> split <;> omega
theorem headL_pos (k n : Nat) : 1 ≤ (headL k n).length := by unfold headL; split <;> simp
theorem enc_pos (t : T) : 1 ≤ (enc t).length := by
  cases t with
  | node k i s l => simp only [enc, List.length_append]; have := headL_pos k.toNat (numT (.node k i s l)); omega
theorem own_kind {k i : Int} {s : List UInt8} {n : Nat} (h : ownB k i s n = true) : (k = 1 ∧ s = [] ∧ n = 0) ∨ (k = 2 ∧ i = 0 ∧ n = 0) ∨ (k = 3 ∧ i = 0 ∧ s = []) := by
  unfold ownB at h
  split at h
  · simp at h; exact .inl ⟨by assumption, h⟩
  · split at h
    · simp at h; exact .inr (.inl ⟨by assumption, h⟩)
    · split at h
      · simp at h; exact .inr (.inr ⟨by assumption, h⟩)
      · cases h
mutual
theorem rd_enc : (d : Nat) → (t : T) → valT d t = true → bdT t → (r : List UInt8) → rd d (enc t ++ r) = some (t, r)
  | d, .node k i s l, hv, hb, r => by
    have hn := num_bd hb
    simp only [valT, Bool.and_eq_true, decide_eq_true_eq] at hv
    obtain ⟨⟨h1, ho⟩, hl⟩ := hv
    obtain ⟨e, rfl⟩ : ∃ e, d = e + 1 := ⟨d - 1, by omega⟩
    have ih := rdN_enc e l (by simpa using hl) (by simp only [bdT] at hb; exact hb.2.2.2) r
    have hx : ∀ q : List UInt8, rdHead (headL k.toNat (numT (.node k i s l)) ++ q) = some (k.toNat, numT (.node k i s l), q) := fun q => rd_head (by rcases own_kind ho with h | h | h <;> omega) hn q
    rcases own_kind ho with ⟨rfl, rfl, hz⟩ | ⟨rfl, rfl, hz⟩ | ⟨rfl, rfl, rfl⟩
    · have hl0 := List.eq_nil_of_length_eq_zero hz
      subst hl0
      simp only [enc, encs, List.append_nil, rd, hx]
      simp [numT, intg_num]
    · have hl0 := List.eq_nil_of_length_eq_zero hz
      subst hl0
      simp only [enc, encs, List.append_nil, List.append_assoc, rd, hx]
      simp [numT]
    · simp only [enc, List.append_nil, List.append_assoc, rd, hx]
      simp [numT, ih]
theorem rdN_enc : (d : Nat) → (l : List T) → valL d l = true → bdL l → (r : List UInt8) → rdN (rd d) l.length (encs l ++ r) = some (l, r)
  | _, [], _, _, r => by simp [encs, rdN]
  | d, t :: l, hv, hb, r => by
    simp only [valL, Bool.and_eq_true] at hv
    simp only [bdL] at hb
    simp only [encs, List.append_assoc, List.length_cons, rdN]
    rw [rd_enc d t hv.1 hb.1]
    simp only []
    rw [rdN_enc d l hv.2 hb.2]
end
/-- what a reader may answer: an encoding of a valid value, and the rest -/
def GoodR (d : Nat) (b : List UInt8) (t : T) (r : List UInt8) : Prop := b = enc t ++ r ∧ valT d t = true ∧ bdT t
theorem rdN_good {d : Nat} {f : List UInt8 → Option (T × List UInt8)} (hf : ∀ b t r, b.length ≤ 9223372036854775807 → f b = some (t, r) → GoodR d b t r) (n : Nat) :
    ∀ b l r, b.length ≤ 9223372036854775807 → rdN f n b = some (l, r) → b = encs l ++ r ∧ valL d l = true ∧ bdL l ∧ l.length = n := by
  induction n with
  | zero => intro b l r _ h; simp [rdN] at h; obtain ⟨rfl, rfl⟩ := h; simp [encs, valL, bdL]
  | succ n ih =>
    intro b l r hb h
    simp only [rdN] at h
    split at h
    · cases h
    · rename_i x q hx
      obtain ⟨e1, v1, b1⟩ := hf b x q hb hx
      split at h
      · cases h
      · rename_i l' q' hl
        simp only [Option.some.injEq, Prod.mk.injEq] at h
        obtain ⟨rfl, rfl⟩ := h
        obtain ⟨e2, v2, b2, hn⟩ := ih q l' q' (by rw [e1, List.length_append] at hb; omega) hl
        refine ⟨by rw [e1, e2, encs, List.append_assoc], by simp [valL, v1, v2], by simp only [bdL]; exact ⟨b1, b2⟩, by simp [hn]⟩
theorem encs_len (l : List T) : l.length ≤ (encs l).length := by
  induction l with
  | nil => simp
  | cons t l ih => have := enc_pos t; simp only [encs, List.length_append, List.length_cons]; omega
theorem enc_rd : ∀ (d : Nat) (b : List UInt8) (t : T) (r : List UInt8), b.length ≤ 9223372036854775807 → rd d b = some (t, r) → GoodR d b t r := by
  intro d
  induction d with
  | zero => intro b t r _ h; simp [rd] at h
  | succ d ih =>
    intro b t r hb h
    simp only [rd] at h
    split at h
    · cases h
    · rename_i k n q hq
      obtain ⟨e, hk, hn⟩ := head_rd hq
      split at h
      · rename_i hk1
        simp only [Option.some.injEq, Prod.mk.injEq] at h
        obtain ⟨rfl, rfl⟩ := h
        have hi : numT (.node 1 (intg n) [] []) = n := by
          simp only [numT, intg]
          rw [if_neg (by decide), if_neg (by decide)]
          split <;> split <;> omega
        refine ⟨by simp only [enc, encs, hi, List.append_nil]; rw [e, hk1]; rfl, by simp [valT, valL, ownB], ?_⟩
        simp only [bdT, bdL, List.length_nil, intg]
        refine ⟨?_, by omega, by omega, trivial⟩
        split <;> omega
      · split at h
        · rename_i hk2
          split at h
          · cases h
          · rename_i hl
            simp only [Option.some.injEq, Prod.mk.injEq] at h
            obtain ⟨rfl, rfl⟩ := h
            have hi : numT (.node 2 0 (q.take n) []) = n := by simp [numT]; omega
            have hlq : q.length ≤ b.length := by rw [e, List.length_append]; omega
            refine ⟨by simp only [enc, encs, hi, List.append_nil]; rw [e, hk2]; simp, by simp [valT, valL, ownB], ?_⟩
            simp only [bdT, bdL, List.length_nil, List.length_take]
            exact ⟨⟨by omega, by omega⟩, by omega, by omega, trivial⟩
        · split at h
          · rename_i hk3
            split at h
            · cases h
            · rename_i l q' hl
              simp only [Option.some.injEq, Prod.mk.injEq] at h
              obtain ⟨rfl, rfl⟩ := h
              have hlq : q.length ≤ b.length := by rw [e, List.length_append]; omega
              obtain ⟨e2, v2, b2, hn2⟩ := rdN_good ih n q l q' (by omega) hl
              have hi : numT (.node 3 0 [] l) = n := by simp [numT, hn2]
              have h3 := encs_len l
              have h4 : (encs l).length ≤ q.length := by rw [e2, List.length_append]; omega
              refine ⟨by simp only [enc, hi, List.append_nil]; rw [e, hk3, e2]; simp, by simp [valT, v2, ownB], ?_⟩
              simp only [bdT, List.length_nil]
              exact ⟨⟨by omega, by omega⟩, by omega, by omega, b2⟩
          · cases h
theorem rd_shorter {d : Nat} {b : List UInt8} {t : T} {r : List UInt8} (hb : b.length ≤ 9223372036854775807) (h : rd d b = some (t, r)) : r.length < b.length := by
  obtain ⟨e, _, _⟩ := enc_rd d b t r hb h
  have := enc_pos t
  rw [e, List.length_append]; omega
/-- more elements than bytes -/
theorem rdN_more {d n : Nat} {b : List UInt8} (hb : b.length ≤ 9223372036854775807) (h : b.length < n) : rdN (rd d) n b = none := by
  match e : rdN (rd d) n b with
  | none => rfl
  | some (l, r) =>
    obtain ⟨e1, _, _, hn⟩ := rdN_good (enc_rd d) n b l r hb e
    have := encs_len l
    have h2 : (encs l).length ≤ b.length := by rw [e1, List.length_append]; omega
    omega
end Go.Proofs.Ytohoobgbmhondaa.Cod

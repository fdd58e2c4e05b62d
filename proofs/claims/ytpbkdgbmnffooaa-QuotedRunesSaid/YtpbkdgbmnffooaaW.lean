/-
  Layer 6: plain: the document's items against the reading by the program.
-/
import Derived.Test.YtpbkdgbmnffooaaU
namespace Go.Proofs.Ytpbkdgbmnffooaa
open Go.ChangeShapes Go.WideShapes Go.ChangeAt Go.RowKit
open Go.Lib (decodeL)

theorem numOf_len (base : Nat) : ∀ (d n : Nat) (l : List UInt8) (r : Nat × List UInt8), numOf base d n l = some r → d ≤ l.length ∧ r.2 = l.drop d ∧ ∀ t, numOf base d n (l.take d ++ t) = some (r.1, t)
  | 0, n, l, r, h => by
    have : some (n, l) = some r := by simpa [numOf] using h
    cases this
    exact ⟨Nat.zero_le _, rfl, fun t => by simp [numOf]⟩
  | d + 1, n, [], r, h => by cases h
  | d + 1, n, c :: t, r, h => by
    by_cases hc : 0 ≤ hexOf c.toNat ∧ hexOf c.toNat < base
    · rw [numOf_step hc] at h
      obtain ⟨h1, h2, h3⟩ := numOf_len base d _ t r h
      refine ⟨by simp; omega, by rw [h2]; rfl, fun t' => ?_⟩
      rw [List.take_succ_cons, List.cons_append, numOf_step hc]
      exact h3 t'
    · rw [numOf_stop hc] at h; cases h
/-- an escape told from another place on -/
theorem escOf_shift (m : UInt8) (k a : Nat) (l : List UInt8) : escOf m (k + a) l = (escOf m a l).map fun x => (x.1, k + x.2) := by
  cases l with
  | nil => rfl
  | cons c t =>
    rw [escOf_cons, escOf_cons]
    split
    · cases numOf 16 (digitsOf c) 0 t with
      | none => rfl
      | some nr =>
        show (sayOf nr.1 m (decide (c = 120))).map _ = ((sayOf nr.1 m (decide (c = 120))).map _).map _
        cases sayOf nr.1 m (decide (c = 120)) with
        | none => rfl
        | some L => simp; omega
    · split
      · cases numOf 8 3 0 (c :: t) with
        | none => rfl
        | some nr =>
          show (if nr.1 ≤ 255 then (sayOf nr.1 m true).map (fun L => (L, k + a + 3)) else none) = Option.map _ (if nr.1 ≤ 255 then (sayOf nr.1 m true).map (fun L => (L, a + 3)) else none)
          split
          · cases sayOf nr.1 m true with
            | none => rfl
            | some L => simp; omega
          · rfl
      · split
        · split
          · simp; omega
          · rfl
        · cases named c with
          | none => rfl
          | some x => simp; omega
/-- an escape lies within its text, and hangs on no byte behind it -/
theorem escOf_len {m : UInt8} {l : List UInt8} {L : List UInt8} {n : Nat} (h : escOf m 0 l = some (L, n)) : n ≤ l.length ∧ 0 < n ∧ ∀ t, escOf m 0 (l.take n ++ t) = some (L, n) := by
  cases l with
  | nil => cases h
  | cons c t =>
    have key : ∀ j, (c :: t).take (j + 1) = c :: t.take j := fun j => rfl
    rw [escOf_cons] at h
    split at h
    · rename_i hc
      cases hN : numOf 16 (digitsOf c) 0 t with
      | none => rw [hN] at h; cases h
      | some nr =>
        rw [hN] at h
        obtain ⟨h1, h2, h3⟩ := numOf_len 16 _ _ _ _ hN
        have h' : (sayOf nr.1 m (decide (c = 120))).map (fun L => (L, 0 + 1 + digitsOf c)) = some (L, n) := h
        cases hS : sayOf nr.1 m (decide (c = 120)) with
        | none => rw [hS] at h'; cases h'
        | some L0 =>
          rw [hS] at h'
          cases h'
          refine ⟨by simp; omega, by omega, fun t' => ?_⟩
          rw [show 0 + 1 + digitsOf c = digitsOf c + 1 by omega, key, List.cons_append, escOf_cons, if_pos hc, h3 t']
          show (sayOf nr.1 m (decide (c = 120))).map _ = _
          rw [hS]; simp; omega
    · rename_i hc
      split at h
      · rename_i ho
        cases hN : numOf 8 3 0 (c :: t) with
        | none => rw [hN] at h; cases h
        | some nr =>
          rw [hN] at h
          obtain ⟨h1, h2, h3⟩ := numOf_len 8 _ _ _ _ hN
          have h' : (if nr.1 ≤ 255 then (sayOf nr.1 m true).map fun L => (L, 0 + 3) else none) = some (L, n) := h
          split at h'
          · rename_i h255
            cases hS : sayOf nr.1 m true with
            | none => rw [hS] at h'; cases h'
            | some L0 =>
              rw [hS] at h'
              cases h'
              refine ⟨h1, by omega, fun t' => ?_⟩
              have h4 := h3 t'
              rw [key 2, List.cons_append] at h4
              rw [key 2, List.cons_append, escOf_cons, if_neg hc, if_pos ho, h4]
              show (if nr.1 ≤ 255 then (sayOf nr.1 m true).map _ else none) = _
              rw [if_pos h255, hS]; rfl
          · cases h'
      · rename_i ho
        split at h
        · rename_i hq
          split at h
          · rename_i hm
            cases h
            refine ⟨by simp, by omega, fun t' => ?_⟩
            rw [key 0, List.cons_append, escOf_cons, if_neg hc, if_neg ho, if_pos hq, if_pos hm]
          · cases h
        · rename_i hq
          cases hn : named c with
          | none => rw [hn] at h; cases h
          | some x =>
            rw [hn] at h
            cases h
            refine ⟨by simp, by omega, fun t' => ?_⟩
            rw [key 0, List.cons_append, escOf_cons, if_neg hc, if_neg ho, if_neg hq, hn]; rfl
theorem escOf_one {m : UInt8} {l : List UInt8} {L : List UInt8} {n : Nat} (h : escOf m 1 l = some (L, n)) : ∃ j, n = 1 + j ∧ escOf m 0 l = some (L, j) := by
  rw [show (1 : Nat) = 1 + 0 from rfl, escOf_shift] at h
  cases he : escOf m 0 l with
  | none => rw [he] at h; cases h
  | some x => rw [he] at h; cases h; exact ⟨x.2, rfl, rfl⟩
/-- a document's item: its length, and how much it says -/
theorem docItem_len {m c : UInt8} {t : List UInt8} {L : List UInt8} {n : Nat} (h : docItem m c t = some (L, n)) : 0 < n ∧ L.length ≤ n ∧ n ≤ t.length + 1 := by
  unfold docItem at h
  split at h
  · have h1 := escOf_grow h
    obtain ⟨j, rfl, he⟩ := escOf_one h
    have h2 := escOf_len he
    omega
  · split at h
    · cases h
    · split at h
      · cases h; simp
      · split at h
        · cases h
        · rename_i hw
          have hl := wide_le (c :: t)
          cases h
          rw [List.length_take]
          simp at hl ⊢; omega
/-- a string, item by item -/
theorem str_step {l : List UInt8} {i : Nat} {c : UInt8} (f : Nat) (T : List UInt8) (h : l[i]? = some c) (hc : c ≠ 34) : strOf l (f + 1) i T = (docItem 34 c (l.drop (i + 1))).bind fun x => strOf l f (i + x.2) (T ++ x.1) := by
  rw [strOf_some f T h, if_neg hc]
  unfold docItem
  by_cases h92 : c = 92
  · rw [if_neg (by rw [h92]; decide), if_pos h92, if_pos h92, show i + 1 = i + 1 from rfl, escOf_shift 34 i 1]
    cases escOf 34 1 (l.drop (i + 1)) with
    | none => rfl
    | some x => rfl
  · rw [if_neg h92, if_neg h92]
    split
    · rfl
    · rw [if_pos rfl]; rfl
end Go.Proofs.Ytpbkdgbmnffooaa

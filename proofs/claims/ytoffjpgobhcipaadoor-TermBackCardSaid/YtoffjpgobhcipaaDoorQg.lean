/-
  Texts W X Xb Xc Y Ma SMa of an earlier seat, under this one's numbers.
-/
import Derived.Test.YtoffjpgobhcipaaDoorQf
set_option maxRecDepth 100000
/-
  Layer 6: plain: the document's items against the reading by the program.
-/
namespace Go.Proofs.YtoffjpgobhcipaaDoor
open Go.ChangeShapes Go.WideShapes Go.ChangeAt Go.RowKit
open Go.Lib (decodeL)

theorem numOf_len (base : Nat) : ∀ (d n : Nat) (l : List UInt8) (r : Nat × List UInt8), numOf base d n l = some r → d ≤ l.length ∧ r.2 = l.drop d ∧ ∀ t, numOf base d n (l.take d ++ t) = some (r.1, t)
  | 0, n, l, r, h => by
    have : some (n, l) = some r := by simpa [numOf] using h
    cases this
    exact ⟨Nat.zero_le _, rfl, fun t => by simp [numOf]⟩
  | d + 1, n, [], r, h => by cases h
  | d + 1, n, c :: t, r, h => by
    by_cases hc : 0 ≤ hexOf c.toNat ∧ hexOf c.toNat < base
    · rw [numOf_step hc] at h
      obtain ⟨h1, h2, h3⟩ := numOf_len base d _ t r h
      refine ⟨by simp; omega, by rw [h2]; rfl, fun t' => ?_⟩
      rw [List.take_succ_cons, List.cons_append, numOf_step hc]
      exact h3 t'
    · rw [numOf_stop hc] at h; cases h
/-- an escape told from another place on -/
theorem escOf_shift (m : UInt8) (k a : Nat) (l : List UInt8) : escOf m (k + a) l = (escOf m a l).map fun x => (x.1, k + x.2) := by
  cases l with
  | nil => rfl
  | cons c t =>
    rw [escOf_cons, escOf_cons]
    split
    · cases numOf 16 (digitsOf c) 0 t with
      | none => rfl
      | some nr =>
        show (sayOf nr.1 m (decide (c = 120))).map _ = ((sayOf nr.1 m (decide (c = 120))).map _).map _
        cases sayOf nr.1 m (decide (c = 120)) with
        | none => rfl
        | some L => simp; omega
    · split
      · cases numOf 8 3 0 (c :: t) with
        | none => rfl
        | some nr =>
          show (if nr.1 ≤ 255 then (sayOf nr.1 m true).map (fun L => (L, k + a + 3)) else none) = Option.map _ (if nr.1 ≤ 255 then (sayOf nr.1 m true).map (fun L => (L, a + 3)) else none)
          split
          · cases sayOf nr.1 m true with
            | none => rfl
            | some L => simp; omega
          · rfl
      · split
        · split
          · simp; omega
          · rfl
        · cases named c with
          | none => rfl
          | some x => simp; omega
/-- an escape lies within its text, and hangs on no byte behind it -/
theorem escOf_len {m : UInt8} {l : List UInt8} {L : List UInt8} {n : Nat} (h : escOf m 0 l = some (L, n)) : n ≤ l.length ∧ 0 < n ∧ ∀ t, escOf m 0 (l.take n ++ t) = some (L, n) := by
  cases l with
  | nil => cases h
  | cons c t =>
    have key : ∀ j, (c :: t).take (j + 1) = c :: t.take j := fun j => rfl
    rw [escOf_cons] at h
    split at h
    · rename_i hc
      cases hN : numOf 16 (digitsOf c) 0 t with
      | none => rw [hN] at h; cases h
      | some nr =>
        rw [hN] at h
        obtain ⟨h1, h2, h3⟩ := numOf_len 16 _ _ _ _ hN
        have h' : (sayOf nr.1 m (decide (c = 120))).map (fun L => (L, 0 + 1 + digitsOf c)) = some (L, n) := h
        cases hS : sayOf nr.1 m (decide (c = 120)) with
        | none => rw [hS] at h'; cases h'
        | some L0 =>
          rw [hS] at h'
          cases h'
          refine ⟨by simp; omega, by omega, fun t' => ?_⟩
          rw [show 0 + 1 + digitsOf c = digitsOf c + 1 by omega, key, List.cons_append, escOf_cons, if_pos hc, h3 t']
          show (sayOf nr.1 m (decide (c = 120))).map _ = _
          rw [hS]; simp; omega
    · rename_i hc
      split at h
      · rename_i ho
        cases hN : numOf 8 3 0 (c :: t) with
        | none => rw [hN] at h; cases h
        | some nr =>
          rw [hN] at h
          obtain ⟨h1, h2, h3⟩ := numOf_len 8 _ _ _ _ hN
          have h' : (if nr.1 ≤ 255 then (sayOf nr.1 m true).map fun L => (L, 0 + 3) else none) = some (L, n) := h
          split at h'
          · rename_i h255
            cases hS : sayOf nr.1 m true with
            | none => rw [hS] at h'; cases h'
            | some L0 =>
              rw [hS] at h'
              cases h'
              refine ⟨h1, by omega, fun t' => ?_⟩
              have h4 := h3 t'
              rw [key 2, List.cons_append] at h4
              rw [key 2, List.cons_append, escOf_cons, if_neg hc, if_pos ho, h4]
              show (if nr.1 ≤ 255 then (sayOf nr.1 m true).map _ else none) = _
              rw [if_pos h255, hS]; rfl
          · cases h'
      · rename_i ho
        split at h
        · rename_i hq
          split at h
          · rename_i hm
            cases h
            refine ⟨by simp, by omega, fun t' => ?_⟩
            rw [key 0, List.cons_append, escOf_cons, if_neg hc, if_neg ho, if_pos hq, if_pos hm]
          · cases h
        · rename_i hq
          cases hn : named c with
          | none => rw [hn] at h; cases h
          | some x =>
            rw [hn] at h
            cases h
            refine ⟨by simp, by omega, fun t' => ?_⟩
            rw [key 0, List.cons_append, escOf_cons, if_neg hc, if_neg ho, if_neg hq, hn]; rfl
theorem escOf_one {m : UInt8} {l : List UInt8} {L : List UInt8} {n : Nat} (h : escOf m 1 l = some (L, n)) : ∃ j, n = 1 + j ∧ escOf m 0 l = some (L, j) := by
  rw [show (1 : Nat) = 1 + 0 from rfl, escOf_shift] at h
  cases he : escOf m 0 l with
  | none => rw [he] at h; cases h
  | some x => rw [he] at h; cases h; exact ⟨x.2, rfl, rfl⟩
/-- a document's item: its length, and how much it says -/
theorem docItem_len {m c : UInt8} {t : List UInt8} {L : List UInt8} {n : Nat} (h : docItem m c t = some (L, n)) : 0 < n ∧ L.length ≤ n ∧ n ≤ t.length + 1 := by
  unfold docItem at h
  split at h
  · have h1 := escOf_grow h
    obtain ⟨j, rfl, he⟩ := escOf_one h
    have h2 := escOf_len he
    omega
  · split at h
    · cases h
    · split at h
      · cases h; simp
      · split at h
        · cases h
        · rename_i hw
          have hl := wide_le (c :: t)
          cases h
          rw [List.length_take]
          simp at hl ⊢; omega
/-- a string, item by item -/
theorem str_step {l : List UInt8} {i : Nat} {c : UInt8} (f : Nat) (T : List UInt8) (h : l[i]? = some c) (hc : c ≠ 34) : strOf l (f + 1) i T = (docItem 34 c (l.drop (i + 1))).bind fun x => strOf l f (i + x.2) (T ++ x.1) := by
  rw [strOf_some f T h, if_neg hc]
  unfold docItem
  by_cases h92 : c = 92
  · rw [if_neg (by rw [h92]; decide), if_pos h92, if_pos h92, show i + 1 = i + 1 from rfl, escOf_shift 34 i 1]
    cases escOf 34 1 (l.drop (i + 1)) with
    | none => rfl
    | some x => rfl
  · rw [if_neg h92, if_neg h92]
    split
    · rfl
    · rw [if_pos rfl]; rfl
end Go.Proofs.YtoffjpgobhcipaaDoor

/-
  Layer 6: the document's Begun: strings.
-/
namespace Go.Proofs.YtoffjpgobhcipaaDoor
open Go.ChangeShapes Go.WideShapes Go.ChangeAt Go.RowKit

theorem Own.below {w w' : World} {B : Nat} {v : Value} {T : List UInt8} (h : Own w B v T) (hB : Below w.heap.size w w') : Own w' B v T := by
  refine ⟨h.1, ?_⟩
  rcases h.2 with h | ⟨g, cap, cur, e, hb, hg, r⟩
  · exact .inl h
  · exact .inr ⟨g, cap, cur, e, hb, by rw [hB.block g (Array.getElem?_eq_some_iff.1 hg).1]; exact hg, r⟩
end Go.Proofs.YtoffjpgobhcipaaDoor

/-
  Layer 6: plain: a rune by the document's item against the reading by the program.
-/
namespace Go.Proofs.YtoffjpgobhcipaaDoor
open Go.ChangeShapes Go.WideShapes Go.ChangeAt Go.RowKit
open Go.Lib (decodeL encodeRune encodeRuneZ encodeRuneZ_one)

theorem form_ascii (r : Int) (h0 : 0 ≤ r) (h : r < 128) : form r = [UInt8.ofNat r.toNat] := by
  have hc : isChar r = true := by unfold isChar; simp; omega
  have hf : form r = encodeRune r := by simp [form, hc]
  rw [hf]
  unfold encodeRune
  rw [encodeRuneZ_one (by omega) (by omega)]
  rfl
theorem ascii_head (c : UInt8) (t : List UInt8) (h : c.toNat < 128) : wide (c :: t) = 1 ∧ chr (c :: t) = (c.toNat : Int) := by
  have hc : isChar (c.toNat : Int) = true := by unfold isChar; simp; omega
  have hf := form_ascii (c.toNat : Int) (by omega) (by omega)
  rw [show UInt8.ofNat ((c.toNat : Int)).toNat = c by simp] at hf
  have hg := form_good (c.toNat : Int) t hc
  have hd := decode_form (c.toNat : Int) t hc
  rw [hf] at hg hd
  have hg' : isBad (c :: t) = false := hg
  have hd' : decodeL (c :: t) = (((c.toNat : Int)).toNat, 1) := hd
  unfold wide chr
  rw [hg', hd']
  simp
theorem chr_ascii {c : UInt8} {t : List UInt8} (hw : wide (c :: t) ≠ 0) (r : Int) (h0 : 0 ≤ r) (h : r < 128) (hr : chr (c :: t) = r) : c = UInt8.ofNat r.toNat := by
  have h1 := (chr_form hw).1
  rw [hr, form_ascii r h0 h] at h1
  cases hn : wide (c :: t) with
  | zero => exact absurd hn hw
  | succ n =>
    rw [hn, List.take_succ_cons] at h1
    exact (List.cons.inj h1).1.symm
theorem wide_nil : wide [] = 0 := by unfold wide; simp
theorem rune_end {l : List UInt8} {i : Nat} (h : l.length ≤ i) : runeOf l i [] = none := by
  unfold runeOf
  rw [List.drop_of_length_le h, if_pos (.inl wide_nil)]
theorem rune_mark {l : List UInt8} {i : Nat} (h : l[i]? = some 39) : runeOf l i [] = none := by
  have hl : l.drop i = 39 :: l.drop (i + 1) := by
    obtain ⟨h1, h2⟩ := List.getElem?_eq_some_iff.1 h
    rw [List.drop_eq_getElem_cons h1, h2]
  unfold runeOf
  rw [hl, if_pos (.inr (.inl (ascii_head 39 _ (by decide)).2))]
theorem rune_step {l : List UInt8} {i : Nat} {c : UInt8} (h : l[i]? = some c) (hc : c ≠ 39) : runeOf l i [] = (docItem 39 c (l.drop (i + 1))).bind fun x => closeOf l (i + x.2) x.1 := by
  have hl : l.drop i = c :: l.drop (i + 1) := by
    obtain ⟨h1, h2⟩ := List.getElem?_eq_some_iff.1 h
    rw [List.drop_eq_getElem_cons h1, h2]
  unfold runeOf docItem
  rw [hl]
  by_cases h92 : c = 92
  · obtain ⟨h1, h2⟩ := ascii_head c (l.drop (i + 1)) (by rw [h92]; decide)
    rw [h1, h2, if_neg (by rw [h92]; decide), if_pos (by rw [h92]; rfl), if_pos h92, escOf_shift 39 i 1]
    cases escOf 39 1 (l.drop (i + 1)) with
    | none => rfl
    | some x => rfl
  · rw [if_neg h92]
    by_cases h10 : c = 10
    · obtain ⟨h1, h2⟩ := ascii_head c (l.drop (i + 1)) (by rw [h10]; decide)
      rw [if_pos (.inr (.inr (by rw [h2, h10]; rfl))), if_pos h10]; rfl
    · rw [if_neg h10, if_neg (show ¬ ((39 : UInt8) = 34) by decide)]
      by_cases hw : wide (c :: l.drop (i + 1)) = 0
      · rw [if_pos (.inl hw), if_pos hw]; rfl
      · have n39 : chr (c :: l.drop (i + 1)) ≠ 39 := fun e => hc (chr_ascii hw 39 (by decide) (by decide) e)
        have n10 : chr (c :: l.drop (i + 1)) ≠ 10 := fun e => h10 (chr_ascii hw 10 (by decide) (by decide) e)
        have n92 : chr (c :: l.drop (i + 1)) ≠ 92 := fun e => h92 (chr_ascii hw 92 (by decide) (by decide) e)
        rw [if_neg (by rintro (e | e | e); exact hw e; exact n39 e; exact n10 e), if_neg n92, if_neg hw, (chr_form hw).1]; rfl
end Go.Proofs.YtoffjpgobhcipaaDoor

/-
  Layer 6: the document's Begun: runes.
-/
namespace Go.Proofs.YtoffjpgobhcipaaDoor
open Go.ChangeShapes Go.WideShapes Go.ChangeAt Go.RowKit

end Go.Proofs.YtoffjpgobhcipaaDoor

/-
  Layer 6: the document's Begun, Scan and Value.
-/
namespace Go.Proofs.YtoffjpgobhcipaaDoor
open Go.ChangeShapes Go.WideShapes Go.ChangeAt Go.RowKit

/-- what Begun answers at any place -/
def begunV (l : List UInt8) (at' : Int) : Value :=
  if markAt l at' = true then begAns (readOf l at'.toNat) else .tuple #[.int .u8 0, .int .i64 0, .string ⟨#[]⟩, .int .i64 15]
/-- Begun's answer, taken apart -/
theorem begunV_apart (l : List UInt8) (at' : Int) : ∃ (K : Nat) (k' : Int) (L : List UInt8) (e : Int), begunV l at' = .tuple #[.int .u8 K, .int .i64 k', .string ⟨L.toArray⟩, .int .i64 e] ∧ scanP l at' = (K, k', e) ∧ (at' = 0 → valueP l = if e = 0 ∧ k' = l.length then some L else none) := by
  unfold begunV scanP valueP
  by_cases hm : markAt l at' = true
  · rw [if_pos hm, if_pos hm]
    cases hr : readOf l at'.toNat with
    | none =>
      refine ⟨0, 0, [], 4, rfl, rfl, fun h => ?_⟩
      subst h
      rw [if_pos hm, show readOf l 0 = none from hr, if_neg (by omega)]; rfl
    | some x =>
      obtain ⟨K, L, k'⟩ := x
      refine ⟨K, k', L, 0, rfl, rfl, fun h => ?_⟩
      subst h
      rw [if_pos hm, show readOf l 0 = some (K, L, k') from hr]
      show (if k' = l.length then some L else none) = _
      by_cases he : k' = l.length
      · rw [if_pos he, if_pos ⟨rfl, by omega⟩]
      · rw [if_neg he, if_neg (by omega)]
  · rw [if_neg hm, if_neg hm]
    refine ⟨0, 0, [], 15, rfl, rfl, fun h => ?_⟩
    subst h
    rw [if_neg hm, if_neg (by omega)]
end Go.Proofs.YtoffjpgobhcipaaDoor

/-
  Layer 6: plain: readings hang on no byte behind them; strings joined; what is quoted.
-/
namespace Go.Proofs.YtoffjpgobhcipaaDoor
open Go.ChangeShapes Go.WideShapes Go.ChangeAt Go.RowKit
open Go.Lib (decodeL)

/-- a string behind its first mark, told from there on: what it says, how many bytes it has -/
def strR : Nat → List UInt8 → Option (List UInt8 × Nat)
  | 0, _ => none
  | _ + 1, [] => none
  | f + 1, c :: t =>
    if c = 34 then some ([], 1) else if c = 10 then none
    else if c = 92 then (escOf 34 0 t).bind fun x => (strR f (t.drop x.2)).map fun y => (x.1 ++ y.1, 1 + x.2 + y.2)
    else (strR f t).map fun y => (c :: y.1, 1 + y.2)
theorem strR_cons (f : Nat) (c : UInt8) (t : List UInt8) : strR (f + 1) (c :: t) =
    if c = 34 then some ([], 1) else if c = 10 then none
    else if c = 92 then (escOf 34 0 t).bind fun x => (strR f (t.drop x.2)).map fun y => (x.1 ++ y.1, 1 + x.2 + y.2)
    else (strR f t).map fun y => (c :: y.1, 1 + y.2) := rfl
theorem strOf_rel (l : List UInt8) : ∀ (f i : Nat) (T : List UInt8), strOf l f i T = (strR f (l.drop i)).map fun x => (T ++ x.1, i + x.2)
  | 0, i, T => rfl
  | f + 1, i, T => by
    cases h : l[i]? with
    | none =>
      rw [strOf_none _ _ h, List.drop_of_length_le (List.getElem?_eq_none_iff.1 h)]; rfl
    | some c =>
      have hl : l.drop i = c :: l.drop (i + 1) := by
        obtain ⟨h1, h2⟩ := List.getElem?_eq_some_iff.1 h
        rw [List.drop_eq_getElem_cons h1, h2]
      rw [strOf_some f T h, hl, strR_cons]
      split
      · simp
      · split
        · rfl
        · split
          · rw [show i + 1 = (i + 1) + 0 from rfl, escOf_shift 34 (i + 1) 0]
            cases he : escOf 34 0 (l.drop (i + 1)) with
            | none => rfl
            | some x =>
              show strOf l f (i + 1 + x.2) (T ++ x.1) = Option.map _ (Option.map _ (strR f ((l.drop (i + 1)).drop x.2)))
              rw [strOf_rel l f (i + 1 + x.2) (T ++ x.1), List.drop_drop]
              cases strR f (l.drop (i + 1 + x.2)) with
              | none => rfl
              | some y => simp; omega
          · rw [strOf_rel l f (i + 1) (T ++ [c])]
            cases strR f (l.drop (i + 1)) with
            | none => rfl
            | some y => simp; omega
/-- a string hangs on no byte behind it; one string behind another one -/
theorem strR_len : ∀ (f : Nat) (l L : List UInt8) (n : Nat), strR f l = some (L, n) → 0 < n ∧ n ≤ l.length ∧ l[n - 1]? = some 34 ∧ (∀ f', l.length ≤ f' → strR f' l = some (L, n)) ∧ (∀ t g, strR (f + g) (l.take n ++ t) = some (L, n)) ∧ (∀ t g M j, strR g t = some (M, j) → strR (f + g) (l.take (n - 1) ++ t) = some (L ++ M, n - 1 + j))
  | 0, _, _, _, h => by cases h
  | f + 1, [], _, _, h => by cases h
  | f + 1, c :: t, L, n, h => by
    rw [strR_cons] at h
    by_cases h34 : c = 34
    · rw [if_pos h34] at h
      cases h
      refine ⟨by omega, by simp, by simp [h34], ?_, ?_, ?_⟩
      · intro f' hf'
        obtain ⟨f'', rfl⟩ : ∃ f'', f' = f'' + 1 := ⟨f' - 1, by simp at hf'; omega⟩
        rw [strR_cons, if_pos h34]
      · intro t' g
        rw [show f + 1 + g = (f + g) + 1 by omega, List.take_succ_cons, List.cons_append, strR_cons, if_pos h34]
      · intro t' g M j hM
        have key : ∀ (e f : Nat) (l : List UInt8) (r : List UInt8 × Nat), strR f l = some r → strR (f + e) l = some r := by
          intro e f
          induction f with
          | zero => intro l r h; cases h
          | succ f ih =>
            intro l r h
            cases l with
            | nil => cases h
            | cons c t =>
              rw [show f + 1 + e = (f + e) + 1 by omega, strR_cons]
              rw [strR_cons] at h
              split
              · rename_i q; rw [if_pos q] at h; exact h
              · rename_i q; rw [if_neg q] at h
                split
                · rename_i q; rw [if_pos q] at h; exact h
                · rename_i q; rw [if_neg q] at h
                  split
                  · rename_i q; rw [if_pos q] at h
                    cases he : escOf 34 0 t with
                    | none => rw [he] at h; cases h
                    | some x =>
                      rw [he] at h
                      show Option.map _ (strR (f + e) (t.drop x.2)) = _
                      cases hs : strR f (t.drop x.2) with
                      | none => exact absurd h (by show ¬ Option.map _ (strR f (t.drop x.2)) = _; rw [hs]; simp)
                      | some y =>
                        rw [ih _ _ hs]
                        have h' : Option.map _ (strR f (t.drop x.2)) = some r := h
                        rw [hs] at h'; exact h'
                  · rename_i q; rw [if_neg q] at h
                    cases hs : strR f t with
                    | none => rw [hs] at h; cases h
                    | some y => rw [ih _ _ hs]; rw [hs] at h; exact h
        show strR (f + 1 + g) ([] ++ t') = _
        rw [List.nil_append, Nat.add_comm (f + 1) g, key _ _ _ _ hM]; simp
    · rw [if_neg h34] at h
      by_cases h10 : c = 10
      · rw [if_pos h10] at h; cases h
      · rw [if_neg h10] at h
        by_cases h92 : c = 92
        · rw [if_pos h92] at h
          cases he : escOf 34 0 t with
          | none => rw [he] at h; cases h
          | some x =>
            obtain ⟨X, e⟩ := x
            rw [he] at h
            have h' : (strR f (t.drop e)).map (fun y => (X ++ y.1, 1 + e + y.2)) = some (L, n) := h
            cases hs : strR f (t.drop e) with
            | none => rw [hs] at h'; cases h'
            | some y =>
              obtain ⟨Y, j⟩ := y
              rw [hs] at h'
              cases h'
              obtain ⟨i1, i2, i3, i4, i5, i6⟩ := strR_len f _ _ _ hs
              obtain ⟨e1, e2, e3⟩ := escOf_len he
              rw [List.length_drop] at i2 i4
              refine ⟨by omega, by simp; omega, ?_, ?_, ?_, ?_⟩
              · rw [List.getElem?_drop] at i3
                show (c :: t)[1 + e + j - 1]? = _
                rw [show 1 + e + j - 1 = (e + (j - 1)) + 1 by omega, List.getElem?_cons_succ]; exact i3
              · intro f' hf'
                obtain ⟨f'', rfl⟩ : ∃ f'', f' = f'' + 1 := ⟨f' - 1, by simp at hf'; omega⟩
                rw [strR_cons, if_neg h34, if_neg h10, if_pos h92, he]
                show (strR f'' (t.drop e)).map _ = _
                rw [i4 f'' (by simp at hf'; omega)]; rfl
              · intro t' g
                have hsp : (c :: t).take (1 + e + j) ++ t' = c :: (t.take e ++ ((t.drop e).take j ++ t')) := by
                  rw [show 1 + e + j = (e + j) + 1 by omega, List.take_succ_cons, List.cons_append, List.take_add, List.append_assoc]
                rw [show f + 1 + g = (f + g) + 1 by omega, hsp, strR_cons, if_neg h34, if_neg h10, if_pos h92, e3]
                show (strR (f + g) ((t.take e ++ ((t.drop e).take j ++ t')).drop e)).map _ = _
                rw [List.drop_left' (by rw [List.length_take]; omega), i5 t' g]; rfl
              · intro t' g M k hM
                have hsp : (c :: t).take (1 + e + j - 1) ++ t' = c :: (t.take e ++ ((t.drop e).take (j - 1) ++ t')) := by
                  rw [show 1 + e + j - 1 = (e + (j - 1)) + 1 by omega, List.take_succ_cons, List.cons_append, List.take_add, List.append_assoc]
                rw [show f + 1 + g = (f + g) + 1 by omega, hsp, strR_cons, if_neg h34, if_neg h10, if_pos h92, e3]
                show (strR (f + g) ((t.take e ++ ((t.drop e).take (j - 1) ++ t')).drop e)).map _ = _
                rw [List.drop_left' (by rw [List.length_take]; omega), i6 t' g M k hM]
                simp; omega
        · rw [if_neg h92] at h
          cases hs : strR f t with
          | none => rw [hs] at h; cases h
          | some y =>
            obtain ⟨Y, j⟩ := y
            rw [hs] at h
            cases h
            obtain ⟨i1, i2, i3, i4, i5, i6⟩ := strR_len f _ _ _ hs
            refine ⟨by omega, by simp; omega, ?_, ?_, ?_, ?_⟩
            · show (c :: t)[1 + j - 1]? = _
              rw [show 1 + j - 1 = (j - 1) + 1 by omega, List.getElem?_cons_succ]; exact i3
            · intro f' hf'
              obtain ⟨f'', rfl⟩ : ∃ f'', f' = f'' + 1 := ⟨f' - 1, by simp at hf'; omega⟩
              rw [strR_cons, if_neg h34, if_neg h10, if_neg h92, i4 f'' (by simp at hf'; omega)]; rfl
            · intro t' g
              rw [show f + 1 + g = (f + g) + 1 by omega, show 1 + j = j + 1 by omega, List.take_succ_cons, List.cons_append, strR_cons, if_neg h34, if_neg h10, if_neg h92, i5 t' g]
              simp; omega
            · intro t' g M k hM
              rw [show f + 1 + g = (f + g) + 1 by omega, show 1 + j - 1 = (j - 1) + 1 by omega, List.take_succ_cons, List.cons_append, strR_cons, if_neg h34, if_neg h10, if_neg h92, i6 t' g M k hM]
              simp; omega
/-- a raw string told from its place on -/
theorem rawOf_rel : ∀ (l : List UInt8) (k : Nat) (T : List UInt8), rawOf k T l = (rawOf 0 [] l).map fun x => (T ++ x.1, k + x.2)
  | [], k, T => rfl
  | c :: t, k, T => by
    rw [rawOf_step, rawOf_step]
    split
    · simp
    · rw [rawOf_rel t (k + 1), rawOf_rel t (0 + 1)]
      cases rawOf 0 [] t with
      | none => rfl
      | some x => simp; refine ⟨?_, by omega⟩; split <;> simp
theorem rawOf_len : ∀ (l : List UInt8) (L : List UInt8) (n : Nat), rawOf 0 [] l = some (L, n) → 0 < n ∧ n ≤ l.length ∧ l[n - 1]? = some 96 ∧ ∀ t, rawOf 0 [] (l.take n ++ t) = some (L, n)
  | [], _, _, h => by cases h
  | c :: t, L, n, h => by
    rw [rawOf_step] at h
    split at h
    · rename_i hc
      cases h
      refine ⟨by omega, by simp, by simp [hc], fun t' => ?_⟩
      rw [show 0 + 1 = 1 from rfl, List.take_succ_cons, List.cons_append, rawOf_step, if_pos hc]
    · rename_i hc
      rw [rawOf_rel] at h
      cases hr : rawOf 0 [] t with
      | none => rw [hr] at h; cases h
      | some x =>
        obtain ⟨X, j⟩ := x
        rw [hr] at h
        cases h
        obtain ⟨i1, i2, i3, i4⟩ := rawOf_len t _ _ hr
        refine ⟨by omega, by simp; omega, ?_, fun t' => ?_⟩
        · show (c :: t)[0 + 1 + j - 1]? = _
          rw [show 0 + 1 + j - 1 = (j - 1) + 1 by omega, List.getElem?_cons_succ]; exact i3
        · show rawOf 0 [] ((c :: t).take (0 + 1 + j) ++ t') = _
          rw [show 0 + 1 + j = j + 1 by omega, List.take_succ_cons, List.cons_append, rawOf_step, if_neg hc, rawOf_rel, i4 t']
          simp; omega
theorem wide_form {r : Int} (h : isChar r = true) (t : List UInt8) : wide (form r ++ t) = (form r).length ∧ chr (form r ++ t) = r := by
  have hd := decode_form r t h
  have hg := form_good r t h
  have hn : ¬ (form r ++ t = [] ∨ isBad (form r ++ t) = true) := by
    rw [hg]
    rintro (e | e)
    · exact form_some h (List.append_eq_nil_iff.1 e).1
    · cases e
  unfold wide chr
  rw [if_neg hn, if_neg hn, hd]
  refine ⟨rfl, ?_⟩
  unfold isChar at h
  have := of_decide_eq_true h
  show ((r.toNat : Nat) : Int) = r
  omega
theorem chr_is {l : List UInt8} (h : wide l ≠ 0) : isChar (chr l) = true := by
  cases hi : isChar (chr l) with
  | true => rfl
  | false =>
    have h1 := (chr_form h).2
    rw [form_none hi] at h1
    exact absurd h1.symm h
/-- a document's item hangs on no byte behind it -/
theorem docItem_pre {m c : UInt8} {t : List UInt8} {L : List UInt8} {n : Nat} (h : docItem m c t = some (L, n)) (t' : List UInt8) : docItem m c (t.take (n - 1) ++ t') = some (L, n) := by
  unfold docItem at h ⊢
  split at h
  · rename_i hc
    obtain ⟨j, rfl, he⟩ := escOf_one h
    obtain ⟨e1, e2, e3⟩ := escOf_len he
    rw [if_pos hc, show 1 + j - 1 = j by omega, show (1 : Nat) = 1 + 0 from rfl, escOf_shift, e3 t']; rfl
  · rename_i hc
    rw [if_neg hc]
    split at h
    · cases h
    · rename_i h10
      rw [if_neg h10]
      split at h
      · rename_i hm
        cases h
        rw [if_pos hm]
      · rename_i hm
        rw [if_neg hm]
        split at h
        · cases h
        · rename_i hw
          cases h
          have hf := (chr_form hw).1
          have hl := wide_le (c :: t)
          obtain ⟨w, hwn⟩ : ∃ w, wide (c :: t) = w + 1 := ⟨wide (c :: t) - 1, by omega⟩
          have hx : c :: (t.take (wide (c :: t) - 1) ++ t') = form (chr (c :: t)) ++ t' := by
            rw [hf, hwn, List.take_succ_cons]; rfl
          have hlen := (chr_form hw).2
          obtain ⟨g1, g2⟩ := wide_form (chr_is hw) t'
          rw [hx, g1, hlen, if_neg hw]
          congr 2
          rw [List.take_left' hlen, hf]
theorem rune_none {l : List UInt8} {i : Nat} (h : l[i]? = none) : runeOf l i [] = none := rune_end (List.getElem?_eq_none_iff.1 h)
/-- a rune told from its place on -/
theorem runeOf_rel (l : List UInt8) (i : Nat) : runeOf l i [] = (runeOf (l.drop i) 0 []).map fun x => (x.1, i + x.2) := by
  have h0 : (l.drop i)[0]? = l[i]? := by rw [List.getElem?_drop]; rfl
  cases h : l[i]? with
  | none => rw [rune_none h, rune_none (by rw [h0, h])]; rfl
  | some c =>
    by_cases hc : c = 39
    · rw [rune_mark (by rw [h, hc]), rune_mark (by rw [h0, h, hc])]; rfl
    · rw [rune_step h hc, rune_step (by rw [h0, h]) hc, List.drop_drop]
      cases docItem 39 c (l.drop (i + 1)) with
      | none => rfl
      | some x =>
        show closeOf l (i + x.2) x.1 = (closeOf (l.drop i) (0 + x.2) x.1).map _
        unfold closeOf
        rw [List.getElem?_drop, Nat.zero_add]
        split
        · simp; omega
        · rfl
theorem runeOf_len {l L : List UInt8} {n : Nat} (h : runeOf l 0 [] = some (L, n)) : 0 < n ∧ n ≤ l.length ∧ l[n - 1]? = some 39 ∧ ∀ t, runeOf (l.take n ++ t) 0 [] = some (L, n) := by
  cases l with
  | nil => rw [rune_none rfl] at h; cases h
  | cons c t0 =>
    by_cases hc : c = 39
    · rw [rune_mark (by rw [hc]; rfl)] at h; cases h
    · rw [rune_step rfl hc] at h
      rw [show (c :: t0).drop (0 + 1) = t0 from rfl] at h
      cases hd : docItem 39 c t0 with
      | none => rw [hd] at h; cases h
      | some x =>
        obtain ⟨X, j⟩ := x
        rw [hd] at h
        have h' : closeOf (c :: t0) (0 + j) X = some (L, n) := h
        unfold closeOf at h'
        split at h'
        · rename_i hx
          rw [Nat.zero_add] at h' hx
          cases h'
          obtain ⟨l1, l2, l3⟩ := docItem_len hd
          have hlt : j < (c :: t0).length := (List.getElem?_eq_some_iff.1 hx).1
          refine ⟨by omega, by omega, by simpa using hx, fun t' => ?_⟩
          obtain ⟨j', rfl⟩ : ∃ j', j = j' + 1 := ⟨j - 1, by omega⟩
          have hx' : t0[j']? = some 39 := by simpa using hx
          have hsp : (c :: t0).take (j' + 1 + 1) ++ t' = c :: (t0.take j' ++ (39 :: t')) := by
            obtain ⟨q1, q2⟩ := List.getElem?_eq_some_iff.1 hx'
            rw [List.take_succ_cons, List.take_succ_eq_append_getElem q1, q2]; simp
          rw [hsp, rune_step rfl hc, show (c :: (t0.take j' ++ (39 :: t'))).drop (0 + 1) = t0.take j' ++ (39 :: t') from rfl]
          have hp := docItem_pre hd (39 :: t')
          rw [show j' + 1 - 1 = j' from rfl] at hp
          rw [hp]
          show closeOf _ (0 + (j' + 1)) L = _
          unfold closeOf
          rw [Nat.zero_add, List.getElem?_cons_succ, List.getElem?_append_right (by rw [List.length_take]; omega), List.length_take, Nat.min_eq_left (by simp at hlt; omega), Nat.sub_self, if_pos (by rfl)]
        · cases h'
/-- a text in marks told from its place on -/
theorem readOf_rel (l : List UInt8) (k : Nat) : readOf l k = (readOf (l.drop k) 0).map fun x => (x.1, x.2.1, k + x.2.2) := by
  have h0 : (l.drop k)[0]? = l[k]? := by rw [List.getElem?_drop]; rfl
  unfold readOf
  rw [h0, List.drop_drop, Nat.zero_add]
  split
  · rw [rawOf_rel _ (k + 1), rawOf_rel _ 1]
    cases rawOf 0 [] (l.drop (k + 1)) with
    | none => rfl
    | some x => simp; omega
  · split
    · rw [strOf_rel, strOf_rel, List.drop_drop, List.length_drop, show l.length - k - 1 = l.length - (k + 1) by omega]
      cases strR (l.length - (k + 1)) (l.drop (k + 1)) with
      | none => rfl
      | some x => simp; omega
    · split
      · rw [runeOf_rel l (k + 1), runeOf_rel (l.drop k) 1, List.drop_drop]
        cases runeOf (l.drop (k + 1)) 0 [] with
        | none => rfl
        | some x => simp; omega
      · rfl
/-- a text in marks: its ends; it hangs on no byte behind it -/
theorem readOf_len {l L : List UInt8} {K n : Nat} (h : readOf l 0 = some (K, L, n)) : 2 ≤ n ∧ n ≤ l.length ∧ l[n - 1]? = l[0]? ∧ (K = 6 ↔ l[0]? = some 39) ∧ (∀ t, readOf (l.take n ++ t) 0 = some (K, L, n)) := by
  cases l with
  | nil => cases h
  | cons c t0 =>
    have hd : ∀ t', (c :: t')[0]? = some c := fun _ => rfl
    unfold readOf at h
    rw [hd, Nat.zero_add, show (c :: t0).drop 1 = t0 from rfl] at h
    split at h
    · rename_i hc
      have hc' : c = 96 := by simpa using hc
      rw [rawOf_rel] at h
      cases hr : rawOf 0 [] t0 with
      | none => rw [hr] at h; cases h
      | some x =>
        obtain ⟨X, j⟩ := x
        rw [hr] at h
        cases h
        obtain ⟨i1, i2, i3, i4⟩ := rawOf_len _ _ _ hr
        obtain ⟨j', rfl⟩ : ∃ j', j = j' + 1 := ⟨j - 1, by omega⟩
        refine ⟨by omega, by simp; omega, ?_, ?_, fun t' => ?_⟩
        · rw [hd, hc', show 1 + (j' + 1) - 1 = j' + 1 by omega, List.getElem?_cons_succ]; exact i3
        · rw [hd, hc']; simp
        · rw [show 1 + (j' + 1) = (j' + 1) + 1 by omega, List.take_succ_cons, List.cons_append]
          unfold readOf
          rw [hd, Nat.zero_add, if_pos hc, show (c :: (t0.take (j' + 1) ++ t')).drop 1 = t0.take (j' + 1) ++ t' from rfl, rawOf_rel, i4 t']
          simp; omega
    · rename_i hc96
      split at h
      · rename_i hc
        have hc' : c = 34 := by simpa using hc
        rw [strOf_rel, show (c :: t0).drop 1 = t0 from rfl] at h
        cases hr : strR ((c :: t0).length - 1) t0 with
        | none => rw [hr] at h; cases h
        | some x =>
          obtain ⟨X, j⟩ := x
          rw [hr] at h
          cases h
          obtain ⟨i1, i2, i3, i4, i5, i6⟩ := strR_len _ _ _ _ hr
          obtain ⟨j', rfl⟩ : ∃ j', j = j' + 1 := ⟨j - 1, by omega⟩
          refine ⟨by omega, by simp; omega, ?_, ?_, fun t' => ?_⟩
          · rw [hd, hc', show 1 + (j' + 1) - 1 = j' + 1 by omega, List.getElem?_cons_succ]; exact i3
          · rw [hd, hc']; simp
          · rw [show 1 + (j' + 1) = (j' + 1) + 1 by omega, List.take_succ_cons, List.cons_append]
            have h5 := i5 t' 0
            obtain ⟨_, _, _, q4, _⟩ := strR_len _ _ _ _ h5
            unfold readOf
            rw [hd, Nat.zero_add, if_neg hc96, if_pos hc, strOf_rel, show (c :: (t0.take (j' + 1) ++ t')).drop 1 = t0.take (j' + 1) ++ t' from rfl, q4 _ (by simp)]
            simp; omega
      · rename_i hc34
        split at h
        · rename_i hc
          have hc' : c = 39 := by simpa using hc
          rw [runeOf_rel, show (c :: t0).drop 1 = t0 from rfl] at h
          cases hr : runeOf t0 0 [] with
          | none => rw [hr] at h; cases h
          | some x =>
            obtain ⟨X, j⟩ := x
            rw [hr] at h
            cases h
            obtain ⟨i1, i2, i3, i4⟩ := runeOf_len hr
            obtain ⟨j', rfl⟩ : ∃ j', j = j' + 1 := ⟨j - 1, by omega⟩
            refine ⟨by omega, by simp; omega, ?_, ?_, fun t' => ?_⟩
            · rw [hd, hc', show 1 + (j' + 1) - 1 = j' + 1 by omega, List.getElem?_cons_succ]; exact i3
            · rw [hd, hc']; simp
            · rw [show 1 + (j' + 1) = (j' + 1) + 1 by omega, List.take_succ_cons, List.cons_append]
              unfold readOf
              rw [hd, Nat.zero_add, if_neg hc96, if_neg hc34, if_pos hc, runeOf_rel, show (c :: (t0.take (j' + 1) ++ t')).drop 1 = t0.take (j' + 1) ++ t' from rfl, i4 t']
              simp; omega
        · cases h
end Go.Proofs.YtoffjpgobhcipaaDoor

/-
  Layer 7: plain: characters of a text one behind the other; clean texts; runs of characters of a sort.
-/
namespace Go.Proofs.YtoffjpgobhcipaaDoor
open Go.ChangeShapes Go.WideShapes Go.ChangeAt Go.RowKit
open Go.Lib (decodeL)

/-- the first place from pos on of a character that may not be; -1 -/
def cleanAt (l : List UInt8) : Nat → Nat → Int
  | 0, _ => -1
  | f + 1, pos => if pos < l.length then (if wide (l.drop pos) = 0 ∨ chr (l.drop pos) = 0 ∨ (chr (l.drop pos) = 65279 ∧ 0 < pos) then pos else cleanAt l f (pos + wide (l.drop pos))) else -1
theorem cleanAt_end (l : List UInt8) (f pos : Nat) (h : ¬ pos < l.length) : cleanAt l f pos = -1 := by
  cases f with
  | zero => rfl
  | succ f => simp [cleanAt, h]
theorem cleanAt_bad {l : List UInt8} {pos : Nat} (f : Nat) (h : pos < l.length) (hb : wide (l.drop pos) = 0 ∨ chr (l.drop pos) = 0 ∨ (chr (l.drop pos) = 65279 ∧ 0 < pos)) : cleanAt l (f + 1) pos = pos := by
  unfold cleanAt; rw [if_pos h, if_pos hb]
theorem cleanAt_good {l : List UInt8} {pos : Nat} (f : Nat) (h : pos < l.length) (hb : ¬ (wide (l.drop pos) = 0 ∨ chr (l.drop pos) = 0 ∨ (chr (l.drop pos) = 65279 ∧ 0 < pos))) : cleanAt l (f + 1) pos = cleanAt l f (pos + wide (l.drop pos)) := by
  conv => lhs; unfold cleanAt
  rw [if_pos h, if_neg hb]
/-- where the characters of a sort end that stand from pos on -/
def spanAt (p : Int → Bool) (l : List UInt8) : Nat → Nat → Nat
  | 0, pos => pos
  | f + 1, pos => if pos < l.length then (if wide (l.drop pos) = 0 ∨ p (chr (l.drop pos)) = false then pos else spanAt p l f (pos + wide (l.drop pos))) else pos
theorem spanAt_end (p : Int → Bool) (l : List UInt8) (f pos : Nat) (h : ¬ pos < l.length) : spanAt p l f pos = pos := by
  cases f with
  | zero => rfl
  | succ f => simp [spanAt, h]
theorem spanAt_stop {p : Int → Bool} {l : List UInt8} {pos : Nat} (f : Nat) (hb : wide (l.drop pos) = 0 ∨ p (chr (l.drop pos)) = false) : spanAt p l f pos = pos := by
  cases f with
  | zero => rfl
  | succ f =>
    unfold spanAt
    by_cases h : pos < l.length
    · rw [if_pos h, if_pos hb]
    · rw [if_neg h]
theorem spanAt_goes {p : Int → Bool} {l : List UInt8} {pos : Nat} (f : Nat) (h : pos < l.length) (hb : ¬ (wide (l.drop pos) = 0 ∨ p (chr (l.drop pos)) = false)) : spanAt p l (f + 1) pos = spanAt p l f (pos + wide (l.drop pos)) := by
  conv => lhs; unfold spanAt
  rw [if_pos h, if_neg hb]
theorem drop_wide {l : List UInt8} {pos : Nat} (h : pos ≤ l.length) : pos + wide (l.drop pos) ≤ l.length := by
  have := (wide_le (l.drop pos)).2
  rw [List.length_drop] at this
  omega
theorem spanAt_le (p : Int → Bool) (l : List UInt8) : ∀ f pos, pos ≤ l.length → pos ≤ spanAt p l f pos ∧ spanAt p l f pos ≤ l.length
  | 0, pos, h => ⟨Nat.le_refl _, h⟩
  | f + 1, pos, h => by
    unfold spanAt
    split
    · split
      · exact ⟨Nat.le_refl _, h⟩
      · have h1 := spanAt_le p l f (pos + wide (l.drop pos)) (drop_wide h)
        omega
    · exact ⟨Nat.le_refl _, h⟩
/-- enough steps are enough -/
theorem spanAt_fuel (p : Int → Bool) (l : List UInt8) : ∀ f g pos, l.length - pos ≤ f → l.length - pos ≤ g → spanAt p l f pos = spanAt p l g pos
  | 0, g, pos, hf, _ => by rw [spanAt_end p l g pos (by omega)]; rfl
  | f + 1, 0, pos, _, hg => by rw [spanAt_end p l (f + 1) pos (by omega)]; rfl
  | f + 1, g + 1, pos, hf, hg => by
    by_cases h : pos < l.length
    · by_cases hb : wide (l.drop pos) = 0 ∨ p (chr (l.drop pos)) = false
      · rw [spanAt_stop _ hb, spanAt_stop _ hb]
      · have hw : wide (l.drop pos) ≠ 0 := fun e => hb (.inl e)
        rw [spanAt_goes f h hb, spanAt_goes g h hb]
        exact spanAt_fuel p l f g _ (by omega) (by omega)
    · rw [spanAt_end _ _ _ _ h, spanAt_end _ _ _ _ h]
theorem cleanAt_fuel (l : List UInt8) : ∀ f g pos, l.length - pos ≤ f → l.length - pos ≤ g → cleanAt l f pos = cleanAt l g pos
  | 0, g, pos, hf, _ => by rw [cleanAt_end l g pos (by omega)]; rfl
  | f + 1, 0, pos, _, hg => by rw [cleanAt_end l (f + 1) pos (by omega)]; rfl
  | f + 1, g + 1, pos, hf, hg => by
    by_cases h : pos < l.length
    · by_cases hb : wide (l.drop pos) = 0 ∨ chr (l.drop pos) = 0 ∨ (chr (l.drop pos) = 65279 ∧ 0 < pos)
      · rw [cleanAt_bad f h hb, cleanAt_bad g h hb]
      · have hw : wide (l.drop pos) ≠ 0 := fun e => hb (.inl e)
        rw [cleanAt_good f h hb, cleanAt_good g h hb]
        exact cleanAt_fuel l f g _ (by omega) (by omega)
    · rw [cleanAt_end _ _ _ h, cleanAt_end _ _ _ h]
/-- a character is its form and what stands behind -/
theorem chr_split {t : List UInt8} (h : wide t ≠ 0) : t = form (chr t) ++ t.drop (wide t) ∧ isChar (chr t) = true := by
  refine ⟨?_, chr_is h⟩
  rw [(chr_form h).1, List.take_append_drop]
/-- bytes that begin no character: those within a form -/
theorem later_none {c : UInt8} (t : List UInt8) (h : 128 ≤ c.toNat ∧ c.toNat ≤ 191) : wide (c :: t) = 0 := by
  have hd : decodeL (c :: t) = (65533, 1) := by
    rw [Lib.decodeL_N]
    have h0 : ((c :: t).getD 0 0) = c := rfl
    rw [h0]
    unfold Lib.decodeN
    rw [if_neg (by omega), if_neg (by omega), if_neg (by omega), if_neg (by omega)]
  unfold wide isBad
  rw [hd, if_pos (.inr rfl)]
theorem form_tail (r : Int) : ∀ j c, 0 < j → (form r)[j]? = some c → 128 ≤ c.toNat ∧ c.toNat ≤ 191 := by
  intro j c hj hc
  cases hi : isChar r with
  | false => rw [form_none hi] at hc; simp at hc
  | true =>
    have hf : form r = Lib.encodeRune r := by simp [form, hi]
    unfold isChar at hi
    rw [decide_eq_true_eq] at hi
    rw [hf] at hc
    unfold Lib.encodeRune at hc
    have key : ∀ x : Int, 0 ≤ x → x < 64 → 128 ≤ (UInt8.ofNat ((128 + x).toNat)).toNat ∧ (UInt8.ofNat ((128 + x).toNat)).toNat ≤ 191 := by
      intro x h0 h1
      have : (UInt8.ofNat ((128 + x).toNat)).toNat = (128 + x).toNat % 256 := by simp
      rw [this]; omega
    by_cases h1 : r ≤ 127
    · rw [Lib.encodeRuneZ_one (by omega) h1] at hc
      obtain ⟨j', rfl⟩ : ∃ j', j = j' + 1 := ⟨j - 1, by omega⟩
      simp at hc
    · by_cases h2 : r ≤ 2047
      · rw [Lib.encodeRuneZ_two (by omega) h2] at hc
        match j, hj, hc with
        | 1, _, hc => simp at hc; subst hc; simp; omega
        | j + 2, _, hc => simp at hc
      · by_cases h3 : r ≤ 65535
        · rw [Lib.encodeRuneZ_three (by omega)] at hc
          match j, hj, hc with
          | 1, _, hc => simp at hc; subst hc; simp; omega
          | 2, _, hc => simp at hc; subst hc; simp; omega
          | j + 3, _, hc => simp at hc
        · rw [Lib.encodeRuneZ_four (by omega) (by omega)] at hc
          match j, hj, hc with
          | 1, _, hc => simp at hc; subst hc; simp; omega
          | 2, _, hc => simp at hc; subst hc; simp; omega
          | 3, _, hc => simp at hc; subst hc; simp; omega
          | j + 4, _, hc => simp at hc
/-- within a form no character begins -/
theorem within_none {t : List UInt8} (h : wide t ≠ 0) {j : Nat} (h0 : 0 < j) (h1 : j < wide t) : wide (t.drop j) = 0 := by
  obtain ⟨hs, _⟩ := chr_split h
  have hl := (chr_form h).2
  have hj : j < (form (chr t)).length := by omega
  have hc : (form (chr t))[j]? = some ((form (chr t))[j]) := List.getElem?_eq_getElem hj
  have hL := form_tail (chr t) j _ h0 hc
  have hd : t.drop j = (form (chr t))[j] :: ((form (chr t)).drop (j + 1) ++ t.drop (wide t)) := by
    conv => lhs; rw [hs]
    rw [List.drop_append_of_le_length (by omega), List.drop_eq_getElem_cons hj, List.cons_append]
  rw [hd]
  exact later_none _ hL
/-- does a character begin at a place, read one behind the other? -/
def stepsTo (l : List UInt8) (at' : Nat) : Nat → Nat → Bool
  | 0, pos => decide (pos = at')
  | f + 1, pos => if pos < at' then stepsTo l at' f (pos + wide (l.drop pos)) else decide (pos = at')
theorem stepsTo_is (l : List UInt8) (at' : Nat) (ha : at' < l.length) : ∀ f g pos, cleanAt l f pos = -1 → l.length - pos ≤ f → at' - pos ≤ g → pos ≤ at' → (stepsTo l at' g pos = true ↔ wide (l.drop at') ≠ 0)
  | 0, _, pos, _, hf, _, hp => absurd hf (by omega)
  | f + 1, g, pos, hc, hf, hg, hp => by
    have hpl : pos < l.length := by omega
    by_cases hb : wide (l.drop pos) = 0 ∨ chr (l.drop pos) = 0 ∨ (chr (l.drop pos) = 65279 ∧ 0 < pos)
    · rw [cleanAt_bad f hpl hb] at hc; omega
    · rw [cleanAt_good f hpl hb] at hc
      have hw : wide (l.drop pos) ≠ 0 := fun e => hb (.inl e)
      by_cases he : pos = at'
      · subst he
        have : stepsTo l pos g pos = true := by
          cases g with
          | zero => simp [stepsTo]
          | succ g => simp [stepsTo]
        rw [this]; simpa using hw
      · obtain ⟨g', rfl⟩ : ∃ g', g = g' + 1 := ⟨g - 1, by omega⟩
        have hs : stepsTo l at' (g' + 1) pos = stepsTo l at' g' (pos + wide (l.drop pos)) := by
          conv => lhs; unfold stepsTo
          rw [if_pos (by omega)]
        rw [hs]
        by_cases hle : pos + wide (l.drop pos) ≤ at'
        · exact stepsTo_is l at' ha f g' _ hc (by omega) (by omega) hle
        · have h0 : wide (l.drop at') = 0 := by
            have := within_none hw (j := at' - pos) (by omega) (by omega)
            rwa [List.drop_drop, show pos + (at' - pos) = at' by omega] at this
          have h1 : stepsTo l at' g' (pos + wide (l.drop pos)) = false := by
            have hn : ¬ (pos + wide (l.drop pos) < at') := by omega
            have hne : ¬ (pos + wide (l.drop pos) = at') := by omega
            cases g' with
            | zero => simp [stepsTo, hne]
            | succ g => simp [stepsTo, hn, hne]
          rw [h0, h1]; simp
end Go.Proofs.YtoffjpgobhcipaaDoor

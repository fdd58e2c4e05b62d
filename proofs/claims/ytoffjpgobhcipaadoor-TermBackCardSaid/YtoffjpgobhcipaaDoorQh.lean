/-
  Texts Mb of an earlier seat, under this one's numbers.
-/
import Derived.Test.YtoffjpgobhcipaaDoorQg
set_option maxRecDepth 100000
/-
  Layer 6: plain: the laws QuotedJoins, QuotedFound, QuotedQuotes, QuotedRaw.
-/
namespace Go.Proofs.YtoffjpgobhcipaaDoor
open Go.ChangeShapes Go.WideShapes Go.ChangeAt Go.RowKit

theorem valueP_read {l v : List UInt8} (h : valueP l = some v) : markAt l 0 = true ∧ ∃ K, readOf l 0 = some (K, v, l.length) := by
  unfold valueP at h
  split at h
  · rename_i hm
    refine ⟨hm, ?_⟩
    cases hr : readOf l 0 with
    | none => rw [hr] at h; cases h
    | some x =>
      obtain ⟨K, L, n⟩ := x
      rw [hr] at h
      have h' : (if n = l.length then some L else none) = some v := h
      split at h'
      · rename_i hn
        cases h'
        exact ⟨K, by rw [hn]⟩
      · cases h'
  · cases h
theorem read_valueP {l v : List UInt8} {K : Nat} (hm : markAt l 0 = true) (h : readOf l 0 = some (K, v, l.length)) : valueP l = some v := by
  unfold valueP
  rw [if_pos hm, h]
  show (if l.length = l.length then some v else none) = _
  rw [if_pos rfl]
theorem markAt_cons {c : UInt8} {t : List UInt8} : markAt (c :: t) 0 = mark? c := rfl
theorem read_str {t : List UInt8} {f : Nat} {L : List UInt8} {n : Nat} (h : strR f t = some (L, n)) : readOf (34 :: t) 0 = some (7, L, n + 1) := by
  obtain ⟨_, _, _, q4, _⟩ := strR_len _ _ _ _ h
  unfold readOf
  rw [show (34 :: t)[0]? = some (34 : UInt8) from rfl, if_neg (by decide), if_pos rfl, Nat.zero_add, strOf_rel, show ((34 : UInt8) :: t).drop 1 = t from rfl, q4 _ (by simp)]
  simp; omega
theorem str_read {t : List UInt8} {K n : Nat} {L : List UInt8} (h : readOf (34 :: t) 0 = some (K, L, n)) : ∃ f j, strR f t = some (L, j) ∧ n = j + 1 := by
  unfold readOf at h
  rw [show (34 :: t)[0]? = some (34 : UInt8) from rfl, if_neg (by decide), if_pos rfl, Nat.zero_add, strOf_rel, show ((34 : UInt8) :: t).drop 1 = t from rfl] at h
  cases hr : strR ((34 :: t).length - 1) t with
  | none => rw [hr] at h; cases h
  | some x =>
    rw [hr] at h
    cases h
    exact ⟨_, x.2, hr, by omega⟩
/-- two strings joined -/
theorem joins_plain {a b v w : List UInt8} (ha : valueP a = some v) (hb : valueP b = some w) (h1 : a[0]? = some 34) (h2 : b[0]? = some 34) : valueP (a.take (a.length - 1) ++ b.drop 1) = some (v ++ w) := by
  obtain ⟨_, K, hr⟩ := valueP_read ha
  obtain ⟨_, K', hr'⟩ := valueP_read hb
  cases a with
  | nil => cases h1
  | cons c t =>
    cases b with
    | nil => cases h2
    | cons d u =>
      have hc : c = 34 := by simpa using h1
      have hd : d = 34 := by simpa using h2
      subst hc hd
      obtain ⟨f, j, e1, e2⟩ := str_read hr
      obtain ⟨g, k, e3, e4⟩ := str_read hr'
      obtain ⟨i1, _, _, _, _, i6⟩ := strR_len _ _ _ _ e1
      have h6 := i6 u g w k e3
      have hj : t.length = j := by simpa using e2
      have hk : u.length = k := by simpa using e4
      obtain ⟨j', rfl⟩ : ∃ j', j = j' + 1 := ⟨j - 1, by omega⟩
      have hx : (34 :: t).take ((34 :: t).length - 1) ++ (34 :: u).drop 1 = (34 : UInt8) :: (t.take (j' + 1 - 1) ++ u) := by
        rw [List.length_cons, hj, show j' + 1 + 1 - 1 = j' + 1 by omega, List.take_succ_cons]; rfl
      rw [hx]
      refine read_valueP (K := 7) rfl ?_
      rw [read_str h6]
      simp; omega
/-- what Scan finds, by itself -/
theorem found_plain {l : List UInt8} {at' : Int} {K : Nat} {en : Int} (h : scanP l at' = (K, en, 0)) : ∃ a n : Nat, at' = a ∧ en = ((a + n : Nat) : Int) ∧ 2 ≤ n ∧ a + n ≤ l.length ∧ l[a + n - 1]? = l[a]? ∧ (K = 6 ↔ l[a]? = some 39) ∧ (∃ v, valueP ((l.drop a).take n) = some v) ∧ valueP ((l.drop a).take (n - 1)) = none := by
  unfold scanP at h
  split at h
  · rename_i hm
    have hp : 0 ≤ at' := by
      unfold markAt at hm
      rw [Bool.and_eq_true] at hm
      exact of_decide_eq_true hm.1
    cases hr : readOf l at'.toNat with
    | none => rw [hr] at h; cases h
    | some x =>
      obtain ⟨K0, L, k'⟩ := x
      rw [hr] at h
      have h' : (K0, ((k' : Nat) : Int), (0 : Int)) = (K, en, 0) := h
      cases h'
      rw [readOf_rel] at hr
      cases hr0 : readOf (l.drop at'.toNat) 0 with
      | none => rw [hr0] at hr; cases hr
      | some y =>
        obtain ⟨K1, L1, n⟩ := y
        rw [hr0] at hr
        cases hr
        obtain ⟨g1, g2, g3, g4, g5⟩ := readOf_len hr0
        rw [List.length_drop] at g2
        rw [List.getElem?_drop, List.getElem?_drop, Nat.add_zero] at g3
        rw [List.getElem?_drop, Nat.add_zero] at g4
        refine ⟨at'.toNat, n, by omega, rfl, g1, by omega, ?_, g4, ?_, ?_⟩
        · rw [show at'.toNat + n - 1 = at'.toNat + (n - 1) by omega]; exact g3
        · have h5 := g5 []
          rw [List.append_nil] at h5
          refine ⟨L1, read_valueP (K := K1) ?_ ?_⟩
          · unfold markAt at hm ⊢
            rw [Bool.and_eq_true] at hm
            have h6 := hm.2
            rw [Int.toNat_zero, List.getElem?_take_of_lt (by omega), List.getElem?_drop, Nat.add_zero, h6]; rfl
          · rw [h5, List.length_take, List.length_drop, Nat.min_eq_left (by omega)]
        · cases hv : valueP ((l.drop at'.toNat).take (n - 1)) with
          | none => rfl
          | some v =>
            obtain ⟨_, K2, hr2⟩ := valueP_read hv
            obtain ⟨_, _, _, _, q5⟩ := readOf_len hr2
            have h7 := q5 ((l.drop at'.toNat).drop (n - 1))
            have hlen : ((l.drop at'.toNat).take (n - 1)).length = n - 1 := by rw [List.length_take, List.length_drop, Nat.min_eq_left (by omega)]
            rw [hlen, List.take_of_length_le (by rw [hlen]; exact Nat.le_refl _), List.take_append_drop, hr0] at h7
            have : n = n - 1 := by
              have := congrArg (Option.map fun x => x.2.2) h7
              simpa using this
            omega
  · cases h
theorem hexd_says (n : Nat) (h : n < 16) : hexOf ((hexd n).toNat : Int) = (n : Int) := by
  have h1 : ∀ n : Fin 16, hexOf ((hexd n.1).toNat : Int) = ((n.1 : Nat) : Int) := by decide
  exact h1 ⟨n, h⟩
/-- what a quoted byte says -/
theorem qb_says (c : UInt8) (f : Nat) (t : List UInt8) : strR (f + 1) (qb c ++ t) = (strR f t).map fun y => (c :: y.1, (qb c).length + y.2) := by
  unfold qb
  split
  · rename_i hc
    have he : escOf 34 0 (c :: t) = some ([c], 1) := by
      rcases hc with rfl | rfl
      · rw [escOf_cons, if_neg (by decide), if_neg (by decide), if_pos (by decide), if_pos rfl]
      · rw [escOf_cons, if_neg (by decide), if_neg (by decide), if_neg (by decide)]; rfl
    show strR (f + 1) (92 :: (c :: t)) = _
    rw [strR_cons, if_neg (by decide), if_neg (by decide), if_pos rfl, he]; rfl
  · rename_i hq
    split
    · rename_i hc
      subst hc
      have he : escOf 34 0 (110 :: t) = some ([10], 1) := by
        rw [escOf_cons, if_neg (by decide), if_neg (by decide), if_neg (by decide)]; rfl
      show strR (f + 1) (92 :: (110 :: t)) = _
      rw [strR_cons, if_neg (by decide), if_neg (by decide), if_pos rfl, he]; rfl
    · rename_i h10
      split
      · show strR (f + 1) (c :: t) = _
        rw [strR_cons, if_neg (fun h => hq (.inl h)), if_neg h10, if_neg (fun h => hq (.inr h))]; rfl
      · have hlt := c.toNat_lt
        have h1 := hexd_says (c.toNat / 16) (by omega)
        have h2 := hexd_says (c.toNat % 16) (by omega)
        have he : escOf 34 0 (120 :: hexd (c.toNat / 16) :: hexd (c.toNat % 16) :: t) = some ([c], 3) := by
          rw [escOf_cons, if_pos (by decide)]
          have hn : numOf 16 (digitsOf 120) 0 (hexd (c.toNat / 16) :: hexd (c.toNat % 16) :: t) = some (c.toNat, t) := by
            show numOf 16 (1 + 1) 0 _ = _
            rw [numOf_step (by rw [h1]; omega), numOf_step (d := 0) (by rw [h2]; omega), h1, h2]
            simp [numOf]; omega
          rw [hn]
          simp [say_small (show c.toNat ≤ 255 by omega), smallOf, digitsOf]
        show strR (f + 1) (92 :: (120 :: hexd (c.toNat / 16) :: hexd (c.toNat % 16) :: t)) = _
        rw [strR_cons, if_neg (by decide), if_neg (by decide), if_pos rfl, he]
        show (strR f t).map _ = _
        cases strR f t with
        | none => rfl
        | some y => simp
theorem qbs_says : ∀ (l t : List UInt8) (f : Nat), strR (f + l.length) (qbs l ++ t) = (strR f t).map fun y => (l ++ y.1, (qbs l).length + y.2)
  | [], t, f => by
    show strR f ([] ++ t) = _
    rw [List.nil_append]
    cases strR f t with
    | none => rfl
    | some y => simp [qbs]
  | c :: l, t, f => by
    have hq : qbs (c :: l) = qb c ++ qbs l := rfl
    rw [hq, List.append_assoc, List.length_cons, show f + (l.length + 1) = (f + l.length) + 1 by omega, qb_says, qbs_says l t f]
    cases strR f t with
    | none => rfl
    | some y => simp; omega
theorem quote_read (l t : List UInt8) : readOf (quoteOf l ++ t) 0 = some (7, l, (quoteOf l).length) := by
  have h : strR (1 + l.length) (qbs l ++ (34 :: t)) = some (l, (qbs l).length + 1) := by
    rw [qbs_says]
    show Option.map _ (some _) = _
    simp
  have hx : quoteOf l ++ t = 34 :: (qbs l ++ (34 :: t)) := by unfold quoteOf; simp
  rw [hx, read_str h]
  unfold quoteOf; simp
theorem quote_value (l : List UInt8) : valueP (quoteOf l) = some l := by
  have h := quote_read l []
  rw [List.append_nil] at h
  exact read_valueP rfl h
theorem quote_scan (l : List UInt8) : scanP (quoteOf l ++ [34]) 0 = (7, ((quoteOf l).length : Int), 0) := by
  unfold scanP
  rw [if_pos (by rfl), show ((0 : Int)).toNat = 0 from rfl, quote_read]; rfl
/-- a raw string says its bytes, but those that are 13 -/
theorem raw_says : ∀ (l t : List UInt8), (∀ c ∈ l, c ≠ 96) → rawOf 0 [] (l ++ (96 :: t)) = some (l.filter (fun c => !decide (c = 13)), l.length + 1)
  | [], t, _ => by rw [List.nil_append, rawOf_step, if_pos rfl]; rfl
  | c :: l, t, h => by
    rw [List.cons_append, rawOf_step, if_neg (h c (by simp)), rawOf_rel, raw_says l t (fun d hd => h d (by simp [hd]))]
    by_cases hc : c = 13
    · simp [hc]; omega
    · simp [hc]; omega
theorem raw_value (l : List UInt8) (h : ∀ c ∈ l, c ≠ 96) : valueP (96 :: (l ++ [96])) = some (l.filter (fun c => !decide (c = 13))) := by
  refine read_valueP (K := 7) rfl ?_
  unfold readOf
  rw [show (96 :: (l ++ [96]))[0]? = some (96 : UInt8) from rfl, if_pos rfl, Nat.zero_add, rawOf_rel, show ((96 : UInt8) :: (l ++ [96])).drop 1 = l ++ [96] from rfl, raw_says l [] h]
  simp; omega
end Go.Proofs.YtoffjpgobhcipaaDoor

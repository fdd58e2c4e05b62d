/-
  Layer 6: plain: readings hang on no byte behind them; strings joined; what is quoted.
-/
import Derived.Test.YtpbkdgbmnffooaaXb
import Derived.Test.YtpbkdgbmnffooaaL
namespace Go.Proofs.Ytpbkdgbmnffooaa
open Go.ChangeShapes Go.WideShapes Go.ChangeAt Go.RowKit
open Go.Lib (decodeL)

/-- a string behind its first mark, told from there on: what it says, how many bytes it has -/
def strR : Nat → List UInt8 → Option (List UInt8 × Nat)
  | 0, _ => none
  | _ + 1, [] => none
  | f + 1, c :: t =>
    if c = 34 then some ([], 1) else if c = 10 then none
    else if c = 92 then (escOf 34 0 t).bind fun x => (strR f (t.drop x.2)).map fun y => (x.1 ++ y.1, 1 + x.2 + y.2)
    else (strR f t).map fun y => (c :: y.1, 1 + y.2)
theorem strR_cons (f : Nat) (c : UInt8) (t : List UInt8) : strR (f + 1) (c :: t) =
    if c = 34 then some ([], 1) else if c = 10 then none
    else if c = 92 then (escOf 34 0 t).bind fun x => (strR f (t.drop x.2)).map fun y => (x.1 ++ y.1, 1 + x.2 + y.2)
    else (strR f t).map fun y => (c :: y.1, 1 + y.2) := rfl
theorem strOf_rel (l : List UInt8) : ∀ (f i : Nat) (T : List UInt8), strOf l f i T = (strR f (l.drop i)).map fun x => (T ++ x.1, i + x.2)
  | 0, i, T => rfl
  | f + 1, i, T => by
    cases h : l[i]? with
    | none =>
      rw [strOf_none _ _ h, List.drop_of_length_le (List.getElem?_eq_none_iff.1 h)]; rfl
    | some c =>
      have hl : l.drop i = c :: l.drop (i + 1) := by
        obtain ⟨h1, h2⟩ := List.getElem?_eq_some_iff.1 h
        rw [List.drop_eq_getElem_cons h1, h2]
      rw [strOf_some f T h, hl, strR_cons]
      split
      · simp
      · split
        · rfl
        · split
          · rw [show i + 1 = (i + 1) + 0 from rfl, escOf_shift 34 (i + 1) 0]
            cases he : escOf 34 0 (l.drop (i + 1)) with
            | none => rfl
            | some x =>
              show strOf l f (i + 1 + x.2) (T ++ x.1) = Option.map _ (Option.map _ (strR f ((l.drop (i + 1)).drop x.2)))
              rw [strOf_rel l f (i + 1 + x.2) (T ++ x.1), List.drop_drop]
              cases strR f (l.drop (i + 1 + x.2)) with
              | none => rfl
              | some y => simp; omega
          · rw [strOf_rel l f (i + 1) (T ++ [c])]
            cases strR f (l.drop (i + 1)) with
            | none => rfl
            | some y => simp; omega
/-- a string hangs on no byte behind it; one string behind another one -/
theorem strR_len : ∀ (f : Nat) (l L : List UInt8) (n : Nat), strR f l = some (L, n) → 0 < n ∧ n ≤ l.length ∧ l[n - 1]? = some 34 ∧ (∀ f', l.length ≤ f' → strR f' l = some (L, n)) ∧ (∀ t g, strR (f + g) (l.take n ++ t) = some (L, n)) ∧ (∀ t g M j, strR g t = some (M, j) → strR (f + g) (l.take (n - 1) ++ t) = some (L ++ M, n - 1 + j))
  | 0, _, _, _, h => by cases h
  | f + 1, [], _, _, h => by cases h
  | f + 1, c :: t, L, n, h => by
    rw [strR_cons] at h
    by_cases h34 : c = 34
    · rw [if_pos h34] at h
      cases h
      refine ⟨by omega, by simp, by simp [h34], ?_, ?_, ?_⟩
      · intro f' hf'
        obtain ⟨f'', rfl⟩ : ∃ f'', f' = f'' + 1 := ⟨f' - 1, by simp at hf'; omega⟩
        rw [strR_cons, if_pos h34]
      · intro t' g
        rw [show f + 1 + g = (f + g) + 1 by omega, List.take_succ_cons, List.cons_append, strR_cons, if_pos h34]
      · intro t' g M j hM
        have key : ∀ (e f : Nat) (l : List UInt8) (r : List UInt8 × Nat), strR f l = some r → strR (f + e) l = some r := by
          intro e f
          induction f with
          | zero => intro l r h; cases h
          | succ f ih =>
            intro l r h
            cases l with
            | nil => cases h
            | cons c t =>
              rw [show f + 1 + e = (f + e) + 1 by omega, strR_cons]
              rw [strR_cons] at h
              split
              · rename_i q; rw [if_pos q] at h; exact h
              · rename_i q; rw [if_neg q] at h
                split
                · rename_i q; rw [if_pos q] at h; exact h
                · rename_i q; rw [if_neg q] at h
                  split
                  · rename_i q; rw [if_pos q] at h
                    cases he : escOf 34 0 t with
                    | none => rw [he] at h; cases h
                    | some x =>
                      rw [he] at h
                      show Option.map _ (strR (f + e) (t.drop x.2)) = _
                      cases hs : strR f (t.drop x.2) with
                      | none => exact absurd h (by show ¬ Option.map _ (strR f (t.drop x.2)) = _; rw [hs]; simp)
                      | some y =>
                        rw [ih _ _ hs]
                        have h' : Option.map _ (strR f (t.drop x.2)) = some r := h
                        rw [hs] at h'; exact h'
                  · rename_i q; rw [if_neg q] at h
                    cases hs : strR f t with
                    | none => rw [hs] at h; cases h
                    | some y => rw [ih _ _ hs]; rw [hs] at h; exact h
        show strR (f + 1 + g) ([] ++ t') = _
        rw [List.nil_append, Nat.add_comm (f + 1) g, key _ _ _ _ hM]; simp
    · rw [if_neg h34] at h
      by_cases h10 : c = 10
      · rw [if_pos h10] at h; cases h
      · rw [if_neg h10] at h
        by_cases h92 : c = 92
        · rw [if_pos h92] at h
          cases he : escOf 34 0 t with
          | none => rw [he] at h; cases h
          | some x =>
            obtain ⟨X, e⟩ := x
            rw [he] at h
            have h' : (strR f (t.drop e)).map (fun y => (X ++ y.1, 1 + e + y.2)) = some (L, n) := h
            cases hs : strR f (t.drop e) with
            | none => rw [hs] at h'; cases h'
            | some y =>
              obtain ⟨Y, j⟩ := y
              rw [hs] at h'
              cases h'
              obtain ⟨i1, i2, i3, i4, i5, i6⟩ := strR_len f _ _ _ hs
              obtain ⟨e1, e2, e3⟩ := escOf_len he
              rw [List.length_drop] at i2 i4
              refine ⟨by omega, by simp; omega, ?_, ?_, ?_, ?_⟩
              · rw [List.getElem?_drop] at i3
                show (c :: t)[1 + e + j - 1]? = _
                rw [show 1 + e + j - 1 = (e + (j - 1)) + 1 by omega, List.getElem?_cons_succ]; exact i3
              · intro f' hf'
                obtain ⟨f'', rfl⟩ : ∃ f'', f' = f'' + 1 := ⟨f' - 1, by simp at hf'; omega⟩
                rw [strR_cons, if_neg h34, if_neg h10, if_pos h92, he]
                show (strR f'' (t.drop e)).map _ = _
                rw [i4 f'' (by simp at hf'; omega)]; rfl
              · intro t' g
                have hsp : (c :: t).take (1 + e + j) ++ t' = c :: (t.take e ++ ((t.drop e).take j ++ t')) := by
                  rw [show 1 + e + j = (e + j) + 1 by omega, List.take_succ_cons, List.cons_append, List.take_add, List.append_assoc]
                rw [show f + 1 + g = (f + g) + 1 by omega, hsp, strR_cons, if_neg h34, if_neg h10, if_pos h92, e3]
                show (strR (f + g) ((t.take e ++ ((t.drop e).take j ++ t')).drop e)).map _ = _
                rw [List.drop_left' (by rw [List.length_take]; omega), i5 t' g]; rfl
              · intro t' g M k hM
                have hsp : (c :: t).take (1 + e + j - 1) ++ t' = c :: (t.take e ++ ((t.drop e).take (j - 1) ++ t')) := by
                  rw [show 1 + e + j - 1 = (e + (j - 1)) + 1 by omega, List.take_succ_cons, List.cons_append, List.take_add, List.append_assoc]
                rw [show f + 1 + g = (f + g) + 1 by omega, hsp, strR_cons, if_neg h34, if_neg h10, if_pos h92, e3]
                show (strR (f + g) ((t.take e ++ ((t.drop e).take (j - 1) ++ t')).drop e)).map _ = _
                rw [List.drop_left' (by rw [List.length_take]; omega), i6 t' g M k hM]
                simp; omega
        · rw [if_neg h92] at h
          cases hs : strR f t with
          | none => rw [hs] at h; cases h
          | some y =>
            obtain ⟨Y, j⟩ := y
            rw [hs] at h
            cases h
            obtain ⟨i1, i2, i3, i4, i5, i6⟩ := strR_len f _ _ _ hs
            refine ⟨by omega, by simp; omega, ?_, ?_, ?_, ?_⟩
            · show (c :: t)[1 + j - 1]? = _
              rw [show 1 + j - 1 = (j - 1) + 1 by omega, List.getElem?_cons_succ]; exact i3
            · intro f' hf'
              obtain ⟨f'', rfl⟩ : ∃ f'', f' = f'' + 1 := ⟨f' - 1, by simp at hf'; omega⟩
              rw [strR_cons, if_neg h34, if_neg h10, if_neg h92, i4 f'' (by simp at hf'; omega)]; rfl
            · intro t' g
              rw [show f + 1 + g = (f + g) + 1 by omega, show 1 + j = j + 1 by omega, List.take_succ_cons, List.cons_append, strR_cons, if_neg h34, if_neg h10, if_neg h92, i5 t' g]
              simp; omega
            · intro t' g M k hM
              rw [show f + 1 + g = (f + g) + 1 by omega, show 1 + j - 1 = (j - 1) + 1 by omega, List.take_succ_cons, List.cons_append, strR_cons, if_neg h34, if_neg h10, if_neg h92, i6 t' g M k hM]
              simp; omega
/-- a raw string told from its place on -/
theorem rawOf_rel : ∀ (l : List UInt8) (k : Nat) (T : List UInt8), rawOf k T l = (rawOf 0 [] l).map fun x => (T ++ x.1, k + x.2)
  | [], k, T => rfl
  | c :: t, k, T => by
    rw [rawOf_step, rawOf_step]
    split
    · simp
    · rw [rawOf_rel t (k + 1), rawOf_rel t (0 + 1)]
      cases rawOf 0 [] t with
      | none => rfl
      | some x => simp; refine ⟨?_, by omega⟩; split <;> simp
theorem rawOf_len : ∀ (l : List UInt8) (L : List UInt8) (n : Nat), rawOf 0 [] l = some (L, n) → 0 < n ∧ n ≤ l.length ∧ l[n - 1]? = some 96 ∧ ∀ t, rawOf 0 [] (l.take n ++ t) = some (L, n)
  | [], _, _, h => by cases h
  | c :: t, L, n, h => by
    rw [rawOf_step] at h
    split at h
    · rename_i hc
      cases h
      refine ⟨by omega, by simp, by simp [hc], fun t' => ?_⟩
      rw [show 0 + 1 = 1 from rfl, List.take_succ_cons, List.cons_append, rawOf_step, if_pos hc]
    · rename_i hc
      rw [rawOf_rel] at h
      cases hr : rawOf 0 [] t with
      | none => rw [hr] at h; cases h
      | some x =>
        obtain ⟨X, j⟩ := x
        rw [hr] at h
        cases h
        obtain ⟨i1, i2, i3, i4⟩ := rawOf_len t _ _ hr
        refine ⟨by omega, by simp; omega, ?_, fun t' => ?_⟩
        · show (c :: t)[0 + 1 + j - 1]? = _
          rw [show 0 + 1 + j - 1 = (j - 1) + 1 by omega, List.getElem?_cons_succ]; exact i3
        · show rawOf 0 [] ((c :: t).take (0 + 1 + j) ++ t') = _
          rw [show 0 + 1 + j = j + 1 by omega, List.take_succ_cons, List.cons_append, rawOf_step, if_neg hc, rawOf_rel, i4 t']
          simp; omega
theorem wide_form {r : Int} (h : isChar r = true) (t : List UInt8) : wide (form r ++ t) = (form r).length ∧ chr (form r ++ t) = r := by
  have hd := decode_form r t h
  have hg := form_good r t h
  have hn : ¬ (form r ++ t = [] ∨ isBad (form r ++ t) = true) := by
    rw [hg]
    rintro (e | e)
    · exact form_some h (List.append_eq_nil_iff.1 e).1
    · cases e
  unfold wide chr
  rw [if_neg hn, if_neg hn, hd]
  refine ⟨rfl, ?_⟩
  unfold isChar at h
  have := of_decide_eq_true h
  show ((r.toNat : Nat) : Int) = r
  omega
theorem chr_is {l : List UInt8} (h : wide l ≠ 0) : isChar (chr l) = true := by
  cases hi : isChar (chr l) with
  | true => rfl
  | false =>
    have h1 := (chr_form h).2
    rw [form_none hi] at h1
    exact absurd h1.symm h
/-- a document's item hangs on no byte behind it -/
theorem docItem_pre {m c : UInt8} {t : List UInt8} {L : List UInt8} {n : Nat} (h : docItem m c t = some (L, n)) (t' : List UInt8) : docItem m c (t.take (n - 1) ++ t') = some (L, n) := by
  unfold docItem at h ⊢
  split at h
  · rename_i hc
    obtain ⟨j, rfl, he⟩ := escOf_one h
    obtain ⟨e1, e2, e3⟩ := escOf_len he
    rw [if_pos hc, show 1 + j - 1 = j by omega, show (1 : Nat) = 1 + 0 from rfl, escOf_shift, e3 t']; rfl
  · rename_i hc
    rw [if_neg hc]
    split at h
    · cases h
    · rename_i h10
      rw [if_neg h10]
      split at h
      · rename_i hm
        cases h
        rw [if_pos hm]
      · rename_i hm
        rw [if_neg hm]
        split at h
        · cases h
        · rename_i hw
          cases h
          have hf := (chr_form hw).1
          have hl := wide_le (c :: t)
          obtain ⟨w, hwn⟩ : ∃ w, wide (c :: t) = w + 1 := ⟨wide (c :: t) - 1, by omega⟩
          have hx : c :: (t.take (wide (c :: t) - 1) ++ t') = form (chr (c :: t)) ++ t' := by
            rw [hf, hwn, List.take_succ_cons]; rfl
          have hlen := (chr_form hw).2
          obtain ⟨g1, g2⟩ := wide_form (chr_is hw) t'
          rw [hx, g1, hlen, if_neg hw]
          congr 2
          rw [List.take_left' hlen, hf]
theorem rune_none {l : List UInt8} {i : Nat} (h : l[i]? = none) : runeOf l i [] = none := rune_end (List.getElem?_eq_none_iff.1 h)
/-- a rune told from its place on -/
theorem runeOf_rel (l : List UInt8) (i : Nat) : runeOf l i [] = (runeOf (l.drop i) 0 []).map fun x => (x.1, i + x.2) := by
  have h0 : (l.drop i)[0]? = l[i]? := by rw [List.getElem?_drop]; rfl
  cases h : l[i]? with
  | none => rw [rune_none h, rune_none (by rw [h0, h])]; rfl
  | some c =>
    by_cases hc : c = 39
    · rw [rune_mark (by rw [h, hc]), rune_mark (by rw [h0, h, hc])]; rfl
    · rw [rune_step h hc, rune_step (by rw [h0, h]) hc, List.drop_drop]
      cases docItem 39 c (l.drop (i + 1)) with
      | none => rfl
      | some x =>
        show closeOf l (i + x.2) x.1 = (closeOf (l.drop i) (0 + x.2) x.1).map _
        unfold closeOf
        rw [List.getElem?_drop, Nat.zero_add]
        split
        · simp; omega
        · rfl
theorem runeOf_len {l L : List UInt8} {n : Nat} (h : runeOf l 0 [] = some (L, n)) : 0 < n ∧ n ≤ l.length ∧ l[n - 1]? = some 39 ∧ ∀ t, runeOf (l.take n ++ t) 0 [] = some (L, n) := by
  cases l with
  | nil => rw [rune_none rfl] at h; cases h
  | cons c t0 =>
    by_cases hc : c = 39
    · rw [rune_mark (by rw [hc]; rfl)] at h; cases h
    · rw [rune_step rfl hc] at h
      rw [show (c :: t0).drop (0 + 1) = t0 from rfl] at h
      cases hd : docItem 39 c t0 with
      | none => rw [hd] at h; cases h
      | some x =>
        obtain ⟨X, j⟩ := x
        rw [hd] at h
        have h' : closeOf (c :: t0) (0 + j) X = some (L, n) := h
        unfold closeOf at h'
        split at h'
        · rename_i hx
          rw [Nat.zero_add] at h' hx
          cases h'
          obtain ⟨l1, l2, l3⟩ := docItem_len hd
          have hlt : j < (c :: t0).length := (List.getElem?_eq_some_iff.1 hx).1
          refine ⟨by omega, by omega, by simpa using hx, fun t' => ?_⟩
          obtain ⟨j', rfl⟩ : ∃ j', j = j' + 1 := ⟨j - 1, by omega⟩
          have hx' : t0[j']? = some 39 := by simpa using hx
          have hsp : (c :: t0).take (j' + 1 + 1) ++ t' = c :: (t0.take j' ++ (39 :: t')) := by
            obtain ⟨q1, q2⟩ := List.getElem?_eq_some_iff.1 hx'
            rw [List.take_succ_cons, List.take_succ_eq_append_getElem q1, q2]; simp
          rw [hsp, rune_step rfl hc, show (c :: (t0.take j' ++ (39 :: t'))).drop (0 + 1) = t0.take j' ++ (39 :: t') from rfl]
          have hp := docItem_pre hd (39 :: t')
          rw [show j' + 1 - 1 = j' from rfl] at hp
          rw [hp]
          show closeOf _ (0 + (j' + 1)) L = _
          unfold closeOf
          rw [Nat.zero_add, List.getElem?_cons_succ, List.getElem?_append_right (by rw [List.length_take]; omega), List.length_take, Nat.min_eq_left (by simp at hlt; omega), Nat.sub_self, if_pos (by rfl)]
        · cases h'
/-- a text in marks told from its place on -/
theorem readOf_rel (l : List UInt8) (k : Nat) : readOf l k = (readOf (l.drop k) 0).map fun x => (x.1, x.2.1, k + x.2.2) := by
  have h0 : (l.drop k)[0]? = l[k]? := by rw [List.getElem?_drop]; rfl
  unfold readOf
  rw [h0, List.drop_drop, Nat.zero_add]
  split
  · rw [rawOf_rel _ (k + 1), rawOf_rel _ 1]
    cases rawOf 0 [] (l.drop (k + 1)) with
    | none => rfl
    | some x => simp; omega
  · split
    · rw [strOf_rel, strOf_rel, List.drop_drop, List.length_drop, show l.length - k - 1 = l.length - (k + 1) by omega]
      cases strR (l.length - (k + 1)) (l.drop (k + 1)) with
      | none => rfl
      | some x => simp; omega
    · split
      · rw [runeOf_rel l (k + 1), runeOf_rel (l.drop k) 1, List.drop_drop]
        cases runeOf (l.drop (k + 1)) 0 [] with
        | none => rfl
        | some x => simp; omega
      · rfl
/-- a text in marks: its ends; it hangs on no byte behind it -/
theorem readOf_len {l L : List UInt8} {K n : Nat} (h : readOf l 0 = some (K, L, n)) : 2 ≤ n ∧ n ≤ l.length ∧ l[n - 1]? = l[0]? ∧ (K = 6 ↔ l[0]? = some 39) ∧ (∀ t, readOf (l.take n ++ t) 0 = some (K, L, n)) := by
  cases l with
  | nil => cases h
  | cons c t0 =>
    have hd : ∀ t', (c :: t')[0]? = some c := fun _ => rfl
    unfold readOf at h
    rw [hd, Nat.zero_add, show (c :: t0).drop 1 = t0 from rfl] at h
    split at h
    · rename_i hc
      have hc' : c = 96 := by simpa using hc
      rw [rawOf_rel] at h
      cases hr : rawOf 0 [] t0 with
      | none => rw [hr] at h; cases h
      | some x =>
        obtain ⟨X, j⟩ := x
        rw [hr] at h
        cases h
        obtain ⟨i1, i2, i3, i4⟩ := rawOf_len _ _ _ hr
        obtain ⟨j', rfl⟩ : ∃ j', j = j' + 1 := ⟨j - 1, by omega⟩
        refine ⟨by omega, by simp; omega, ?_, ?_, fun t' => ?_⟩
        · rw [hd, hc', show 1 + (j' + 1) - 1 = j' + 1 by omega, List.getElem?_cons_succ]; exact i3
        · rw [hd, hc']; simp
        · rw [show 1 + (j' + 1) = (j' + 1) + 1 by omega, List.take_succ_cons, List.cons_append]
          unfold readOf
          rw [hd, Nat.zero_add, if_pos hc, show (c :: (t0.take (j' + 1) ++ t')).drop 1 = t0.take (j' + 1) ++ t' from rfl, rawOf_rel, i4 t']
          simp; omega
    · rename_i hc96
      split at h
      · rename_i hc
        have hc' : c = 34 := by simpa using hc
        rw [strOf_rel, show (c :: t0).drop 1 = t0 from rfl] at h
        cases hr : strR ((c :: t0).length - 1) t0 with
        | none => rw [hr] at h; cases h
        | some x =>
          obtain ⟨X, j⟩ := x
          rw [hr] at h
          cases h
          obtain ⟨i1, i2, i3, i4, i5, i6⟩ := strR_len _ _ _ _ hr
          obtain ⟨j', rfl⟩ : ∃ j', j = j' + 1 := ⟨j - 1, by omega⟩
          refine ⟨by omega, by simp; omega, ?_, ?_, fun t' => ?_⟩
          · rw [hd, hc', show 1 + (j' + 1) - 1 = j' + 1 by omega, List.getElem?_cons_succ]; exact i3
          · rw [hd, hc']; simp
          · rw [show 1 + (j' + 1) = (j' + 1) + 1 by omega, List.take_succ_cons, List.cons_append]
            have h5 := i5 t' 0
            obtain ⟨_, _, _, q4, _⟩ := strR_len _ _ _ _ h5
            unfold readOf
            rw [hd, Nat.zero_add, if_neg hc96, if_pos hc, strOf_rel, show (c :: (t0.take (j' + 1) ++ t')).drop 1 = t0.take (j' + 1) ++ t' from rfl, q4 _ (by simp)]
            simp; omega
      · rename_i hc34
        split at h
        · rename_i hc
          have hc' : c = 39 := by simpa using hc
          rw [runeOf_rel, show (c :: t0).drop 1 = t0 from rfl] at h
          cases hr : runeOf t0 0 [] with
          | none => rw [hr] at h; cases h
          | some x =>
            obtain ⟨X, j⟩ := x
            rw [hr] at h
            cases h
            obtain ⟨i1, i2, i3, i4⟩ := runeOf_len hr
            obtain ⟨j', rfl⟩ : ∃ j', j = j' + 1 := ⟨j - 1, by omega⟩
            refine ⟨by omega, by simp; omega, ?_, ?_, fun t' => ?_⟩
            · rw [hd, hc', show 1 + (j' + 1) - 1 = j' + 1 by omega, List.getElem?_cons_succ]; exact i3
            · rw [hd, hc']; simp
            · rw [show 1 + (j' + 1) = (j' + 1) + 1 by omega, List.take_succ_cons, List.cons_append]
              unfold readOf
              rw [hd, Nat.zero_add, if_neg hc96, if_neg hc34, if_pos hc, runeOf_rel, show (c :: (t0.take (j' + 1) ++ t')).drop 1 = t0.take (j' + 1) ++ t' from rfl, i4 t']
              simp; omega
        · cases h
end Go.Proofs.Ytpbkdgbmnffooaa

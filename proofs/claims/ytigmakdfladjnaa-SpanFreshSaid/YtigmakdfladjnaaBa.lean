/-
  Layer 3: edits made less: they may stand, make the same text, and can't be made less again (plain lists).
-/
import Derived.Test.YtigmakdfladjnaaZ
namespace Go.Proofs.Ytigmakdfladjnaa

theorem stands_low' (n : Int) : ∀ (l : List Ed) (e e' : Int), e' ≤ e → stands n e l = true → stands n e' l = true
  | [], _, _, _, _ => rfl
  | x :: l, e, e', h, hs => by
    unfold stands at hs ⊢
    rw [Bool.and_eq_true, decide_eq_true_iff] at hs ⊢
    exact ⟨⟨by omega, hs.1.2⟩, hs.2⟩
theorem stands_drop (n : Int) (x : Ed) (l : List Ed) (e : Int) (h : stands n e (x :: l) = true) : stands n e l = true := by
  unfold stands at h
  rw [Bool.and_eq_true, decide_eq_true_iff] at h
  exact stands_low' n l x.hi e (by omega) h.2
theorem less_good (s : ByteArray) (x : Ed) (hg : Good s x) : x.lo ≤ (less s x).lo ∧ (less s x).lo ≤ (less s x).hi ∧ (less s x).hi ≤ x.hi ∧ (less s x).tx.size ≤ x.tx.size := by
  have hb := back_le s x hg
  refine ⟨by simp only [less]; omega, hb.1, by simp only [less]; omega, ?_⟩
  simp only [less]
  rw [ByteArray.size_extract]; omega
theorem stands_trims (s : ByteArray) : ∀ (es : List Ed) (e : Int), 0 ≤ e → stands s.size e es = true → stands s.size e (trims s es) = true
  | [], _, _, _ => rfl
  | x :: l, e, h0, h => by
    have h' := h
    unfold stands at h
    rw [Bool.and_eq_true, decide_eq_true_iff] at h
    have hg : Good s x := ⟨by omega, h.1.2.1, h.1.2.2⟩
    have hl := less_good s x hg
    have ih := stands_trims s l x.hi (by omega) h.2
    have e1 : trims s (x :: l) = if keeps (less s x) then less s x :: trims s l else trims s l := by
      unfold trims
      rw [List.map_cons, List.filter_cons]
    rw [e1]
    split
    · unfold stands
      rw [Bool.and_eq_true, decide_eq_true_iff]
      exact ⟨⟨by omega, hl.2.1, by omega⟩, stands_low' _ _ _ _ hl.2.2.1 ih⟩
    · exact stands_low' _ _ _ _ (by omega) ih
theorem puts_trims (s : ByteArray) : ∀ (es : List Ed), (∀ x ∈ es, Good s x) → puts (trims s es) ≤ puts es
  | [], _ => Nat.le_refl _
  | x :: l, h => by
    have ih := puts_trims s l (fun y hy => h y (List.mem_cons_of_mem _ hy))
    have hl := (less_good s x (h x (List.mem_cons_self ..))).2.2.2
    have e1 : trims s (x :: l) = if keeps (less s x) then less s x :: trims s l else trims s l := by
      unfold trims
      rw [List.map_cons, List.filter_cons]
    rw [e1]
    split
    · simp only [puts]; omega
    · simp only [puts]; omega

/-- the text from a later place on -/
theorem textOf_from (s : List UInt8) : ∀ (l : List Ed) (r r' : Nat), r ≤ r' → r' ≤ s.length → (∀ x, l[0]? = some x → r' ≤ x.lo.toNat) → textOf s r l = (s.drop r).take (r' - r) ++ textOf s r' l
  | [], r, r', h1, h2, _ => by
    simp only [textOf]
    have : s.drop r' = (s.drop r).drop (r' - r) := by rw [List.drop_drop]; congr 1; omega
    rw [this, List.take_append_drop]
  | x :: l, r, r', h1, h2, h3 => by
    have h4 := h3 x rfl
    simp only [textOf]
    have e : (s.drop r).take (x.lo.toNat - r) = (s.drop r).take (r' - r) ++ (s.drop r').take (x.lo.toNat - r') := by
      have : s.drop r' = (s.drop r).drop (r' - r) := by rw [List.drop_drop]; congr 1; omega
      rw [this, ← List.take_add]
      congr 1; omega
    rw [e]
    simp only [List.append_assoc]
theorem stands_first {n e : Int} {l : List Ed} (h : stands n e l = true) : ∀ x, l[0]? = some x → e ≤ x.lo := by
  intro x hx
  cases l with
  | nil => simp at hx
  | cons y l =>
    simp at hx; subst hx
    unfold stands at h
    rw [Bool.and_eq_true, decide_eq_true_iff] at h
    exact h.1.1
theorem ext_list (b : ByteArray) (i j : Nat) : (b.extract i j).data.toList = (b.data.toList.drop i).take (j - i) := extract_take b i j
/-- an edit made less makes the same text -/
theorem textOf_less (s : ByteArray) (x : Ed) (l : List Ed) (r : Nat) (hg : Good s x) (hr : (r : Int) ≤ x.lo) (hl : stands s.size x.hi l = true) :
    textOf s.data.toList r (less s x :: l) = textOf s.data.toList r (x :: l) := by
  have hb := back_le s x hg
  have hf := front_le s x hg
  have hft := front_same s x hg
  have hbk := back_text s x hg
  obtain ⟨g1, g2, g3⟩ := hg
  have hs : s.data.toList.length = s.size := rfl
  have ht : x.tx.data.toList.length = x.tx.size := rfl
  simp only [textOf, less]
  generalize front s x = K at hb hf hft ⊢
  generalize back s x = M at hb hbk ⊢
  have e1 : (x.lo + (K : Int)).toNat = x.lo.toNat + K := by omega
  have e2 : (x.hi - (M : Int)).toNat = x.hi.toNat - M := by omega
  rw [e1, e2, textOf_from s.data.toList l (x.hi.toNat - M) x.hi.toNat (by omega) (by omega) (fun y hy => by have := stands_first hl y hy; omega)]
  have a1 : (s.data.toList.drop r).take (x.lo.toNat + K - r) = (s.data.toList.drop r).take (x.lo.toNat - r) ++ x.tx.data.toList.take K := by
    rw [show x.lo.toNat + K - r = (x.lo.toNat - r) + K by omega, List.take_add, List.drop_drop, show r + (x.lo.toNat - r) = x.lo.toNat by omega]
    congr 1
    apply List.ext_getElem?
    intro i
    by_cases hi : i < K
    · rw [List.getElem?_take_of_lt hi, List.getElem?_take_of_lt hi, List.getElem?_drop, get_at s _ (by omega), get_at x.tx _ (by omega), hft i hi]
    · rw [List.getElem?_eq_none (by rw [List.length_take]; omega), List.getElem?_eq_none (by rw [List.length_take]; omega)]
  have a2 : (s.data.toList.drop (x.hi.toNat - M)).take (x.hi.toNat - (x.hi.toNat - M)) = x.tx.data.toList.drop (x.tx.size - M) := by
    have := congrArg (fun b : ByteArray => b.data.toList) hbk
    simp only [ext_list] at this
    rw [this, List.take_of_length_le (by rw [List.length_drop]; omega)]
  rw [a1, a2, ext_list]
  have a3 : x.tx.data.toList.take K ++ ((x.tx.data.toList.drop K).take (x.tx.size - M - K) ++ x.tx.data.toList.drop (x.tx.size - M)) = x.tx.data.toList := by
    have : x.tx.data.toList.drop (x.tx.size - M) = (x.tx.data.toList.drop K).drop (x.tx.size - M - K) := by rw [List.drop_drop]; congr 1; omega
    rw [this, List.take_append_drop, List.take_append_drop]
  rw [List.append_assoc, List.append_assoc, ← List.append_assoc ((x.tx.data.toList.drop K).take _), ← List.append_assoc (x.tx.data.toList.take K), a3, List.append_assoc]
theorem textOf_none (s : ByteArray) (x : Ed) (l : List Ed) (r : Nat) (hg : Good s x) (hr : (r : Int) ≤ x.lo) (hl : stands s.size x.hi l = true) (hk : keeps x = false) :
    textOf s.data.toList r (x :: l) = textOf s.data.toList r l := by
  obtain ⟨g1, g2, g3⟩ := hg
  have hs : s.data.toList.length = s.size := rfl
  unfold keeps at hk
  rw [Bool.or_eq_false_iff, decide_eq_false_iff_not, decide_eq_false_iff_not] at hk
  have h1 : x.lo = x.hi := by omega
  have h2 : x.tx.data.toList = [] := List.length_eq_zero_iff.1 (show x.tx.size = 0 by omega)
  have h3 := textOf_from s.data.toList l r x.hi.toNat (by omega) (by omega) (fun y hy => by have := stands_first hl y hy; omega)
  simp only [textOf]
  rw [h3, h2, h1, List.append_nil]
theorem textOf_trims (s : ByteArray) : ∀ (es : List Ed) (e : Int) (r : Nat), (r : Int) ≤ e → stands s.size e es = true → textOf s.data.toList r (trims s es) = textOf s.data.toList r es
  | [], _, _, _, _ => rfl
  | x :: l, e, r, hr, h => by
    have h' := h
    unfold stands at h
    rw [Bool.and_eq_true, decide_eq_true_iff] at h
    have hg : Good s x := ⟨by omega, h.1.2.1, h.1.2.2⟩
    have hl := less_good s x hg
    have ih := fun r hr => textOf_trims s l x.hi r hr h.2
    have hst := stands_trims s l x.hi (by omega) h.2
    have e1 : trims s (x :: l) = if keeps (less s x) then less s x :: trims s l else trims s l := by
      unfold trims
      rw [List.map_cons, List.filter_cons]
    have e2 : textOf s.data.toList r (x :: trims s l) = textOf s.data.toList r (x :: l) := by
      simp only [textOf]
      rw [ih x.hi.toNat (by omega)]
    rw [e1, ← e2, ← textOf_less s x (trims s l) r hg (by omega) hst]
    split
    · rfl
    · rename_i hk
      exact (textOf_none s (less s x) (trims s l) r ⟨by omega, hl.2.1, by omega⟩ (by omega) (stands_low' _ _ _ _ hl.2.2.1 hst) (by simpa using hk)).symm
/-- what is made less can't be made less again -/
theorem less_less (s : ByteArray) (x : Ed) (hg : Good s x) : less s (less s x) = less s x := by
  have hb := back_le s x hg
  have hf := front_le s x hg
  have hfm := front_max s x hg
  have hbm := back_max s x hg
  have hs : s.data.toList.length = s.size := rfl
  have hl := less_good s x hg
  have hg2 : Good s (less s x) := by have := hg; unfold Good at this; exact ⟨by omega, hl.2.1, by omega⟩
  have hts : (less s x).tx.size = x.tx.size - back s x - front s x := by simp only [less]; rw [ByteArray.size_extract]; omega
  obtain ⟨g1, g2, g3⟩ := hg
  have h1 : front s (less s x) = 0 := by
    have hm := cpl_is (l := (s.data.toList.drop (less s x).lo.toNat).take ((less s x).hi.toNat - (less s x).lo.toNat)) (m := (less s x).tx.data.toList) (k := 0) (fun i hi => by omega) ?_ (Nat.zero_le _) (Nat.zero_le _)
    · exact hm
    · intro q1 q2
      have q3 : (less s x).tx.data.toList.length = (less s x).tx.size := rfl
      rw [q3, hts] at q2
      rw [List.length_take, List.length_drop] at q1
      simp only [less] at q1
      have q4 := hfm (by omega) (by omega) (by omega)
      rw [List.getElem?_take_of_lt (by simp only [less]; omega), List.getElem?_drop]
      intro e
      apply q4
      simp only [less, Nat.add_zero] at e
      rw [show (x.lo + (front s x : Int)).toNat = x.lo.toNat + front s x by omega, get_at s _ (by omega), get_at (x.tx.extract _ _) 0 (by rw [ByteArray.size_extract]; omega)] at e
      have e2 := Option.some.inj e
      rw [ByteArray.getElem_extract] at e2
      exact e2
  have h2 : back s (less s x) = 0 := by
    have hm := cpl_is (l := (mid s (less s x)).reverse) (m := ((less s x).tx.data.toList.drop (front s (less s x))).reverse) (k := 0) (fun i hi => by omega) ?_ (Nat.zero_le _) (Nat.zero_le _)
    · exact hm
    · intro q1 q2
      have q3 : (less s x).tx.data.toList.length = (less s x).tx.size := rfl
      rw [List.length_reverse, List.length_drop, q3, hts, h1] at q2
      have q5 := mid_len s (less s x) hg2
      rw [List.length_reverse] at q1
      have hlo : (less s x).lo = x.lo + front s x := rfl
      have hhi : (less s x).hi = x.hi - back s x := rfl
      rw [h1, hlo, hhi] at q5
      have q4 := hbm (by omega) (by omega) (by omega) (by omega)
      rw [mid_at s (less s x) hg2 0 (by omega) (by omega), h1, tail_at (less s x) 0 0 (by rw [hts]; omega) (by rw [hts]; omega)]
      intro e
      apply q4
      have e2 := Option.some.inj e
      simp only [less] at e2
      rw [ByteArray.getElem_extract] at e2
      have e3 : (x.hi - (back s x : Int)).toNat - 1 - 0 = x.hi.toNat - 1 - back s x := by omega
      have e4 : front s x + ((x.tx.extract (front s x) (x.tx.size - back s x)).size - 1 - 0) = x.tx.size - 1 - back s x := by rw [ByteArray.size_extract]; omega
      simp only [e3, e4] at e2
      exact e2
  obtain ⟨y, hy⟩ : ∃ y, y = less s x := ⟨_, rfl⟩
  rw [← hy] at h1 h2 ⊢
  unfold less
  rw [h1, h2]
  obtain ⟨lo, hi, tx⟩ := y
  simp
theorem trims_trims (s : ByteArray) (es : List Ed) (h : ∀ x ∈ es, Good s x) : trims s (trims s es) = trims s es := by
  have h1 : (trims s es).map (less s) = trims s es := by
    conv => rhs; rw [← List.map_id (trims s es)]
    refine List.map_congr_left fun y hy => ?_
    unfold trims at hy
    obtain ⟨hy, _⟩ := List.mem_filter.1 hy
    obtain ⟨x, hx, rfl⟩ := List.mem_map.1 hy
    exact less_less s x (h x hx)
  have h2 : (trims s es).filter keeps = trims s es := by unfold trims; rw [List.filter_filter]; simp
  show ((trims s es).map (less s)).filter keeps = trims s es
  rw [h1, h2]
theorem same_self : ∀ l, same l l = true
  | [] => rfl
  | x :: l => by simp [same, alike_self, same_self l]
end Go.Proofs.Ytigmakdfladjnaa

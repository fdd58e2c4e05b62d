/-
  Layer 11, plain: what the document reads of digits, and of a part's head.
-/
import Derived.Test.YtoffjpgobhcipaaDoorHa
import Derived.Test.YtoffjpgobhcipaaDoorHb
namespace Go.Proofs.YtoffjpgobhcipaaDoor.Trm

/-- the digits that the document reads: three at most -/
def dig3 (s : List UInt8) : List UInt8 := (s.take 3).takeWhile isDig
theorem dig3_len (s : List UInt8) : (dig3 s).length ≤ 3 := by
  unfold dig3
  have h := (List.takeWhile_prefix isDig (l := s.take 3)).length_le
  simp at h
  omega
/-- a part's head, as the document reads it -/
noncomputable def headD (s : List UInt8) : Option (Pt × List UInt8) :=
  if dig3 s ≠ [] ∧ valD (dig3 s) ≤ 255 ∧ digs (valD (dig3 s)) = dig3 s then
    (if (s.drop (dig3 s).length)[0]? = some 32 ∧ (s.drop (dig3 s).length)[1]? = some 34 then
      (match readOf ((s.drop (dig3 s).length).drop 1) 0 with
      | some (_, L, n) => if L ≠ [] ∧ quoteOf L = ((s.drop (dig3 s).length).drop 1).take n then some (⟨valD (dig3 s), 0, ⟨L.toArray⟩⟩, (s.drop (dig3 s).length).drop (1 + n)) else none
      | none => none)
    else some (⟨valD (dig3 s), 0, ⟨#[]⟩⟩, s.drop (dig3 s).length))
  else none
theorem take_split {p : UInt8 → Bool} : ∀ (n : Nat) (s : List UInt8), (s.takeWhile p).length ≤ n → (s.take n).takeWhile p = s.takeWhile p
  | n, [], _ => by simp
  | 0, c :: t, h => by
    rw [List.takeWhile_cons] at h ⊢
    split
    · rename_i hc; rw [if_pos hc] at h; simp at h
    · simp
  | n + 1, c :: t, h => by
    rw [List.takeWhile_cons] at h ⊢
    rw [List.take_succ_cons, List.takeWhile_cons]
    split
    · rename_i hc
      rw [if_pos hc] at h
      rw [take_split n t (by simpa using h)]
    · rfl
theorem take_or {p : UInt8 → Bool} : ∀ (n : Nat) (s : List UInt8), (s.take n).takeWhile p = s.takeWhile p ∨ ∃ c, s[((s.take n).takeWhile p).length]? = some c ∧ p c = true
  | _, [] => by simp
  | 0, c :: t => by
    rw [List.takeWhile_cons]
    by_cases hc : p c = true
    · exact .inr ⟨c, by simp, hc⟩
    · rw [if_neg hc]; exact .inl (by simp)
  | n + 1, c :: t => by
    rw [List.take_succ_cons, List.takeWhile_cons, List.takeWhile_cons]
    by_cases hc : p c = true
    · rw [if_pos hc, if_pos hc]
      rcases take_or n t (p := p) with h | ⟨d, h1, h2⟩
      · exact .inl (by rw [h])
      · exact .inr ⟨d, by simpa using h1, h2⟩
    · rw [if_neg hc, if_neg hc]; exact .inl rfl
theorem drop_while (s : List UInt8) : s.dropWhile isDig = s.drop (s.takeWhile isDig).length := by
  have h := List.takeWhile_append_dropWhile (p := isDig) (l := s)
  generalize s.takeWhile isDig = d at h
  generalize s.dropWhile isDig = r at h
  subst h
  simp
/-- both read the same, or what stands behind is a digit -/
theorem head_doc (s : List UInt8) : headD s = headOf s ∨ (headOf s = none ∧ ∃ x c, headD s = some x ∧ x.2[0]? = some c ∧ isDig c = true) := by
  by_cases hT : s.takeWhile isDig ≠ [] ∧ valD (s.takeWhile isDig) ≤ 255 ∧ (s[0]? = some 48 → (s.takeWhile isDig).length = 1)
  · left
    have hall := all_take s
    have hz : (s.takeWhile isDig)[0]? = some 48 → (s.takeWhile isDig).length = 1 := by
      intro h
      apply hT.2.2
      have h2 := List.takeWhile_append_dropWhile (p := isDig) (l := s)
      rw [← h2, List.getElem?_append_left (by have := (List.getElem?_eq_some_iff.1 h).1; exact this)]
      exact h
    have hc := digs_canon hall hT.1 hT.2.1 hz
    have hl : (s.takeWhile isDig).length ≤ 3 := by
      rw [← hc]
      unfold digs
      split
      · simp
      · split <;> simp
    have hd : dig3 s = s.takeWhile isDig := take_split 3 s hl
    unfold headD headOf
    rw [hd, if_pos hT, if_pos ⟨hT.1, hT.2.1, hc⟩, ← drop_while]
    rfl
  · have hn : headOf s = none := by unfold headOf; rw [if_neg hT]
    rw [hn]
    by_cases hD : dig3 s ≠ [] ∧ valD (dig3 s) ≤ 255 ∧ digs (valD (dig3 s)) = dig3 s
    · rcases take_or 3 s (p := isDig) with h | ⟨c, h1, h2⟩
      · exfalso
        have hd : dig3 s = s.takeWhile isDig := h
        rw [hd] at hD
        refine hT ⟨hD.1, hD.2.1, fun h48 => ?_⟩
        have h2 := List.takeWhile_append_dropWhile (p := isDig) (l := s)
        have h3 : (digs (valD (s.takeWhile isDig)))[0]? = some 48 := by
          rw [hD.2.2]
          have hp := List.length_pos_iff.2 hD.1
          rw [← h2, List.getElem?_append_left hp] at h48
          exact h48
        rw [← hD.2.2]
        exact (digs_dig _ hD.2.1).2.2.2 h3
      · right
        have h1' : (s.drop (dig3 s).length)[0]? = some c := by rw [List.getElem?_drop]; exact h1
        refine ⟨rfl, (⟨valD (dig3 s), 0, ⟨#[]⟩⟩, s.drop (dig3 s).length), c, ?_, h1', h2⟩
        unfold headD
        rw [if_pos hD, if_neg]
        intro h
        rw [h1'] at h
        injection h.1 with h
        subst h
        revert h2; decide
    · left
      unfold headD
      rw [if_neg hD]
theorem tree_doc (s : List UInt8) : treeQ s = if s[0]? = some 40 then (headD (s.drop 1)).bind fun x => (kidsQ x.2).bind fun y => some ({ x.1 with kids := y.1 } :: y.2.1, y.2.2) else none := by
  unfold treeQ
  rcases head_doc (s.drop 1) with h | ⟨h1, x, c, h2, h3, h4⟩
  · rw [h]
  · rw [h1, h2]
    split
    · simp only [Option.bind_none, Option.bind_some]
      rw [kidsQ_none]
      · rfl
      · rw [h3]; intro h; injection h with h; subst h; revert h4; decide
      · rw [h3]; intro h; injection h with h; subst h; revert h4; decide
    · rfl
theorem headD_lt {s : List UInt8} {x : Pt × List UInt8} (h : headD s = some x) : x.2.length < s.length ∧ x.1.kids = 0 ∧ ∃ m, x.2 = s.drop m := by
  unfold headD at h
  split at h
  · rename_i hd
    have hp := List.length_pos_iff.2 hd.1
    have hq : (dig3 s).length ≤ s.length := by
      have h := (List.takeWhile_prefix isDig (l := s.take 3)).length_le
      unfold dig3
      simp at h ⊢
      omega
    split at h
    · split at h
      · split at h
        · injection h with h
          subst h
          exact ⟨by simp; omega, rfl, _, by simp only [List.drop_drop]; rfl⟩
        · cases h
      · cases h
    · injection h with h
      subst h
      exact ⟨by simp; omega, rfl, _, rfl⟩
  · cases h
theorem dig3_pre (l : List UInt8) : dig3 l = l.take (dig3 l).length := by
  have h1 : dig3 l <+: l := (List.takeWhile_prefix isDig).trans (List.take_prefix 3 l)
  exact List.prefix_iff_eq_take.1 h1
theorem while_stop {p : UInt8 → Bool} : ∀ (l : List UInt8) (c : UInt8), l[(l.takeWhile p).length]? = some c → p c = false
  | [], c, h => by simp at h
  | d :: t, c, h => by
    rw [List.takeWhile_cons] at h
    by_cases hd : p d = true
    · rw [if_pos hd] at h
      exact while_stop t c (by simpa using h)
    · rw [if_neg hd] at h
      simp at h
      subst h
      simpa using hd
theorem dig3_stop {l : List UInt8} {c : UInt8} (h : l[(dig3 l).length]? = some c) (h3 : (dig3 l).length < 3) : isDig c = false := by
  apply while_stop (l.take 3) c
  rw [List.getElem?_take, if_pos (by exact h3)]
  exact h
theorem while_all {p : UInt8 → Bool} : ∀ (l : List UInt8), ∀ c ∈ l.takeWhile p, p c = true
  | [], c, h => by simp at h
  | d :: t, c, h => by
    rw [List.takeWhile_cons] at h
    by_cases hd : p d = true
    · rw [if_pos hd] at h
      rcases List.mem_cons.1 h with rfl | h
      · exact hd
      · exact while_all t c h
    · rw [if_neg hd] at h
      simp at h
theorem dig3_all (l : List UInt8) : ∀ c ∈ dig3 l, isDig c = true := while_all _
theorem valD_snoc (d : List UInt8) (c : UInt8) : valD (d ++ [c]) = 10 * valD d + (c.toNat - 48) := by
  unfold valD
  rw [List.foldl_append]
  rfl
theorem dig3_at {l : List UInt8} {j : Nat} (h : j < (dig3 l).length) : ∃ c, l[j]? = some c ∧ isDig c = true ∧ j < 3 ∧ valD ((dig3 l).take (j + 1)) = 10 * valD ((dig3 l).take j) + (c.toNat - 48) := by
  obtain ⟨c, h1⟩ : ∃ c, (dig3 l)[j]? = some c := ⟨_, List.getElem?_eq_getElem h⟩
  refine ⟨c, ?_, dig3_all l _ (List.mem_of_getElem? h1), Nat.lt_of_lt_of_le h (dig3_len l), ?_⟩
  · rw [dig3_pre l, List.getElem?_take, if_pos h] at h1
    exact h1
  · rw [List.take_add_one, h1]
    exact valD_snoc _ _
theorem valD_fold : ∀ (d : List UInt8) (n : Nat), (∀ c ∈ d, isDig c = true) → d.foldl (fun n c => 10 * n + (c.toNat - 48)) n < (n + 1) * 10 ^ d.length
  | [], n, _ => by simp
  | c :: t, n, h => by
    rw [List.foldl_cons]
    have h1 := valD_fold t (10 * n + (c.toNat - 48)) (fun x hx => h x (by simp [hx]))
    have hc := h c (by simp)
    unfold isDig at hc
    simp only [Bool.and_eq_true, decide_eq_true_eq] at hc
    have h2 : (10 * n + (c.toNat - 48) + 1) * 10 ^ t.length ≤ (10 * (n + 1)) * 10 ^ t.length := Nat.mul_le_mul_right _ (by omega)
    have h3 : (n + 1) * 10 ^ (c :: t).length = (10 * (n + 1)) * 10 ^ t.length := by
      rw [List.length_cons, Nat.pow_succ, Nat.mul_comm (10 ^ t.length) 10, ← Nat.mul_assoc, Nat.mul_comm (n + 1) 10]
    omega
theorem dig3_val (l : List UInt8) (j : Nat) : valD ((dig3 l).take j) ≤ 999 := by
  have h1 := valD_fold ((dig3 l).take j) 0 (fun c hc => dig3_all l c (List.mem_of_mem_take hc))
  have h2 : ((dig3 l).take j).length ≤ 3 := Nat.le_trans (by rw [List.length_take]; omega) (dig3_len l)
  have h3 : 10 ^ ((dig3 l).take j).length ≤ 10 ^ 3 := Nat.pow_le_pow_right (by decide) h2
  unfold valD
  omega
theorem headD_at (l : List UInt8) (a : Nat) (D : List UInt8) (hD : D = dig3 (l.drop a)) (K q : Nat) (hK : K = valD D) (hq : q = a + D.length) :
    headD (l.drop a) = if D ≠ [] ∧ K ≤ 255 ∧ digs K = D then
      (if l[q]? = some 32 ∧ l[q + 1]? = some 34 then
        (match readOf (l.drop (q + 1)) 0 with
        | some (_, L, n) => if L ≠ [] ∧ quoteOf L = (l.drop (q + 1)).take n then some (⟨K, 0, ⟨L.toArray⟩⟩, l.drop (q + 1 + n)) else none
        | none => none)
      else some (⟨K, 0, ⟨#[]⟩⟩, l.drop q))
    else none := by
  subst hK hq
  unfold headD
  rw [← hD]
  simp only [List.drop_drop, List.getElem?_drop, Nat.add_zero, ← Nat.add_assoc]
theorem row_nodes {l : List Pt} {i n e : Nat} {s : List UInt8} (h : RowTx l i n s e) : e + 2 * n ≤ i + s.length := by
  induction h with
  | zero i => simp
  | succ hp h0 h1 h2 ih1 ih2 =>
    have hpl : ∀ p : Pt, 1 ≤ (partTx p).length := fun p => by unfold partTx; simp
    rename_i i n p s e s' e'
    have := hpl p
    simp only [List.length_cons, List.length_append]
    omega
theorem tree_nodes {s : List UInt8} {L : List Pt} {r : List UInt8} (h : treeQ s = some (L, r)) : L.length + r.length ≤ s.length ∧ L ≠ [] ∧ r = s.drop (s.length - r.length) := by
  obtain ⟨⟨T, h1, h2⟩, _⟩ := tree_text h
  have h3 := row_nodes h2
  rw [List.length_cons] at h3
  refine ⟨by rw [h1, List.length_append]; omega, fun e => ?_, ?_⟩
  · unfold treeQ at h
    split at h
    · obtain ⟨x, _, h⟩ := Option.bind_eq_some_iff.1 h
      obtain ⟨y, _, h⟩ := Option.bind_eq_some_iff.1 h
      injection h with h
      rw [Prod.mk.injEq] at h
      rw [e] at h
      cases h.1
    · cases h
  · rw [h1]; simp
end Go.Proofs.YtoffjpgobhcipaaDoor.Trm

/-
  Layer 11, plain: parts and their texts, there and back.
-/
import Derived.Test.YtoffjpgobhcipaaDoorHa
namespace Go.Proofs.YtoffjpgobhcipaaDoor

theorem digs_dig (n : Nat) (h : n ≤ 255) : (∀ c ∈ digs n, isDig c = true) ∧ digs n ≠ [] ∧ valD (digs n) = n ∧ ((digs n)[0]? = some 48 → (digs n).length = 1) := by
  have h1 : ∀ n : Fin 256, (∀ c ∈ digs n.1, isDig c = true) ∧ digs n.1 ≠ [] ∧ valD (digs n.1) = n.1 ∧ ((digs n.1)[0]? = some 48 → (digs n.1).length = 1) := by decide +kernel
  exact h1 ⟨n, by omega⟩
theorem take_digs {d X : List UInt8} (h : ∀ c ∈ d, isDig c = true) (hX : ∀ c, X[0]? = some c → isDig c = false) : (d ++ X).takeWhile isDig = d ∧ (d ++ X).dropWhile isDig = X := by
  rw [List.takeWhile_append_of_pos h, List.dropWhile_append_of_pos h]
  cases X with
  | nil => simp
  | cons c t =>
    have := hX c rfl
    rw [List.takeWhile_cons, List.dropWhile_cons, this]; simp
/-- what may stand behind a part's kind and word -/
def Ends (r : List UInt8) : Prop := r[0]? = some 41 ∨ (r[0]? = some 32 ∧ r[1]? = some 40)
theorem word_dig (w : ByteArray) {r : List UInt8} (hr : Ends r) : ∀ c, (wordTx w ++ r)[0]? = some c → isDig c = false := by
  intro c hc
  unfold wordTx at hc
  split at hc
  · rw [List.nil_append] at hc
    rcases hr with hr | ⟨hr, _⟩ <;> (rw [hr] at hc; injection hc with hc; subst hc; decide)
  · rw [List.cons_append] at hc
    injection hc with hc; subst hc; decide
theorem head_part (n : Nat) (hn : n ≤ 255) (w : ByteArray) {r : List UInt8} (hr : Ends r) : headOf (digs n ++ (wordTx w ++ r)) = some (⟨n, 0, w⟩, r) := by
  obtain ⟨h1, h2, h3, h4⟩ := digs_dig n hn
  obtain ⟨e1, e2⟩ := take_digs h1 (word_dig w hr)
  unfold headOf
  rw [e1, e2, h3]
  have hc0 : digs n ≠ [] ∧ n ≤ 255 ∧ ((digs n ++ (wordTx w ++ r))[0]? = some 48 → (digs n).length = 1) := by
    refine ⟨h2, hn, fun h => h4 ?_⟩
    rwa [List.getElem?_append_left (by exact List.length_pos_iff.2 h2)] at h
  rw [if_pos hc0]
  · unfold wordTx
    by_cases hw : w.size = 0
    · rw [if_pos hw, List.nil_append, if_neg ?_]
      · congr 2
        have : w.data.toList = [] := List.eq_nil_of_length_eq_zero (by simpa using hw)
        have h5 : w = ⟨#[]⟩ := by
          apply ByteArray.ext
          apply Array.ext'
          rw [this]
        rw [h5]
      · rintro ⟨a, b⟩
        rcases hr with hr | ⟨_, hr⟩
        · rw [hr] at a; cases a
        · rw [hr] at b; cases b
    · rw [if_neg hw]
      obtain ⟨t, ht⟩ := quote_head w.data.toList
      rw [if_pos ⟨rfl, by rw [ht]; rfl⟩]
      rw [show (32 :: quoteOf w.data.toList ++ r).drop 1 = quoteOf w.data.toList ++ r from rfl, quote_read]
      dsimp only
      have hc : w.data.toList ≠ [] ∧ quoteOf w.data.toList = (quoteOf w.data.toList ++ r).take (quoteOf w.data.toList).length := by
        refine ⟨fun e => hw ?_, List.take_left.symm⟩
        have := congrArg List.length e
        simpa using this
      rw [if_pos hc]
      · congr 2
        show List.drop _ _ = _
        rw [show (32 :: quoteOf w.data.toList ++ r).drop (1 + (quoteOf w.data.toList).length) = (quoteOf w.data.toList ++ r).drop (quoteOf w.data.toList).length by rw [Nat.add_comm]; rfl]
        exact List.drop_left
theorem row_ends {l : List Pt} {i n e : Nat} {s : List UInt8} (h : RowTx l i n s e) (t : List UInt8) : Ends (s ++ (41 :: t)) := by
  cases h with
  | zero => exact .inl rfl
  | succ => exact .inr ⟨rfl, rfl⟩
theorem slice_cons {l : List Pt} {i e e' : Nat} {p : Pt} (hp : l[i]? = some p) (h1 : i + 1 ≤ e) (h2 : e ≤ e') : (l.drop i).take (e' - i) = p :: ((l.drop (i + 1)).take (e - (i + 1)) ++ (l.drop e).take (e' - e)) := by
  have hi := (List.getElem?_eq_some_iff.1 hp)
  obtain ⟨hi, hp⟩ := hi
  rw [List.drop_eq_getElem_cons hi, show e' - i = (e' - (i + 1)) + 1 by omega, List.take_succ_cons, hp]
  congr 1
  rw [show e' - (i + 1) = (e - (i + 1)) + (e' - e) by omega, List.take_add, List.drop_drop, show i + 1 + (e - (i + 1)) = e by omega]
theorem kids_show {l : List Pt} (hk : ∀ p ∈ l, p.kind ≤ 255) {i n e : Nat} {s : List UInt8} (h : RowTx l i n s e) : ∀ t, kidsQ (s ++ (41 :: t)) = some (n, (l.drop i).take (e - i), t) := by
  induction h with
  | zero i =>
    intro t
    rw [kidsQ_eq, if_pos (show (([] : List UInt8) ++ 41 :: t)[0]? = some 41 from rfl)]; simp
  | succ hp h0 g1 g2 ih1 ih2 =>
    rename_i i n p s e s' e'
    intro t
    have hm : p ∈ l := List.mem_of_getElem? hp
    have hh := head_part p.kind (hk p hm) p.word (row_ends g1 (s' ++ (41 :: t)))
    rw [kidsQ_eq, if_neg (show ¬ (32 :: (partTx p ++ (s ++ 41 :: s')) ++ 41 :: t)[0]? = some 41 by rw [List.cons_append, List.getElem?_cons_zero]; decide), if_pos ⟨rfl, rfl⟩]
    have e1 : (32 :: (partTx p ++ (s ++ 41 :: s')) ++ 41 :: t).drop 2 = digs p.kind ++ (wordTx p.word ++ (s ++ (41 :: (s' ++ (41 :: t))))) := by
      unfold partTx; simp
    rw [e1, hh]
    simp only [Option.bind_some]
    rw [ih1]
    simp only [Option.bind_some]
    rw [ih2]
    simp only [Option.bind_some]
    have l1 := goes_le (row_goes g1)
    have l2 := goes_le (row_goes g2)
    rw [slice_cons hp (by omega) (show e ≤ e' by omega), show ((p.kids.toNat : Nat) : Int) = p.kids by omega]
theorem tree_show {l : List Pt} (hk : ∀ p ∈ l, p.kind ≤ 255) {T : List UInt8} (h : showT l T) (t : List UInt8) : treeQ (T ++ t) = some (l, t) := by
  have h1 := kids_show hk h t
  rw [kidsQ_tree _ rfl, show ((32 :: T ++ 41 :: t).drop 1) = T ++ 41 :: t from rfl] at h1
  unfold showT at h
  generalize hX : 32 :: T = X at h
  cases h with
  | succ hp h0 g1 g2 =>
    rename_i p sa ea sb
    have hz := row_goes g2
    cases g2
    injection hX with _ hT
    subst hT
    have hm : p ∈ l := List.mem_of_getElem? hp
    have hh := head_part p.kind (hk p hm) p.word (row_ends g1 t)
    unfold treeQ
    rw [if_pos (show (partTx p ++ (sa ++ [41]) ++ t)[0]? = some 40 from rfl)]
    have e1 : (partTx p ++ (sa ++ [41]) ++ t).drop 1 = digs p.kind ++ (wordTx p.word ++ (sa ++ (41 :: t))) := by
      unfold partTx; simp
    rw [e1, hh]
    simp only [Option.bind_some]
    rw [kids_show hk g1]
    simp only [Option.bind_some]
    have l1 := goes_le (row_goes g1)
    have := slice_cons (e := l.length) (e' := l.length) hp (by omega) (Nat.le_refl _)
    rw [show ((p.kids.toNat : Nat) : Int) = p.kids by omega]
    congr 2
    rw [List.drop_zero, Nat.sub_zero, List.take_length] at this
    rw [Nat.sub_self, List.take_zero, List.append_nil] at this
    exact this.symm
theorem foldl_ge : ∀ (d : List UInt8) (n : Nat), n * 10 ^ d.length ≤ d.foldl (fun n c => 10 * n + (c.toNat - 48)) n := by
  intro d
  induction d with
  | nil => intro n; simp
  | cons c t ih =>
    intro n
    rw [List.foldl_cons]
    refine Nat.le_trans ?_ (ih _)
    rw [List.length_cons, Nat.pow_succ, Nat.mul_comm (10 ^ t.length) 10, ← Nat.mul_assoc]
    exact Nat.mul_le_mul_right _ (by omega)
theorem val_long {c : UInt8} {t : List UInt8} (hc : isDig c = true) (h0 : c ≠ 48) (ht : 3 ≤ t.length) : 1000 ≤ valD (c :: t) := by
  unfold valD
  rw [List.foldl_cons]
  refine Nat.le_trans ?_ (foldl_ge t _)
  have h1 : 1 ≤ 10 * 0 + (c.toNat - 48) := by
    unfold isDig at hc
    simp only [Bool.and_eq_true, decide_eq_true_eq] at hc
    have : c.toNat ≠ 48 := fun e => h0 (UInt8.toNat_inj.1 e)
    omega
  have h2 : 10 ^ 3 ≤ 10 ^ t.length := Nat.pow_le_pow_right (by decide) ht
  calc 1000 = 1 * 10 ^ 3 := rfl
    _ ≤ _ := Nat.mul_le_mul h1 h2
theorem dig_of {c : UInt8} (h : isDig c = true) : ∃ k, k ≤ 9 ∧ c = UInt8.ofNat (48 + k) ∧ c.toNat - 48 = k := by
  unfold isDig at h
  simp only [Bool.and_eq_true, decide_eq_true_eq] at h
  refine ⟨c.toNat - 48, by omega, ?_, rfl⟩
  rw [show 48 + (c.toNat - 48) = c.toNat by omega]; simp
theorem digs_canon {d : List UInt8} (h1 : ∀ c ∈ d, isDig c = true) (h2 : d ≠ []) (h3 : valD d ≤ 255) (h4 : d[0]? = some 48 → d.length = 1) : digs (valD d) = d := by
  match d, h1, h2, h3, h4 with
  | [a], h1, _, h3, h4 =>
    obtain ⟨x, hx, rfl, ex⟩ := dig_of (h1 a (by simp))
    simp only [valD, List.foldl_cons, List.foldl_nil, ex] at h3 ⊢
    rw [show 10 * 0 + x = x by omega]
    unfold digs
    rw [if_pos (by omega)]
  | [a, b], h1, _, h3, h4 =>
    have ha : a ≠ 48 := fun e => by have := h4 (by rw [e]; rfl); simp at this
    obtain ⟨x, hx, rfl, ex⟩ := dig_of (h1 a (by simp))
    obtain ⟨y, hy, rfl, ey⟩ := dig_of (h1 b (by simp))
    have hx0 : x ≠ 0 := fun e => ha (by rw [e]; rfl)
    simp only [valD, List.foldl_cons, List.foldl_nil, ex, ey] at h3 ⊢
    rw [show 10 * (10 * 0 + x) + y = 10 * x + y by omega]
    unfold digs
    rw [if_neg (by omega), if_pos (by omega), show (10 * x + y) / 10 = x by omega, show (10 * x + y) % 10 = y by omega]
  | [a, b, c], h1, _, h3, h4 =>
    have ha : a ≠ 48 := fun e => by have := h4 (by rw [e]; rfl); simp at this
    obtain ⟨x, hx, rfl, ex⟩ := dig_of (h1 a (by simp))
    obtain ⟨y, hy, rfl, ey⟩ := dig_of (h1 b (by simp))
    obtain ⟨z, hz, rfl, ez⟩ := dig_of (h1 c (by simp))
    have hx0 : x ≠ 0 := fun e => ha (by rw [e]; rfl)
    simp only [valD, List.foldl_cons, List.foldl_nil, ex, ey, ez] at h3 ⊢
    rw [show 10 * (10 * (10 * 0 + x) + y) + z = 100 * x + 10 * y + z by omega]
    unfold digs
    rw [if_neg (by omega), if_neg (by omega), show (100 * x + 10 * y + z) / 100 = x by omega, show (100 * x + 10 * y + z) / 10 % 10 = y by omega, show (100 * x + 10 * y + z) % 10 = z by omega]
  | a :: b :: c :: e :: t, h1, _, h3, h4 =>
    exfalso
    have ha : a ≠ 48 := fun e => by have := h4 (by rw [e]; rfl); simp at this
    have := val_long (t := b :: c :: e :: t) (h1 a (by simp)) ha (by simp)
    omega
theorem all_take : ∀ (s : List UInt8), ∀ c ∈ s.takeWhile isDig, isDig c = true
  | [], c, hc => by cases hc
  | d :: t, c, hc => by
    rw [List.takeWhile_cons] at hc
    split at hc
    · rename_i hd
      rcases List.mem_cons.1 hc with rfl | hc
      · exact hd
      · exact all_take t c hc
    · cases hc
theorem head_text {s : List UInt8} {p : Pt} {r : List UInt8} (h : headOf s = some (p, r)) : s = digs p.kind ++ (wordTx p.word ++ r) ∧ p.kind ≤ 255 := by
  unfold headOf at h
  split at h
  · rename_i hd
    have hz : (s.takeWhile isDig)[0]? = s[0]? := by
      cases s with
      | nil => rfl
      | cons c t =>
        have := hd.1
        rw [List.takeWhile_cons] at this ⊢
        split
        · rfl
        · rename_i hc; rw [if_neg hc] at this; exact absurd rfl this
    have hc := digs_canon (all_take s) hd.1 hd.2.1 (fun e => hd.2.2 (by rw [← hz]; exact e))
    have hs := List.takeWhile_append_dropWhile (p := isDig) (l := s)
    split at h
    · rename_i hb
      split at h
      · rename_i K L n hr
        split at h
        · rename_i hL
          injection h with h
          injection h with h1 h2
          subst h1 h2
          refine ⟨?_, hd.2.1⟩
          have hw : wordTx ⟨L.toArray⟩ = 32 :: quoteOf L := by
            unfold wordTx
            rw [if_neg]
            intro e
            apply hL.1
            exact List.eq_nil_of_length_eq_zero (by simpa only [ByteArray.size, List.size_toArray] using e)
          show s = digs (valD _) ++ (wordTx ⟨L.toArray⟩ ++ _)
          rw [hc, hw, hL.2]
          conv => lhs; rw [← hs]
          congr 1
          rw [List.cons_append, ← List.drop_drop, List.take_append_drop]
          generalize s.dropWhile isDig = X at hb
          cases X with
          | nil => cases hb.1
          | cons c t =>
            have := hb.1
            injection this with this
            subst this; rfl
        · cases h
      · cases h
    · injection h with h
      injection h with h1 h2
      subst h1 h2
      refine ⟨?_, hd.2.1⟩
      show s = digs (valD _) ++ (wordTx ⟨#[]⟩ ++ _)
      rw [hc]
      exact hs.symm
  · cases h
theorem row_shift {l : List Pt} {i n e : Nat} {s : List UInt8} (h : RowTx l i n s e) : ∀ (pre post : List Pt), e ≤ l.length → RowTx (pre ++ (l ++ post)) (pre.length + i) n s (pre.length + e) := by
  induction h with
  | zero i => intro pre post _; exact .zero _
  | succ hp h0 g1 g2 ih1 ih2 =>
    intro pre post hle
    have l2 := goes_le (row_goes g2)
    refine .succ ?_ h0 (by have := ih1 pre post (by omega); rw [← Nat.add_assoc] at this; exact this) (ih2 pre post hle)
    have hi := (List.getElem?_eq_some_iff.1 hp).1
    rw [List.getElem?_append_right (by omega), show pre.length + _ - pre.length = _ from Nat.add_sub_cancel_left _ _, List.getElem?_append_left hi]
    exact hp
theorem kids_text : ∀ (f : Nat) (s : List UInt8) (y : Nat × List Pt × List UInt8), kidsF f s = some y → (∃ tx, s = tx ++ (41 :: y.2.2) ∧ RowTx y.2.1 0 y.1 tx y.2.1.length) ∧ ∀ p ∈ y.2.1, p.kind ≤ 255 := by
  intro f
  induction f with
  | zero => intro s y h; cases h
  | succ f ih =>
    intro s y h
    unfold kidsF at h
    split at h
    · rename_i h0
      injection h with h; subst h
      refine ⟨⟨[], ?_, .zero _⟩, fun p hp => by cases hp⟩
      cases s with
      | nil => cases h0
      | cons c t => injection h0 with h0; subst h0; rfl
    · split at h
      · rename_i h0
        obtain ⟨⟨p, r⟩, hx, h⟩ := Option.bind_eq_some_iff.1 h
        obtain ⟨a, ha, h⟩ := Option.bind_eq_some_iff.1 h
        obtain ⟨b, hb, h⟩ := Option.bind_eq_some_iff.1 h
        injection h with h; subst h
        obtain ⟨hs, hk⟩ := head_text hx
        obtain ⟨⟨t1, e1, g1⟩, k1⟩ := ih _ _ ha
        obtain ⟨⟨t2, e2, g2⟩, k2⟩ := ih _ _ hb
        dsimp only at e1 e2 g1 g2 k1 k2 ⊢
        refine ⟨⟨32 :: (partTx p ++ (t1 ++ (41 :: t2))), ?_, ?_⟩, ?_⟩
        · have h3 : s = 32 :: 40 :: s.drop 2 := by
            match s, h0 with
            | c :: d :: t, h0 =>
              obtain ⟨ha, hb⟩ := h0
              injection ha with ha; injection hb with hb
              subst ha hb; rfl
            | [c], h0 => cases h0.2
          rw [h3, hs, e1, e2]
          unfold partTx; simp
        · have hl : ({ p with kids := (a.1 : Int) } :: (a.2.1 ++ b.2.1)).length = 1 + a.2.1.length + b.2.1.length := by simp; omega
          rw [hl]
          have G1 := row_shift g1 [{ p with kids := (a.1 : Int) }] b.2.1 (Nat.le_refl _)
          have G2 := row_shift g2 ({ p with kids := (a.1 : Int) } :: a.2.1) [] (Nat.le_refl _)
          rw [List.append_nil, List.length_cons] at G2
          refine RowTx.succ (p := { p with kids := (a.1 : Int) }) rfl (Int.natCast_nonneg _) G1 ?_
          rw [show ([{ p with kids := (a.1 : Int) }] : List Pt).length + a.2.1.length = a.2.1.length + 1 + 0 by simp; omega, show 1 + a.2.1.length + b.2.1.length = a.2.1.length + 1 + b.2.1.length by omega]
          exact G2
        · intro q hq
          rcases List.mem_cons.1 hq with rfl | hq
          · exact hk
          · rcases List.mem_append.1 hq with hq | hq
            · exact k1 q hq
            · exact k2 q hq
      · cases h
theorem tree_text {s : List UInt8} {l : List Pt} {t : List UInt8} (h : treeQ s = some (l, t)) : (∃ T, s = T ++ t ∧ showT l T) ∧ ∀ p ∈ l, p.kind ≤ 255 := by
  have h1 : kidsQ (32 :: (s ++ [41])) = kidsQ (32 :: (s ++ [41])) := rfl
  unfold treeQ at h
  split at h
  · rename_i h0
    obtain ⟨⟨p, r⟩, hx, h⟩ := Option.bind_eq_some_iff.1 h
    obtain ⟨a, ha, h⟩ := Option.bind_eq_some_iff.1 h
    injection h with h
    injection h with e1 e2
    subst e1 e2
    obtain ⟨hs, hk⟩ := head_text hx
    obtain ⟨⟨t1, e1, g1⟩, k1⟩ := kids_text _ _ _ ha
    dsimp only at e1 g1 k1 ⊢
    refine ⟨⟨partTx p ++ (t1 ++ [41]), ?_, ?_⟩, ?_⟩
    · have h3 : s = 40 :: s.drop 1 := by
        cases s with
        | nil => cases h0
        | cons c t => injection h0 with h0; subst h0; rfl
      rw [h3, hs, e1]
      unfold partTx; simp
    · unfold showT
      have G1 := row_shift g1 [{ p with kids := (a.1 : Int) }] [] (Nat.le_refl _)
      rw [List.append_nil] at G1
      rw [show ({ p with kids := (a.1 : Int) } :: a.2.1 : List Pt).length = 1 + a.2.1.length by simp; omega]
      exact RowTx.succ (p := { p with kids := (a.1 : Int) }) rfl (Int.natCast_nonneg _) G1 (.zero _)
    · intro q hq
      rcases List.mem_cons.1 hq with rfl | hq
      · exact hk
      · exact k1 q hq
  · cases h
end Go.Proofs.YtoffjpgobhcipaaDoor

/-
  Layer 11, plain: parts, their texts, and texts read as parts.
-/
import Derived.Test.YtoffjpgobhcipaaDoorPz
import Derived.Test.YtoffjpgobhcipaaDoorQh
namespace Go.Proofs.YtoffjpgobhcipaaDoor

theorem quote_head (l : List UInt8) : ∃ t, quoteOf l = 34 :: t := ⟨_, rfl⟩
theorem quoteOf_len (l : List UInt8) : (quoteOf l).length ≤ 4 * l.length + 2 := by
  have := qbs_len l
  unfold quoteOf
  simp; omega
theorem qbs_ge : ∀ l : List UInt8, l.length ≤ (qbs l).length
  | [] => by simp [qbs]
  | c :: t => by
    have h1 : 1 ≤ (qb c).length := by unfold qb; split; simp; split; simp; split <;> simp
    have h2 := qbs_ge t
    unfold qbs at h2 ⊢
    rw [List.flatMap_cons, List.length_append, List.length_cons]; omega
theorem quoteOf_ge (l : List UInt8) : l.length ≤ (quoteOf l).length := by
  have := qbs_ge l
  unfold quoteOf
  simp; omega
/-- the digits of a kind -/
def digs (n : Nat) : List UInt8 :=
  if n < 10 then [UInt8.ofNat (48 + n)] else if n < 100 then [UInt8.ofNat (48 + n / 10), UInt8.ofNat (48 + n % 10)] else [UInt8.ofNat (48 + n / 100), UInt8.ofNat (48 + n / 10 % 10), UInt8.ofNat (48 + n % 10)]
noncomputable def wordTx (s : ByteArray) : List UInt8 := if s.size = 0 then [] else 32 :: quoteOf s.data.toList
noncomputable def partTx (p : Pt) : List UInt8 := 40 :: (digs p.kind ++ wordTx p.word)
/-- n trees from i on to e, each with a blank ahead -/
inductive RowTx (l : List Pt) : Nat → Nat → List UInt8 → Nat → Prop
  | zero (i : Nat) : RowTx l i 0 [] i
  | succ {i n : Nat} {p : Pt} {s : List UInt8} {e : Nat} {s' : List UInt8} {e' : Nat} : l[i]? = some p → 0 ≤ p.kids → RowTx l (i + 1) p.kids.toNat s e → RowTx l e n s' e' → RowTx l i (n + 1) (32 :: (partTx p ++ (s ++ (41 :: s')))) e'
theorem row_goes {l : List Pt} {i n e : Nat} {s : List UInt8} (h : RowTx l i n s e) : Goes (kidsP l) i n e := by
  induction h with
  | zero i => exact goes_zero _ _
  | succ hp h0 _ _ ih1 ih2 =>
    rename_i n _ _ _ _ _ _ _
    exact goes_succ.2 ⟨_, kidsP_at hp, h0, by rw [Nat.add_comm n]; exact goes_add.2 ⟨_, ih1, ih2⟩⟩
theorem row_ex {l : List Pt} : ∀ (f i n e : Nat), e ≤ i + f → Goes (kidsP l) i n e → ∃ s, RowTx l i n s e := by
  intro f
  induction f with
  | zero =>
    intro i n e hf h
    have := goes_le h
    obtain rfl : n = 0 := by omega
    obtain rfl := goes_fun h (goes_zero _ _)
    exact ⟨[], .zero _⟩
  | succ f ih =>
    intro i n e hf h
    cases n with
    | zero => obtain rfl := goes_fun h (goes_zero _ _); exact ⟨[], .zero _⟩
    | succ n =>
      obtain ⟨k, hk, h0, g⟩ := goes_succ.1 h
      obtain ⟨p, hp, rfl⟩ := kidsP_of hk
      rw [show n + p.kids.toNat = p.kids.toNat + n from Nat.add_comm _ _] at g
      obtain ⟨m, g1, g2⟩ := goes_add.1 g
      have l1 := goes_le g1
      have l2 := goes_le g2
      obtain ⟨s, hs⟩ := ih _ _ _ (by omega) g1
      obtain ⟨s', hs'⟩ := ih _ _ _ (by omega) g2
      exact ⟨_, .succ hp h0 hs hs'⟩
theorem row_fun {l : List Pt} {i n e : Nat} {s : List UInt8} (h : RowTx l i n s e) : ∀ {s' e'}, RowTx l i n s' e' → s = s' ∧ e = e' := by
  induction h with
  | zero i => intro s' e' g; cases g; exact ⟨rfl, rfl⟩
  | succ hp h0 _ _ ih1 ih2 =>
    intro s' e' g
    cases g with
    | succ hp' h0' g1 g2 =>
      rw [hp] at hp'; injection hp' with hp'; subst hp'
      obtain ⟨rfl, rfl⟩ := ih1 g1
      obtain ⟨rfl, rfl⟩ := ih2 g2
      exact ⟨rfl, rfl⟩
theorem row_len {l : List Pt} {i n e : Nat} {s : List UInt8} (h : RowTx l i n s e) : n ≤ s.length := by
  induction h with
  | zero i => exact Nat.le_refl _
  | succ hp h0 _ _ ih1 ih2 => simp; omega
/-- what the text of parts is, whose stack of kids to come is open -/
def StTx (l : List Pt) : Nat → List Nat → List UInt8 → Prop
  | k, [], s => k = l.length ∧ s = []
  | k, c :: st, s => ∃ s1 e s2, RowTx l k c s1 e ∧ StTx l e st s2 ∧ s = s1 ++ (41 :: s2)
theorem st_pop {l : List Pt} {k : Nat} {st : List Nat} {s : List UInt8} (h : StTx l k (0 :: st) s) : ∃ s2, s = 41 :: s2 ∧ StTx l k st s2 := by
  obtain ⟨s1, e, s2, h1, h2, rfl⟩ := h
  cases h1
  exact ⟨s2, rfl, h2⟩
theorem st_push {l : List Pt} {k c : Nat} {st : List Nat} {s : List UInt8} (h : StTx l k ((c + 1) :: st) s) :
    ∃ p s', l[k]? = some p ∧ 0 ≤ p.kids ∧ s = 32 :: (partTx p ++ s') ∧ StTx l (k + 1) (p.kids.toNat :: c :: st) s' := by
  obtain ⟨s1, e, s2, h1, h2, rfl⟩ := h
  cases h1 with
  | succ hp h0 g1 g2 =>
    rename_i p sa ea sb
    exact ⟨p, sa ++ (41 :: (sb ++ (41 :: s2))), hp, h0, by simp, sa, ea, _, g1, ⟨sb, e, s2, g2, h2, rfl⟩, rfl⟩
/-- the text of a tree -/
def showT (l : List Pt) (T : List UInt8) : Prop := RowTx l 0 1 (32 :: T) l.length
theorem show_first {l : List Pt} {T : List UInt8} (h : showT l T) : ∃ p s', l[0]? = some p ∧ 0 ≤ p.kids ∧ T = partTx p ++ s' ∧ StTx l 1 [p.kids.toNat] s' := by
  unfold showT at h
  generalize hT : 32 :: T = X at h
  cases h with
  | succ hp h0 g1 g2 =>
    rename_i p sa ea sb
    have := row_goes g2
    cases g2
    injection hT with _ hT
    exact ⟨p, _, hp, h0, hT, sa, _, [], g1, ⟨rfl, rfl⟩, rfl⟩
theorem show_ex {l : List Pt} (h : wellB (kidsP l) = true) : ∃ T, showT l T := by
  have g := well_goes.1 h
  rw [kidsP_len] at g
  obtain ⟨s, hs⟩ := row_ex l.length 0 1 l.length (by omega) g
  cases hs with
  | succ hp h0 g1 g2 => exact ⟨_, .succ hp h0 g1 g2⟩
theorem show_well {l : List Pt} {T : List UInt8} (h : showT l T) : wellB (kidsP l) = true := by
  rw [well_goes, kidsP_len]; exact row_goes h
theorem show_fun {l : List Pt} {T T' : List UInt8} (h : showT l T) (h' : showT l T') : T = T' := by
  have := (row_fun h h').1
  injection this

/-- a digit -/
def isDig (c : UInt8) : Bool := decide (48 ≤ c.toNat) && decide (c.toNat ≤ 57)
/-- what digits say -/
def valD (d : List UInt8) : Nat := d.foldl (fun n c => 10 * n + (c.toNat - 48)) 0
/-- a part's kind and word, told at a text's beginning; what stands behind -/
noncomputable def headOf (s : List UInt8) : Option (Pt × List UInt8) :=
  if s.takeWhile isDig ≠ [] ∧ valD (s.takeWhile isDig) ≤ 255 ∧ (s[0]? = some 48 → (s.takeWhile isDig).length = 1) then
    (if (s.dropWhile isDig)[0]? = some 32 ∧ (s.dropWhile isDig)[1]? = some 34 then
      (match readOf ((s.dropWhile isDig).drop 1) 0 with
      | some (_, L, n) => if L ≠ [] ∧ quoteOf L = ((s.dropWhile isDig).drop 1).take n then some (⟨valD (s.takeWhile isDig), 0, ⟨L.toArray⟩⟩, (s.dropWhile isDig).drop (1 + n)) else none
      | none => none)
    else some (⟨valD (s.takeWhile isDig), 0, ⟨#[]⟩⟩, s.dropWhile isDig))
  else none
theorem drop_lt {s : List UInt8} (h : s.takeWhile isDig ≠ []) : (s.dropWhile isDig).length < s.length := by
  have h1 := congrArg List.length (List.takeWhile_append_dropWhile (p := isDig) (l := s))
  rw [List.length_append] at h1
  have := List.length_pos_iff.2 h
  omega
theorem head_lt {s : List UInt8} {x : Pt × List UInt8} (h : headOf s = some x) : x.2.length < s.length := by
  unfold headOf at h
  split at h
  · rename_i hd
    have := drop_lt hd.1
    split at h
    · split at h
      · split at h
        · injection h with h; subst h; simp; omega
        · cases h
      · cases h
    · injection h with h; subst h; exact this
  · cases h
theorem head_kids {s : List UInt8} {x : Pt × List UInt8} (h : headOf s = some x) : x.1.kids = 0 := by
  unfold headOf at h
  split at h
  · split at h
    · split at h
      · split at h
        · injection h with h; subst h; rfl
        · cases h
      · cases h
    · injection h with h; subst h; rfl
  · cases h
/-- kids, each with a blank ahead, and the mark that ends them -/
noncomputable def kidsF : Nat → List UInt8 → Option (Nat × List Pt × List UInt8)
  | 0, _ => none
  | f + 1, s =>
    if s[0]? = some 41 then some (0, [], s.drop 1)
    else if s[0]? = some 32 ∧ s[1]? = some 40 then
      (headOf (s.drop 2)).bind fun x => (kidsF f x.2).bind fun y => (kidsF f y.2.2).bind fun z => some (z.1 + 1, { x.1 with kids := y.1 } :: (y.2.1 ++ z.2.1), z.2.2)
    else none
theorem kidsF_lt : ∀ (f : Nat) (s : List UInt8) (y : Nat × List Pt × List UInt8), kidsF f s = some y → y.2.2.length < s.length := by
  intro f
  induction f with
  | zero => intro s y h; cases h
  | succ f ih =>
    intro s y h
    unfold kidsF at h
    split at h
    · rename_i h0
      injection h with h; subst h
      have := (List.getElem?_eq_some_iff.1 h0).1
      simp; omega
    · split at h
      · rename_i h0
        obtain ⟨x, hx, h⟩ := Option.bind_eq_some_iff.1 h
        obtain ⟨a, ha, h⟩ := Option.bind_eq_some_iff.1 h
        obtain ⟨b, hb, h⟩ := Option.bind_eq_some_iff.1 h
        injection h with h; subst h
        have h1 := head_lt hx
        have h2 := ih _ _ ha
        have h3 := ih _ _ hb
        simp at h1 ⊢; omega
      · cases h
theorem kidsF_mono : ∀ (f : Nat) (s : List UInt8) (y : Nat × List Pt × List UInt8), kidsF f s = some y → ∀ g, s.length ≤ g → kidsF g s = some y := by
  intro f
  induction f with
  | zero => intro s y h; cases h
  | succ f ih =>
    intro s y h g hg
    have hlt := kidsF_lt _ _ _ h
    obtain ⟨g, rfl⟩ : ∃ g', g = g' + 1 := ⟨g - 1, by omega⟩
    unfold kidsF at h ⊢
    split at h
    · rename_i h0
      rw [if_pos h0]; exact h
    · rename_i hn
      rw [if_neg hn]
      split at h
      · rename_i h0
        rw [if_pos h0]
        obtain ⟨x, hx, h⟩ := Option.bind_eq_some_iff.1 h
        obtain ⟨a, ha, h⟩ := Option.bind_eq_some_iff.1 h
        obtain ⟨b, hb, h⟩ := Option.bind_eq_some_iff.1 h
        have h1 := head_lt hx
        have h2 := kidsF_lt _ _ _ ha
        simp at h1
        rw [hx]
        simp only [Option.bind_some]
        rw [ih _ _ ha g (by omega)]
        simp only [Option.bind_some]
        rw [ih _ _ hb g (by omega)]
        exact h
      · cases h
/-- as many rounds as there are bytes will do -/
noncomputable def kidsQ (s : List UInt8) : Option (Nat × List Pt × List UInt8) := kidsF s.length s
theorem kidsF_more (s : List UInt8) (g : Nat) (hg : s.length ≤ g) : kidsF g s = kidsQ s := by
  cases h : kidsQ s with
  | some y => exact kidsF_mono _ _ _ h g hg
  | none =>
    cases h2 : kidsF g s with
    | none => rfl
    | some y => have := kidsF_mono _ _ _ h2 s.length (Nat.le_refl _); unfold kidsQ at h; rw [h] at this; cases this
theorem kidsQ_eq (s : List UInt8) : kidsQ s = if s[0]? = some 41 then some (0, [], s.drop 1)
    else if s[0]? = some 32 ∧ s[1]? = some 40 then
      (headOf (s.drop 2)).bind fun x => (kidsQ x.2).bind fun y => (kidsQ y.2.2).bind fun z => some (z.1 + 1, { x.1 with kids := y.1 } :: (y.2.1 ++ z.2.1), z.2.2)
    else none := by
  rw [← kidsF_more s (s.length + 1) (by omega)]
  show (if s[0]? = some 41 then _ else _) = _
  by_cases h41 : s[0]? = some 41
  · rw [if_pos h41, if_pos h41]
  · rw [if_neg h41, if_neg h41]
    by_cases h32 : s[0]? = some 32 ∧ s[1]? = some 40
    · rw [if_pos h32, if_pos h32]
      cases hx : headOf (s.drop 2) with
      | none => rfl
      | some x =>
        have h1 := head_lt hx
        simp at h1
        simp only [Option.bind_some]
        rw [kidsF_more x.2 _ (by omega)]
        cases ha : kidsQ x.2 with
        | none => rfl
        | some y =>
          have h2 := kidsF_lt _ _ _ ha
          simp only [Option.bind_some]
          rw [kidsF_more y.2.2 _ (by omega)]
    · rw [if_neg h32, if_neg h32]
theorem kidsQ_lt {s : List UInt8} {y : Nat × List Pt × List UInt8} (h : kidsQ s = some y) : y.2.2.length < s.length := kidsF_lt _ _ _ h
/-- a tree that is told at a text's beginning -/
noncomputable def treeQ (s : List UInt8) : Option (List Pt × List UInt8) :=
  if s[0]? = some 40 then (headOf (s.drop 1)).bind fun x => (kidsQ x.2).bind fun y => some ({ x.1 with kids := y.1 } :: y.2.1, y.2.2) else none
theorem kidsQ_tree (s : List UInt8) (h : s[0]? = some 32) : kidsQ s = (treeQ (s.drop 1)).bind fun y => (kidsQ y.2).bind fun z => some (z.1 + 1, y.1 ++ z.2.1, z.2.2) := by
  rw [kidsQ_eq, if_neg (by rw [h]; decide)]
  unfold treeQ
  have h1 : (s.drop 1)[0]? = s[1]? := by rw [List.getElem?_drop]
  rw [h1]
  by_cases h40 : s[1]? = some 40
  · rw [if_pos ⟨h, h40⟩, if_pos h40, List.drop_drop]
    cases headOf (s.drop (1 + 1)) with
    | none => rfl
    | some x =>
      simp only [Option.bind_some]
      cases kidsQ x.2 with
      | none => rfl
      | some y => simp only [Option.bind_some]; rfl
  · rw [if_neg (fun e => h40 e.2), if_neg h40]; rfl
theorem kidsQ_none {s : List UInt8} (h : s[0]? ≠ some 41) (g : s[0]? ≠ some 32) : kidsQ s = none := by
  rw [kidsQ_eq, if_neg h, if_neg (fun e => g e.1)]
theorem treeQ_lt {s : List UInt8} {y : List Pt × List UInt8} (h : treeQ s = some y) : y.2.length < s.length := by
  unfold treeQ at h
  split at h
  · obtain ⟨x, hx, h⟩ := Option.bind_eq_some_iff.1 h
    obtain ⟨a, ha, h⟩ := Option.bind_eq_some_iff.1 h
    injection h with h; subst h
    have := head_lt hx
    have := kidsQ_lt ha
    simp at *; omega
  · cases h
/-- what comes of parts that are open, the last one first -/
noncomputable def finQ : List Pt → List Nat → List UInt8 → Option (List Pt × List UInt8)
  | l, [], s => some (l, s)
  | l, i :: st, s => (kidsQ s).bind fun y => finQ ((l.modify i fun p => { p with kids := p.kids + (y.1 : Int) }) ++ y.2.1) st y.2.2
theorem mod_at (l : List Pt) (i j : Nat) (f : Pt → Pt) : (l.modify i f)[j]? = if i = j then l[j]?.map f else l[j]? := by
  rw [List.getElem?_modify]
  by_cases h : i = j
  · simp [h]
  · simp [h]
theorem modify_id (l : List Pt) (i : Nat) : (l.modify i fun p => { p with kids := p.kids + ((0 : Nat) : Int) }) = l := by
  rw [show (fun p : Pt => { p with kids := p.kids + ((0 : Nat) : Int) }) = id from by funext p; simp]
  exact List.modify_id _ _
theorem fin_pop (l : List Pt) (i : Nat) (st : List Nat) (s : List UInt8) (h : s[0]? = some 41) : finQ l (i :: st) s = finQ l st (s.drop 1) := by
  show (kidsQ s).bind _ = _
  rw [kidsQ_eq, if_pos h]
  simp only [Option.bind_some, modify_id, List.append_nil]
theorem fin_push (l : List Pt) (i : Nat) (st : List Nat) (s : List UInt8) (p : Pt) (r : List UInt8) (hi : i < l.length) (h0 : s[0]? = some 32) (h1 : s[1]? = some 40) (hp : headOf (s.drop 2) = some (p, r)) :
    finQ l (i :: st) s = finQ ((l.modify i fun p => { p with kids := p.kids + 1 }) ++ [p]) (l.length :: i :: st) r := by
  have hk := head_kids hp
  simp only at hk
  show (kidsQ s).bind _ = (kidsQ r).bind fun y => (kidsQ y.2.2).bind _
  rw [kidsQ_eq, if_neg (by rw [h0]; decide), if_pos ⟨h0, h1⟩, hp]
  simp only [Option.bind_some, Option.bind_assoc]
  cases kidsQ r with
  | none => rfl
  | some y =>
    simp only [Option.bind_some]
    cases kidsQ y.2.2 with
    | none => rfl
    | some z =>
      simp only [Option.bind_some]
      congr 1
      have e1 : ((l.modify i fun p => { p with kids := p.kids + 1 }) ++ [p]).modify l.length (fun p => { p with kids := p.kids + (y.1 : Int) }) = (l.modify i fun p => { p with kids := p.kids + 1 }) ++ [{ p with kids := (y.1 : Int) }] := by
        apply List.ext_getElem?
        intro j
        rw [mod_at, List.getElem?_append, List.getElem?_append, List.length_modify]
        by_cases hj : j < l.length
        · rw [if_pos hj, if_pos hj, if_neg (by omega)]
        · rw [if_neg hj, if_neg hj]
          by_cases hj2 : l.length = j
          · subst hj2; simp [hk]
          · rw [if_neg hj2, List.getElem?_eq_none (by simp; omega), List.getElem?_eq_none (by simp; omega)]
      rw [e1]
      have e2 : ∀ (X : List Pt), ((l.modify i fun p => { p with kids := p.kids + 1 }) ++ X).modify i (fun p => { p with kids := p.kids + (z.1 : Int) }) = (l.modify i fun p => { p with kids := p.kids + ((z.1 + 1 : Nat) : Int) }) ++ X := by
        intro X
        apply List.ext_getElem?
        intro j
        rw [mod_at, List.getElem?_append, List.getElem?_append, List.length_modify, List.length_modify]
        by_cases hj : j < l.length
        · rw [if_pos hj, if_pos hj, mod_at, mod_at]
          by_cases hij : i = j
          · subst hij
            rw [if_pos rfl, if_pos rfl, if_pos rfl, List.getElem?_eq_getElem hj]
            simp; omega
          · rw [if_neg hij, if_neg hij, if_neg hij]
        · rw [if_neg hj, if_neg hj, if_neg (by omega)]
      rw [List.append_assoc, e2]
      simp
theorem fin_none (l : List Pt) (i : Nat) (st : List Nat) (s : List UInt8) (h : s[0]? ≠ some 41) (g : ¬ (s[0]? = some 32 ∧ s[1]? = some 40 ∧ ∃ x, headOf (s.drop 2) = some x)) : finQ l (i :: st) s = none := by
  show (kidsQ s).bind _ = _
  rw [kidsQ_eq, if_neg h]
  by_cases h3 : s[0]? = some 32 ∧ s[1]? = some 40
  · rw [if_pos h3]
    cases hx : headOf (s.drop 2) with
    | none => rfl
    | some x => exact absurd ⟨h3.1, h3.2, x, hx⟩ g
  · rw [if_neg h3]; rfl
theorem tree_fin (s : List UInt8) (p : Pt) (r : List UInt8) (h : s[0]? = some 40) (hp : headOf (s.drop 1) = some (p, r)) : treeQ s = finQ [p] [0] r := by
  have hk := head_kids hp
  simp only at hk
  unfold treeQ
  rw [if_pos h, hp]
  show (kidsQ r).bind _ = (kidsQ r).bind _
  cases kidsQ r with
  | none => rfl
  | some y =>
    show some _ = some _
    congr 1
    simp [hk, List.modify]
end Go.Proofs.YtoffjpgobhcipaaDoor

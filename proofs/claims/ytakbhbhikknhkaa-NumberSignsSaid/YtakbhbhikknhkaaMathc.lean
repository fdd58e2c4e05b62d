/-
  Layer 5: the run of a number is the whole of it, whatever stands behind: plain.
-/
import Derived.Test.YtakbhbhikknhkaaMathb
namespace Go.Proofs.Ytakbhbhikknhkaa

theorem starts_app {l : List UInt8} (m : List UInt8) (h : starts l = true) : starts (l ++ m) = true := by
  match l, h with
  | [c], h =>
    have h' : dig 10 c = true := by
      have : (dig 10 c || (decide (c = 46) && false)) = true := h
      simpa using this
    show (dig 10 c || _) = true
    rw [h']; rfl
  | c :: d :: t, h => exact h
theorem starts_dig {c : UInt8} (t : List UInt8) (h : dig 10 c = true) : starts (c :: t) = true := by
  show (dig 10 c || _) = true
  rw [h]; rfl
theorem starts_row {l : List UInt8} (h : row 10 l = true) : starts l = true := by
  obtain ⟨c, e, hc⟩ := row_head h
  cases l with
  | nil => cases e
  | cons x t =>
    have : x = c := by simpa using e
    rw [this]; exact starts_dig t hc
theorem starts_points {l : List UInt8} (h : points 10 false l = true) : starts l = true := by
  unfold points at h
  rcases point_split l with ⟨e1, _⟩ | ⟨a, b, e1, e2, e3, _⟩
  · rw [e1] at h; cases h
  · rw [e3, e2] at h
    dsimp only at h
    rw [Bool.or_eq_true] at h
    rw [e1]
    rcases h with h | h
    · rw [Bool.and_eq_true] at h
      have h1 : row 10 a = true := by simpa using h.1
      exact starts_app _ (starts_row h1)
    · rw [Bool.and_eq_true] at h
      have : a = [] := by simpa using h.1
      subst this
      obtain ⟨c, e, hc⟩ := row_head h.2
      cases b with
      | nil => cases e
      | cons x t =>
        have : x = c := by simpa using e
        subst this
        show (dig 10 46 || (decide ((46 : UInt8) = 46) && dig 10 x)) = true
        rw [hc]; decide
theorem starts_head {a b : UInt8} {l : List UInt8} (h : head? a b l = true) : starts l = true := by
  match l, h with
  | c :: d :: t, h =>
    have h' : (decide (c = 48) && (decide (d = a) || decide (d = b))) = true := h
    rw [Bool.and_eq_true, decide_eq_true_eq] at h'
    rw [h'.1]; exact starts_dig _ (by decide)
theorem starts_whole {l : List UInt8} (h : whole? l = true) : starts l = true := by
  by_cases hd : (decide (l = [48]) || (row 10 l && !decide (l.head? = some 48)) || (decide (l.head? = some 48) && under 8 (l.drop 1))) = true
  · exact starts_row (whole_dec l hd)
  · have hd' : (decide (l = [48]) || (row 10 l && !decide (l.head? = some 48)) || (decide (l.head? = some 48) && under 8 (l.drop 1))) = false := by simpa using hd
    unfold whole? at h
    rw [hd', Bool.false_or] at h
    cases h1 : head? 98 66 l with
    | true => exact starts_head h1
    | false =>
      cases h2 : head? 111 79 l with
      | true => exact starts_head h2
      | false =>
        rw [h1, h2] at h
        simp only [Bool.false_eq_true, if_false, Bool.and_eq_true] at h
        exact starts_head h.1

def tails (l : List UInt8) : Prop := ∀ c ∈ l, tail? c = true
theorem tail_dig {base : Nat} {c : UInt8} (hb : base ≤ 16) (h : dig base c = true) : tail? c = true := by
  have hv : val c < base := by unfold dig at h; exact of_decide_eq_true h
  unfold val at hv
  unfold tail?
  simp
  split at hv
  · omega
  · split at hv
    · omega
    · split at hv
      · omega
      · omega
theorem tail_bar : tail? 95 = true := by decide
/-- the run's shape: bytes of a run, or those, a letter of a power, and a row with a sign or none -/
def Shape (hex : Bool) (l : List UInt8) : Prop :=
  (tails l ∧ ∀ c ∈ l, power? hex c = false) ∨ ∃ u x z, l = u ++ x :: z ∧ tails u ∧ power? hex x = true ∧ row 10 (unsign z) = true
theorem power_no10 {c : UInt8} (h : dig 10 c = true ∨ c = 95) : power? false c = false := by
  have := dig10_letter h
  show (decide (c = 101) || decide (c = 69)) = false
  rw [decide_eq_false this.1, decide_eq_false this.2.1]; rfl
theorem power_no16 {c : UInt8} (h : dig 16 c = true ∨ c = 95) : power? true c = false := by
  have := dig16_letter h
  show (decide (c = 112) || decide (c = 80)) = false
  rw [decide_eq_false this.1, decide_eq_false this.2.1]; rfl
theorem dig_up {b1 b2 : Nat} {c : UInt8} (h : b1 ≤ b2) (hd : dig b1 c = true) : dig b2 c = true := by
  unfold dig at hd ⊢
  have := of_decide_eq_true hd
  exact decide_eq_true (by omega)
theorem not_hexed {l : List UInt8} (h : row 10 l = true ∨ points 10 false l = true ∨ anyCut decCut l = true) : head? 120 88 l = false := by
  cases hb : head? 120 88 l with
  | false => rfl
  | true =>
    obtain ⟨c, d, t, rfl⟩ := head_two hb
    have h' : (decide (c = 48) && (decide (d = 120) || decide (d = 88))) = true := hb
    rw [Bool.and_eq_true, Bool.or_eq_true, decide_eq_true_eq, decide_eq_true_eq, decide_eq_true_eq] at h'
    obtain ⟨rfl, hdd⟩ := h'
    obtain ⟨p1, p2, p3⟩ := lettered t (d := d) (by rcases hdd with e | e <;> rw [e] <;> decide) (by rcases hdd with e | e <;> rw [e] <;> decide) (by rcases hdd with e | e <;> rw [e] <;> decide) (by rcases hdd with e | e <;> rw [e] <;> decide)
    rw [p1, p2, p3] at h
    rcases h with h | h | h <;> cases h
theorem shape_row {l : List UInt8} (h : row 10 l = true) : Shape (head? 120 88 l) l := by
  rw [not_hexed (.inl h)]
  refine .inl ⟨fun c hc => ?_, fun c hc => power_no10 (row_chars l h c hc)⟩
  rcases row_chars l h c hc with e | e
  · exact tail_dig (by decide) e
  · rw [e]; exact tail_bar
theorem shape_whole {l : List UInt8} (h : whole? l = true) : Shape (head? 120 88 l) l := by
  by_cases hd : (decide (l = [48]) || (row 10 l && !decide (l.head? = some 48)) || (decide (l.head? = some 48) && under 8 (l.drop 1))) = true
  · exact shape_row (whole_dec l hd)
  · have hd' : (decide (l = [48]) || (row 10 l && !decide (l.head? = some 48)) || (decide (l.head? = some 48) && under 8 (l.drop 1))) = false := by simpa using hd
    unfold whole? at h
    rw [hd', Bool.false_or] at h
    have low : ∀ {a b : UInt8} {k : Nat}, k ≤ 10 → tail? a = true → tail? b = true → power? false a = false → power? false b = false → head? a b l = true → head? 120 88 l = false → under k (l.drop 2) = true → Shape (head? 120 88 l) l := by
      intro a b k hk ta tb pa pb h1 hx h2
      rw [hx]
      obtain ⟨c, d, t, rfl⟩ := head_two h1
      have h' : (decide (c = 48) && (decide (d = a) || decide (d = b))) = true := h1
      rw [Bool.and_eq_true, Bool.or_eq_true, decide_eq_true_eq, decide_eq_true_eq, decide_eq_true_eq] at h'
      refine .inl ⟨fun y hy => ?_, fun y hy => ?_⟩
      · rcases List.mem_cons.1 hy with e | hy
        · rw [e, h'.1]; decide
        · rcases List.mem_cons.1 hy with e | hy
          · rw [e]; rcases h'.2 with e | e <;> rw [e] <;> assumption
          · rcases under_chars h2 y hy with e | e
            · exact tail_dig (by omega) e
            · rw [e]; exact tail_bar
      · rcases List.mem_cons.1 hy with e | hy
        · rw [e, h'.1]; decide
        · rcases List.mem_cons.1 hy with e | hy
          · rw [e]; rcases h'.2 with e | e <;> rw [e] <;> assumption
          · rcases under_chars h2 y hy with e | e
            · exact power_no10 (.inl (dig_up hk e))
            · exact power_no10 (.inr e)
    cases h1 : head? 98 66 l with
    | true =>
      rw [h1, if_pos rfl] at h
      exact low (by decide) (by decide) (by decide) (by decide) (by decide) h1 (head_apart h1 (by decide)) h
    | false =>
      rw [h1, if_neg (by decide)] at h
      cases h2 : head? 111 79 l with
      | true =>
        rw [h2, if_pos rfl] at h
        exact low (by decide) (by decide) (by decide) (by decide) (by decide) h2 (head_apart h2 (by decide)) h
      | false =>
        rw [h2, if_neg (by decide), Bool.and_eq_true] at h
        rw [h.1]
        obtain ⟨c, d, t, rfl⟩ := head_two h.1
        have h' : (decide (c = 48) && (decide (d = 120) || decide (d = 88))) = true := h.1
        rw [Bool.and_eq_true, Bool.or_eq_true, decide_eq_true_eq, decide_eq_true_eq, decide_eq_true_eq] at h'
        refine .inl ⟨fun y hy => ?_, fun y hy => ?_⟩
        · rcases List.mem_cons.1 hy with e | hy
          · rw [e, h'.1]; decide
          · rcases List.mem_cons.1 hy with e | hy
            · rw [e]; rcases h'.2 with e | e <;> rw [e] <;> decide
            · rcases under_chars h.2 y hy with e | e
              · exact tail_dig (by decide) e
              · rw [e]; exact tail_bar
        · rcases List.mem_cons.1 hy with e | hy
          · rw [e, h'.1]; decide
          · rcases List.mem_cons.1 hy with e | hy
            · rw [e]; rcases h'.2 with e | e <;> rw [e] <;> decide
            · exact power_no16 (under_chars h.2 y hy)
theorem cut_shape {sm big : UInt8} {g : List UInt8 → Bool} (hg : ∀ u, g u = true → ∀ c ∈ u, c ≠ sm ∧ c ≠ big) {l : List UInt8}
    (h : anyCut (fun a b => power sm big b && g a) l = true) : ∃ u x z, l = u ++ x :: z ∧ (x = sm ∨ x = big) ∧ g u = true ∧ row 10 (unsign z) = true := by
  rcases pow_split sm big l with h1 | ⟨u, x, z, rfl, hx, h1⟩
  · rw [cut_none h1] at h; cases h
  · rw [cut_first hg hx h1, Bool.and_eq_true] at h
    exact ⟨u, x, z, rfl, hx, h.2, h.1⟩
theorem tails_points {base : Nat} (hb : base ≤ 16) {hex : Bool} {u : List UInt8} (h : points base hex u = true) : tails u := by
  intro c hc
  rcases points_chars h c hc with e | e | e
  · exact tail_dig hb e
  · rw [e]; exact tail_bar
  · rw [e]; decide
theorem tails_under {base : Nat} (hb : base ≤ 16) {u : List UInt8} (h : under base u = true) : tails u := by
  intro c hc
  rcases under_chars h c hc with e | e
  · exact tail_dig hb e
  · rw [e]; exact tail_bar
theorem shape_broken {l : List UInt8} (h : broken? l = true) : Shape (head? 120 88 l) l ∧ starts l = true := by
  unfold broken? at h
  cases hx : head? 120 88 l with
  | true =>
    refine ⟨?_, starts_head hx⟩
    rw [hx, if_pos rfl] at h
    obtain ⟨c, d, t, rfl⟩ := head_two hx
    have h' : (decide (c = 48) && (decide (d = 120) || decide (d = 88))) = true := hx
    rw [Bool.and_eq_true, Bool.or_eq_true, decide_eq_true_eq, decide_eq_true_eq, decide_eq_true_eq] at h'
    obtain ⟨u, x, z, e, hxx, hu, hr⟩ := cut_shape (g := fun a => points 16 true a || under 16 a) hex_g h
    have e' : t = u ++ x :: z := e
    refine .inr ⟨c :: d :: u, x, z, by rw [e']; rfl, ?_, by rcases hxx with e | e <;> rw [e] <;> decide, hr⟩
    have hut : tails u := by
      rw [Bool.or_eq_true] at hu
      rcases hu with hu | hu
      · exact tails_points (by decide) hu
      · exact tails_under (by decide) hu
    intro y hy
    rcases List.mem_cons.1 hy with e | hy
    · rw [e, h'.1]; decide
    · rcases List.mem_cons.1 hy with e | hy
      · rw [e]; rcases h'.2 with e | e <;> rw [e] <;> decide
      · exact hut y hy
  | false =>
    rw [hx, if_neg (by decide), Bool.or_eq_true] at h
    rcases h with h | h
    · refine ⟨.inl ⟨tails_points (by decide) h, fun c hc => ?_⟩, starts_points h⟩
      rcases points_chars h c hc with e | e | e
      · exact power_no10 (.inl e)
      · exact power_no10 (.inr e)
      · rw [e]; decide
    · obtain ⟨u, x, z, e, hxx, hu, hr⟩ := cut_shape (g := fun a => points 10 false a || row 10 a) dec_g h
      rw [Bool.or_eq_true] at hu
      refine ⟨.inr ⟨u, x, z, e, ?_, by rcases hxx with e | e <;> rw [e] <;> decide, hr⟩, ?_⟩
      · rcases hu with hu | hu
        · exact tails_points (by decide) hu
        · exact tails_under (by decide) (row_under hu)
      · rw [e]
        rcases hu with hu | hu
        · exact starts_app _ (starts_points hu)
        · exact starts_app _ (starts_row hu)

/-! how far the run of a text goes -/
theorem goes_step {hex : Bool} {t : List UInt8} {j : Nat} {c d : UInt8} (h : t[j + 1]? = some c) (hd : t[j]? = some d) : goesOn hex t (j + 1) = (tail? c || ((decide (c = 43) || decide (c = 45)) && power? hex d)) := by
  simp only [goesOn, h, hd]
theorem goes_same {hex : Bool} {l : List UInt8} (m : List UInt8) {j : Nat} (h : j < l.length) : goesOn hex (l ++ m) j = goesOn hex l j := by
  cases j with
  | zero => simp only [goesOn, List.getElem?_append_left h]
  | succ j => simp only [goesOn, List.getElem?_append_left h, List.getElem?_append_left (show j < l.length by omega)]
theorem runFrom_stop (f : Nat → Bool) (m : Nat) (hm : f m = false) : ∀ n i, (∀ j, i ≤ j → j < m → f j = true) → i ≤ m → m - i < n → runFrom f n i = m
  | 0, i, _, _, h => by omega
  | n + 1, i, hf, hi, h => by
    unfold runFrom
    by_cases e : i = m
    · rw [e, if_neg (by rw [hm]; decide)]
    · rw [if_pos (hf i (Nat.le_refl _) (by omega))]
      exact runFrom_stop f m hm n (i + 1) (fun j h1 h2 => hf j (by omega) h2) (by omega) (by omega)
theorem runFrom_upto (f : Nat → Bool) : ∀ n i j, i ≤ j → j < runFrom f n i → f j = true
  | 0, i, j, h1, h2 => by unfold runFrom at h2; omega
  | n + 1, i, j, h1, h2 => by
    unfold runFrom at h2
    split at h2
    · rename_i hf
      by_cases e : j = i
      · rw [e]; exact hf
      · exact runFrom_upto f n (i + 1) j (by omega) h2
    · omega
/-- a run ends where a byte stands that belongs to none -/
theorem runLen_stop {l : List UInt8} (hl : l ≠ []) (hr : ∀ j, j < l.length → goesOn (head? 120 88 l) l j = true) {y : UInt8} (r : List UInt8) (hy : tail? y = false)
    (hs : y = 43 ∨ y = 45 → ∀ c, l.getLast? = some c → power? (head? 120 88 l) c = false) : runLen (l ++ y :: r) = l.length := by
  have hh : head? 120 88 (l ++ y :: r) = head? 120 88 l := by
    match l, hl with
    | [c], _ =>
      show (decide (c = 48) && (decide (y = 120) || decide (y = 88))) = false
      have h1 : y ≠ 120 := by rintro rfl; revert hy; decide
      have h2 : y ≠ 88 := by rintro rfl; revert hy; decide
      rw [decide_eq_false h1, decide_eq_false h2]; simp
    | c :: d :: t, _ => rfl
  unfold runLen
  rw [hh]
  apply runFrom_stop
  · obtain ⟨k, hk⟩ : ∃ k, l.length = k + 1 := ⟨l.length - 1, by have := List.length_pos_iff.2 hl; omega⟩
    have hkl : k < l.length := by omega
    have e1 : (l ++ y :: r)[k + 1]? = some y := by rw [← hk]; simp
    have e2 : (l ++ y :: r)[k]? = some l[k] := by rw [List.getElem?_append_left hkl, List.getElem?_eq_getElem hkl]
    rw [hk, goes_step e1 e2, hy, Bool.false_or]
    by_cases h43 : y = 43 ∨ y = 45
    · have hlast : l.getLast? = some l[k] := by
        rw [List.getLast?_eq_getElem?, hk, Nat.add_sub_cancel, List.getElem?_eq_getElem hkl]
      rw [hs h43 _ hlast, Bool.and_false]
    · have h1 : y ≠ 43 := fun e => h43 (.inl e)
      have h2 : y ≠ 45 := fun e => h43 (.inr e)
      rw [decide_eq_false h1, decide_eq_false h2]; rfl
  · intro j _ hj
    rw [goes_same _ hj]
    exact hr j hj
  · exact Nat.zero_le _
  · simp
theorem shape_run {hex : Bool} {l : List UInt8} (h : Shape hex l) : (∀ j, j < l.length → goesOn hex l j = true) ∧ ∀ c, l.getLast? = some c → power? hex c = false := by
  rcases h with ⟨h1, h2⟩ | ⟨u, x, z, rfl, h1, h2, h3⟩
  · refine ⟨fun j hj => ?_, fun c hc => h2 c (List.mem_of_getLast? hc)⟩
    exact goes_tail (List.getElem?_eq_getElem hj) (h1 _ (List.getElem_mem hj))
  · have hxt : tail? x = true := by
      cases hex with
      | false =>
        have : (decide (x = 101) || decide (x = 69)) = true := h2
        rw [Bool.or_eq_true, decide_eq_true_eq, decide_eq_true_eq] at this
        rcases this with e | e <;> rw [e] <;> decide
      | true =>
        have : (decide (x = 112) || decide (x = 80)) = true := h2
        rw [Bool.or_eq_true, decide_eq_true_eq, decide_eq_true_eq] at this
        rcases this with e | e <;> rw [e] <;> decide
    have hz : (∃ s t, z = s :: t ∧ (s = 43 ∨ s = 45) ∧ row 10 t = true) ∨ row 10 z = true := by
      cases z with
      | nil => cases h3
      | cons s t =>
        unfold unsign at h3
        rw [hits_cons] at h3
        cases hs : ([43, 45] : List UInt8).contains s with
        | true =>
          rw [hs, if_pos rfl] at h3
          exact .inl ⟨s, t, rfl, by simpa using hs, h3⟩
        | false =>
          rw [hs, if_neg (by decide)] at h3
          exact .inr h3
    have tl : ∀ {t : List UInt8}, row 10 t = true → tails t := fun ht => tails_under (by decide) (row_under ht)
    refine ⟨fun j hj => ?_, fun c hc => ?_⟩
    · have hc := List.getElem?_eq_getElem hj
      by_cases j1 : j < u.length
      · refine goes_tail hc ?_
        rw [List.getElem_append_left j1]
        exact h1 _ (List.getElem_mem j1)
      · by_cases j2 : j = u.length
        · subst j2
          exact goes_tail (c := x) (by simp) hxt
        · obtain ⟨i, rfl⟩ : ∃ i, j = u.length + 1 + i := ⟨j - u.length - 1, by omega⟩
          have hi : i < z.length := by simp at hj; omega
          have hci : (u ++ x :: z)[u.length + 1 + i]? = some z[i] := by
            rw [List.getElem?_append_right (by omega), show u.length + 1 + i - u.length = i + 1 by omega, List.getElem?_cons_succ, List.getElem?_eq_getElem hi]
          rcases hz with ⟨s, t, rfl, hs, ht⟩ | hz
          · cases i with
            | zero =>
              have hx0 : (u ++ x :: s :: t)[u.length]? = some x := by simp
              rw [show u.length + 1 + 0 = u.length + 1 from rfl] at hci ⊢
              rw [goes_step hci hx0]
              have : (decide ((s :: t)[0] = 43) || decide ((s :: t)[0] = 45)) = true := by
                show (decide (s = 43) || decide (s = 45)) = true
                simpa using hs
              rw [this, h2]; simp
            | succ i =>
              refine goes_tail hci ?_
              have hi' : i < t.length := by simpa using hi
              show tail? t[i] = true
              exact tl ht _ (List.getElem_mem hi')
          · exact goes_tail hci (tl hz _ (List.getElem_mem hi))
    · have hlast : ∃ d, dig 10 d = true ∧ (u ++ x :: z).getLast? = some d := by
        rcases hz with ⟨s, t, rfl, hs, ht⟩ | hz
        · obtain ⟨d, e, hd⟩ := row_last ht
          refine ⟨d, hd, ?_⟩
          have htn : t ≠ [] := by rintro rfl; cases ht
          rw [← List.getLast?_eq_getElem?] at e
          rw [List.getLast?_append, List.getLast?_cons, List.getLast?_cons, e]; simp
        · obtain ⟨d, e, hd⟩ := row_last hz
          refine ⟨d, hd, ?_⟩
          rw [← List.getLast?_eq_getElem?] at e
          rw [List.getLast?_append, List.getLast?_cons, e]; simp
      obtain ⟨d, hd, e⟩ := hlast
      rw [e] at hc
      have hdc : d = c := by simpa using hc
      rw [← hdc]
      cases hex with
      | false => exact power_no10 (.inl hd)
      | true => exact power_no16 (.inl (dig_up (by decide) hd))
/-- a number's run is the whole of it, and begins -/
theorem kind_run {l : List UInt8} (h : kindOf l ≠ 0) : starts l = true ∧ (∀ j, j < l.length → goesOn (head? 120 88 l) l j = true) ∧ ∀ c, l.getLast? = some c → power? (head? 120 88 l) c = false := by
  rcases kind_cases h with ⟨_, h1⟩ | ⟨_, h1⟩ | ⟨_, b, rfl, h1⟩
  · exact ⟨starts_whole h1, shape_run (shape_whole h1)⟩
  · exact ⟨(shape_broken h1).2, shape_run (shape_broken h1).1⟩
  · have hb : starts b = true ∧ ∀ j, j < b.length → goesOn (head? 120 88 b) b j = true := by
      rcases h1 with h1 | h1 | h1
      · exact ⟨starts_whole h1, (shape_run (shape_whole h1)).1⟩
      · exact ⟨(shape_broken h1).2, (shape_run (shape_broken h1).1).1⟩
      · exact ⟨starts_row h1, (shape_run (shape_row h1)).1⟩
    have hne : b ≠ [] := by rintro rfl; cases hb.1
    have hh : head? 120 88 (b ++ [105]) = head? 120 88 b := by
      match b, hne with
      | [c], _ =>
        show (decide (c = 48) && (decide ((105 : UInt8) = 120) || decide ((105 : UInt8) = 88))) = false
        cases decide (c = 48) <;> rfl
      | c :: d :: t, _ => rfl
    rw [hh]
    refine ⟨starts_app _ hb.1, fun j hj => ?_, fun c hc => ?_⟩
    · by_cases j1 : j < b.length
      · rw [goes_same _ j1]; exact hb.2 j j1
      · have : j = b.length := by simp at hj; omega
        subst this
        exact goes_tail (c := 105) (by simp) (by decide)
    · rw [List.getLast?_concat] at hc
      have : c = 105 := by simpa using hc.symm
      rw [this]
      cases head? 120 88 b <;> decide
/-- a number is found, whatever byte that belongs to no run stands behind -/
theorem scan_sign {l : List UInt8} (h : kindOf l ≠ 0) {y : UInt8} (r : List UInt8) (hy : tail? y = false) : scanOf kindOf (l ++ y :: r) 0 = (kindOf l, (l.length : Int), 0) := by
  obtain ⟨h1, h2, h3⟩ := kind_run h
  have hne : l ≠ [] := by rintro rfl; cases h1
  have hrun := runLen_stop hne h2 r hy (fun _ => h3)
  have e : (l ++ y :: r).drop (0 : Int).toNat = l ++ y :: r := rfl
  unfold scanOf
  rw [e, starts_app _ h1, hrun, List.take_left, if_pos (by decide), if_neg h]
  simp
/-- what is found is found again, elsewhere -/
theorem scan_again {l : List UInt8} {a : Nat} (h2 : kindOf ((l.drop a).take (runLen (l.drop a))) ≠ 0) (ahead : List UInt8) :
    scanOf kindOf (ahead ++ ((l.drop a).take (runLen (l.drop a)) ++ [32])) ahead.length = (kindOf ((l.drop a).take (runLen (l.drop a))), ((ahead.length + runLen (l.drop a) : Nat) : Int), 0) := by
  have hn := runLen_le (l.drop a)
  obtain ⟨P, hP⟩ : ∃ P, P = (l.drop a).take (runLen (l.drop a)) := ⟨_, rfl⟩
  rw [← hP] at h2 ⊢
  have hlen : P.length = runLen (l.drop a) := by rw [hP, List.length_take]; omega
  obtain ⟨k1, k2, k3⟩ := kind_run h2
  have hne : P ≠ [] := by rintro rfl; cases k1
  have hrun := runLen_stop hne k2 [] (y := 32) (by decide) (fun e => by rcases e with e | e <;> exact absurd e (by decide))
  have e : (ahead ++ (P ++ [32])).drop ((ahead.length : Int)).toNat = P ++ [32] := by
    rw [show ((ahead.length : Int)).toNat = ahead.length by omega, List.drop_left]
  unfold scanOf
  rw [e, starts_app _ k1, hrun, List.take_left, if_pos (by simp), if_neg h2, show ((ahead.length : Int)).toNat = ahead.length by omega, hlen]
end Go.Proofs.Ytakbhbhikknhkaa

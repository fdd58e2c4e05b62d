/-
  Layer 4: contracts of lines.text, lines.Line and of the document's Line.
-/
import Derived.Test.YthbjiecckehckabD
namespace Go.Proofs.Ythbjiecckehckab
open Go.ChangeShapes Go.WideShapes Go.ChangeAt Go.RowKit

/-- where the line that begins at a ends -/
def ende (l : List UInt8) (n a : Nat) : Nat := if a < n then (if l[a]? = some 10 then a else ende l n (a + 1)) else a
termination_by n - a
theorem ende_is (l : List UInt8) (n a : Nat) (h : a ≤ n) : IsEnd l n a (ende l n a) := by
  induction hd : n - a generalizing a with
  | zero =>
    obtain rfl : a = n := by omega
    unfold ende
    rw [if_neg (Nat.lt_irrefl _)]
    exact ⟨Nat.le_refl _, Nat.le_refl _, fun j h1 h2 => by omega, .inl rfl⟩
  | succ d ih =>
    unfold ende
    rw [if_pos (by omega)]
    by_cases h10 : l[a]? = some 10
    · rw [if_pos h10]
      exact ⟨Nat.le_refl _, h, fun j h1 h2 => by omega, .inr h10⟩
    · rw [if_neg h10]
      obtain ⟨h1, h2, h3, h4⟩ := ih (a + 1) (by omega) (by omega)
      exact ⟨by omega, h2, fun j hj hj2 => by
        by_cases e : j = a
        · subst e; exact h10
        · exact h3 j (by omega) hj2, h4⟩
/-- where the line number i, from 0 on, begins and ends -/
def from_ (s : ByteArray) (i : Nat) : Nat := (starts s).getD i 0
def upto_ (s : ByteArray) (i : Nat) : Nat := ende s.data.toList s.size (from_ s i)
theorem from_le (s : ByteArray) (i : Nat) (h : i < (starts s).length) : from_ s i ≤ s.size := by
  have h1 : (starts s)[i]? = some (from_ s i) := by simp [from_, List.getD, h]
  exact stK_le _ _ _ (List.mem_of_getElem? h1)
theorem upto_end (s : ByteArray) (i e : Nat) (h : i < (starts s).length) (k : IsEnd s.data.toList s.size (from_ s i) e) : e = upto_ s i :=
  isEnd_one k (ende_is _ _ _ (from_le s i h))
theorem upto_last (s : ByteArray) (i : Nat) (h : i + 1 = (starts s).length) : upto_ s i = s.size := by
  have h1 : (starts s)[i]? = some (from_ s i) := by simp [from_, List.getD, show i < (starts s).length by omega]
  exact (upto_end s i s.size (by omega) (stK_end_last _ _ i _ h1 h)).symm
theorem upto_next (s : ByteArray) (i : Nat) (h : i + 1 < (starts s).length) : from_ s (i + 1) = upto_ s i + 1 ∧ upto_ s i + 1 ≤ s.size := by
  have h1 : (starts s)[i]? = some (from_ s i) := by simp [from_, List.getD, show i < (starts s).length by omega]
  have h2 : (starts s)[i + 1]? = some (from_ s (i + 1)) := by simp [from_, List.getD, h]
  obtain ⟨k1, k2, k3, k4⟩ := stK_end _ _ i _ _ h1 h2
  have := upto_end s i _ (by omega) k1
  omega
theorem upto_ge (s : ByteArray) (i : Nat) (h : i < (starts s).length) : from_ s i ≤ upto_ s i ∧ upto_ s i ≤ s.size := by
  obtain ⟨h1, h2, _⟩ := ende_is s.data.toList s.size (from_ s i) (from_le s i h)
  exact ⟨h1, h2⟩
/-- a line's text, and its error -/
def lineText (s : ByteArray) (n : Int) : ByteArray := if 1 ≤ n ∧ n ≤ (starts s).length then s.extract (from_ s (n.toNat - 1)) (upto_ s (n.toNat - 1)) else ⟨#[]⟩
def lineErr (s : ByteArray) (n : Int) : Int := if 1 ≤ n ∧ n ≤ (starts s).length then 0 else 1
theorem starts_len (s : ByteArray) : (starts s).length ≤ s.size + 1 := by
  have h1 := stK_len s.data.toList s.size
  have h2 : (s.data.toList.take s.size).count 10 ≤ (s.data.toList.take s.size).length := List.count_le_length
  have h3 := List.length_take_le s.size s.data.toList
  unfold starts; omega

set_option maxHeartbeats 2000000 in
theorem text_quiet (s : ByteArray) (hs : s.size ≤ 1048576) (v : Value) (i : Nat) (hi : i < (starts s).length) (w : World) (hv : Ns w v (starts s)) :
    Calls Try.prog 22 #[.string s, v, .int .i64 ((i + 1 : Nat))] w fun e w' => e = .returned (.string (s.extract (from_ s i) (upto_ s i))) ∧ ∃ q, w' = w.drewN q := by
  have hsl := starts_len s
  obtain ⟨g, cap, rfl, h1, h2, h3, h4⟩ := hv
  have c1 := h4 i (from_ s i) (by simp [from_, List.getD, hi])
  have hfe := upto_ge s i hi
  by_cases hl : i + 1 = (starts s).length
  · have hu := upto_last s i hl
    rw [hu] at hfe ⊢
    generalize from_ s i = a at c1 hfe ⊢
    generalize hL : (starts s).length = m at hi hl hsl h1
    clear h4 hu hL
    subst hl
    have e1 : ((i + 1 : Nat) : Int) - 1 = i := by omega
    go_enter Try.func22, Try.ntmps22
    go_wp2
    go_ret
    exact ⟨by rfl, 0, rfl⟩
  · have hu := upto_next s i (by omega)
    have c2 := h4 (i + 1) (from_ s (i + 1)) (by simp [from_, List.getD, show i + 1 < (starts s).length by omega])
    rw [hu.1] at c2
    have hu2 := hu.2
    generalize from_ s i = a at c1 hfe ⊢
    generalize upto_ s i = b at c2 hfe hu2 ⊢
    generalize hL : (starts s).length = m at hi hl hsl h1
    clear h4 hu hL
    have hne : ¬ (i : Int) + 1 = (m : Int) := by omega
    have e1 : ((i + 1 : Nat) : Int) - 1 = i := by omega
    have i1 : (i : Int) + 1 < (m : Int) := by omega
    go_enter Try.func22, Try.ntmps22
    go_wp2
    go_quiet (fail)
    go_wp2
    go_ret
    exact ⟨by rfl, _, rfl⟩
theorem text_any (s : ByteArray) (hs : s.size ≤ 1048576) (v : Value) (i : Nat) (hi : i < (starts s).length) (w : World) (hv : Ns w v (starts s)) :
    Calls Try.prog 22 #[.string s, v, .int .i64 ((i + 1 : Nat))] w fun e w' => e = .returned (.string (s.extract (from_ s i) (upto_ s i))) ∧ Below w.heap.size w w' :=
  (text_quiet s hs v i hi w hv).mono fun _ _ ⟨he, q, hq⟩ => ⟨he, by rw [hq]; exact below_drewN (Below.refl _ _) q⟩

set_option maxHeartbeats 2000000 in
theorem line_any (s : ByteArray) (hs : s.size ≤ 1048576) (n : Int) (w : World) :
    Calls Try.prog 15 #[.string s, .int .i64 n] w fun e w' => e = .returned (.tuple #[.string (lineText s n), .int .i64 (lineErr s n)]) ∧ Below w.heap.size w w' := by
  have hsl := starts_len s
  by_cases hc : 1 ≤ n ∧ n ≤ (starts s).length
  · obtain ⟨i, rfl⟩ : ∃ i : Nat, n = ((i + 1 : Nat) : Int) := ⟨n.toNat - 1, by omega⟩
    have ht : lineText s ((i + 1 : Nat) : Int) = s.extract (from_ s i) (upto_ s i) := by unfold lineText; rw [if_pos hc]; simp
    have hr : lineErr s ((i + 1 : Nat) : Int) = 0 := by unfold lineErr; rw [if_pos hc]
    rw [ht, hr]
    clear ht hr
    have hi : i < (starts s).length := by omega
    have n1 : ¬ ((i + 1 : Nat) : Int) < 1 := by omega
    have n2 : ¬ (((starts s).length : Nat) : Int) < ((i + 1 : Nat) : Int) := by omega
    go_enter Try.func15, Try.ntmps15
    go_wp2_with (first
      | (go_at_call 10; refine (starts_any s hs _).mono ?_; rintro e w1 ⟨⟨v, rfl, hv⟩, hB⟩; have hv0 := hv; obtain ⟨g, cap, rfl, h1, h2, h3, h4⟩ := hv; clear h4 h1 h2 h3)
      | (go_at_call 22; refine (text_any s hs _ i hi _ hv0).mono ?_; rintro e w2 ⟨rfl, hB2⟩))
    go_ret2
    exact ⟨by rfl, hB.trans (hB2.mono hB.size)⟩
  · have ht : lineText s n = ⟨#[]⟩ := by unfold lineText; rw [if_neg hc]
    have hr : lineErr s n = 1 := by unfold lineErr; rw [if_neg hc]
    rw [ht, hr]
    clear ht hr
    by_cases h1 : n < 1
    · go_enter Try.func15, Try.ntmps15
      go_wp2_with (first
        | (go_at_call 10; refine (starts_any s hs _).mono ?_; rintro e w1 ⟨⟨v, rfl, hv⟩, hB⟩; have hv0 := hv; obtain ⟨g, cap, rfl, h1, h2, h3, h4⟩ := hv; clear h4 h1 h2 h3))
      go_ret2
      exact ⟨by rfl, hB⟩
    · have h2 : (((starts s).length : Nat) : Int) < n := by omega
      go_enter Try.func15, Try.ntmps15
      go_wp2_with (first
        | (go_at_call 10; refine (starts_any s hs _).mono ?_; rintro e w1 ⟨⟨v, rfl, hv⟩, hB⟩; have hv0 := hv; obtain ⟨g, cap, rfl, h1, h2, h3, h4⟩ := hv; clear h4 h1 h2 h3))
      go_ret2
      exact ⟨by rfl, hB⟩

set_option maxHeartbeats 2000000 in
theorem rline_any (s : ByteArray) (hs : s.size ≤ 1048576) (n : Int) (w : World) :
    Calls Try.prog 16 #[.string s, .int .i64 n] w fun e w' => e = .returned (.tuple #[.string (lineText s n), .int .i64 (lineErr s n)]) ∧ Below w.heap.size w w' := by
  have hsl := starts_len s
  by_cases hc : 1 ≤ n ∧ n ≤ (starts s).length
  · obtain ⟨i, rfl⟩ : ∃ i : Nat, n = ((i + 1 : Nat) : Int) := ⟨n.toNat - 1, by omega⟩
    have ht : lineText s ((i + 1 : Nat) : Int) = s.extract (from_ s i) (upto_ s i) := by unfold lineText; rw [if_pos hc]; simp
    have hr : lineErr s ((i + 1 : Nat) : Int) = 0 := by unfold lineErr; rw [if_pos hc]
    rw [ht, hr]
    clear ht hr
    have hi : i < (starts s).length := by omega
    have n1 : ¬ ((i + 1 : Nat) : Int) < 1 := by omega
    have n2 : ¬ (((starts s).length : Nat) : Int) < ((i + 1 : Nat) : Int) := by omega
    have e1 : ((i + 1 : Nat) : Int) - 1 = i := by omega
    have hfe := upto_ge s i hi
    have hend : IsEnd s.data.toList s.size (from_ s i) (upto_ s i) := ende_is _ _ _ (from_le s i hi)
    have hcell : ∀ w v, Ns w v (starts s) → ∃ g cap, v = .slice (some ⟨g, 0, none⟩) (starts s).length cap ∧ g < w.heap.size ∧ w.cell? ⟨g, i, none⟩ = some (.int .i64 (from_ s i)) := by
      intro w v ⟨g, cap, e, h1, h2, h3, h4⟩
      exact ⟨g, cap, e, h3, h4 i _ (by simp [from_, List.getD, hi])⟩
    have HC := Lib.hid hcell
    generalize from_ s i = a at hfe hend hcell HC ⊢
    generalize upto_ s i = b at hfe hend ⊢
    clear hcell
    go_enter Try.func16, Try.ntmps16
    go_wp2_with (first
      | (go_at_call 13; refine (rstarts_any s hs _).mono ?_; rintro e w1 ⟨⟨v, rfl, hv⟩, hB⟩; obtain ⟨g, cap, rfl, hg, hcl⟩ := HC.out _ _ hv; clear hv))
    obtain ⟨q1, q2, q3, q4⟩ := hend
    have HN := Lib.hid q3
    clear q3
    go_loopw [7] (fun i wr => ∃ k : Nat, a ≤ k ∧ k ≤ b ∧ i = .int .i64 k ∧ wr = w1) (fun i _ => s.size - (intOf i).toNat)
    case atStart => exact ⟨a, Nat.le_refl _, q1, rfl, rfl⟩
    case round =>
      obtain ⟨k, hak, hkb, rfl, rfl⟩ := hrel
      by_cases hlt : k < b
      · have hks : k < s.size := by omega
        have hb := get_byte s k hks
        have hn10 := HN.out k hak hlt
        have hm : ((s[k].toNat : Int) == 10) = false := not_ten _ (fun h => hn10 (by rw [hb, h]))
        clear hb hn10 q4
        go_wp2
        go_roundw
        case rel => exact ⟨k + 1, by omega, by omega, by go_num, trivial⟩
        case measure => simp [intOf]; omega
      · obtain rfl : k = b := by omega
        by_cases hks : k < s.size
        · have hb := get_byte s k hks
          have hm : ((s[k].toNat : Int) == 10) = true := (is_ten _).2 (by
            have := q4.resolve_left (by omega)
            rw [hb] at this; exact Option.some.inj this)
          clear hb q4
          go_wp2
          go_ret2
          exact ⟨by rfl, hB⟩
        · obtain rfl : k = s.size := by omega
          clear q4
          go_wp2
          go_ret2
          exact ⟨by rfl, hB⟩
  · have ht : lineText s n = ⟨#[]⟩ := by unfold lineText; rw [if_neg hc]
    have hr : lineErr s n = 1 := by unfold lineErr; rw [if_neg hc]
    rw [ht, hr]
    clear ht hr
    by_cases h1 : n < 1
    · go_enter Try.func16, Try.ntmps16
      go_wp2_with (first
        | (go_at_call 13; refine (rstarts_any s hs _).mono ?_; rintro e w1 ⟨⟨v, rfl, hv⟩, hB⟩; have hv0 := hv; obtain ⟨g, cap, rfl, h1, h2, h3, h4⟩ := hv; clear h4 h1 h2 h3))
      go_ret2
      exact ⟨by rfl, hB⟩
    · have h2 : (((starts s).length : Nat) : Int) < n := by omega
      go_enter Try.func16, Try.ntmps16
      go_wp2_with (first
        | (go_at_call 13; refine (rstarts_any s hs _).mono ?_; rintro e w1 ⟨⟨v, rfl, hv⟩, hB⟩; have hv0 := hv; obtain ⟨g, cap, rfl, h1, h2, h3, h4⟩ := hv; clear h4 h1 h2 h3))
      go_ret2
      exact ⟨by rfl, hB⟩
end Go.Proofs.Ythbjiecckehckab

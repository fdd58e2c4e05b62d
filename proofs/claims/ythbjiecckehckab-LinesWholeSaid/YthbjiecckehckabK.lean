/-
  Layer 4: places and lines there and back; the laws LinesOffs, LinesOrder, LinesBack.
-/
import Derived.Test.YthbjiecckehckabJ
import Derived.Test.YthbjiecckehckabH
namespace Go.Proofs.Ythbjiecckehckab
open Go.ChangeShapes Go.WideShapes Go.ChangeAt Go.RowKit

theorem lst_free (l : List UInt8) (k : Nat) : ∀ j, lst l k ≤ j → j < k → l[j]? ≠ some 10 := by
  induction k with
  | zero => intro j _ h; omega
  | succ k ih =>
    intro j h1 h2
    unfold lst at h1
    split at h1
    · omega
    · by_cases e : j = k
      · subst e; assumption
      · exact ih j h1 (by omega)
theorem ord_of (l : List UInt8) (a b : Nat) (h : a ≤ b) : (stK l a).length < (stK l b).length ∨ ((stK l a).length = (stK l b).length ∧ lst l a = lst l b) := by
  obtain ⟨M, h1, _⟩ := stK_more l a (b - a)
  rw [show a + (b - a) = b by omega] at h1
  cases M with
  | nil =>
    rw [List.append_nil] at h1
    refine .inr ⟨by rw [h1], ?_⟩
    have h2 := stK_last l a
    have h3 := stK_last l b
    rw [h1] at h3
    exact Option.some.inj (h2.symm.trans h3)
  | cons x M => left; rw [h1]; simp
/-- the place comes back -/
theorem place_back (s : ByteArray) (k : Nat) (hk : k ≤ s.size) : offVal s (atLine s k) (atCol s k) = k ∧ offErr s (atLine s k) (atCol s k) = 0 := by
  have hc : (0 : Int) ≤ (k : Int) ∧ (k : Int) ≤ s.size := by omega
  have ht : atLine s k = (stK s.data.toList k).length := by unfold atLine; rw [if_pos hc, Int.toNat_natCast]
  have hr : atCol s k = k - lst s.data.toList k + 1 := by unfold atCol; rw [if_pos hc, Int.toNat_natCast]
  have hp := stK_pos s.data.toList k
  have hle := lst_le s.data.toList k
  obtain ⟨r, hlr⟩ : ∃ r, (stK s.data.toList k).length = r + 1 := ⟨(stK s.data.toList k).length - 1, by omega⟩
  have hlen : r < (starts s).length := by
    obtain ⟨M, h1, _⟩ := stK_more s.data.toList k (s.size - k)
    rw [show k + (s.size - k) = s.size by omega] at h1
    unfold starts; rw [h1]; simp; omega
  have hfrom : from_ s r = lst s.data.toList k := by
    have h1 := stK_last s.data.toList k
    rw [hlr, Nat.add_sub_cancel] at h1
    unfold from_ starts
    rw [List.getD, stK_at _ s.size k r hk (by omega), h1]; rfl
  obtain ⟨e1, e2, e3, e4⟩ := ende_is s.data.toList s.size (from_ s r) (from_le s r hlen)
  have hup : k ≤ upto_ s r := by
    rcases Nat.lt_or_ge (upto_ s r) k with h | h
    · exact absurd (e4.resolve_left (by unfold upto_ at h; omega)) (lst_free s.data.toList k _ (by rw [← hfrom]; exact e1) h)
    · exact h
  have hmay : mayOff s (atLine s k) (atCol s k) := by
    unfold mayOff
    rw [ht, hr, hlr, Int.toNat_natCast, Nat.add_sub_cancel, hfrom]
    refine ⟨⟨by omega, by omega⟩, by omega, by omega⟩
  obtain ⟨o1, o2⟩ := off_yes hmay
  refine ⟨?_, o2⟩
  rw [o1, ht, hr, hlr, Int.toNat_natCast, Nat.add_sub_cancel, hfrom]; omega
/-- the line and the column come back -/
theorem pos_back (s : ByteArray) (line col : Int) (h : mayOff s line col) : 0 ≤ offVal s line col ∧ offVal s line col ≤ s.size ∧ atLine s (offVal s line col) = line ∧ atCol s (offVal s line col) = col ∧ atErr s (offVal s line col) = 0 := by
  obtain ⟨o1, _⟩ := off_yes h
  obtain ⟨⟨h1, h2⟩, h3, h4⟩ := h
  obtain ⟨i, rfl⟩ : ∃ i : Nat, line = ((i + 1 : Nat) : Int) := ⟨line.toNat - 1, by omega⟩
  rw [Int.toNat_natCast, Nat.add_sub_cancel] at o1 h4
  have hi : i < (starts s).length := by omega
  have hge := upto_ge s i hi
  obtain ⟨o, ho⟩ : ∃ o : Nat, (o : Int) = from_ s i + col - 1 := ⟨(from_ s i + col - 1).toNat, by omega⟩
  rw [o1, ← ho]
  have hos : o ≤ s.size := by omega
  have hc : (0 : Int) ≤ (o : Int) ∧ (o : Int) ≤ s.size := by omega
  have hx : (stK s.data.toList s.size)[i]? = some (from_ s i) := by
    show (starts s)[i]? = _
    simp [from_, List.getD, hi]
  have hlt : i < (stK s.data.toList o).length := (stK_upto _ s.size o i _ hos hx).1 (by omega)
  have hlen : (stK s.data.toList o).length = i + 1 := by
    by_cases hn : i + 1 < (starts s).length
    · have hx2 : (stK s.data.toList s.size)[i + 1]? = some (from_ s (i + 1)) := by
        show (starts s)[i + 1]? = _
        simp [from_, List.getD, hn]
      have := (stK_upto _ s.size o (i + 1) _ hos hx2).2
      have hu := upto_next s i hn
      by_cases hb : i + 1 < (stK s.data.toList o).length
      · have := this hb; omega
      · omega
    · obtain ⟨M, g1, _⟩ := stK_more s.data.toList o (s.size - o)
      rw [show o + (s.size - o) = s.size by omega] at g1
      have : (starts s).length = (stK s.data.toList o).length + M.length := by unfold starts; rw [g1]; simp
      omega
  have hls : lst s.data.toList o = from_ s i := by
    have g1 := stK_last s.data.toList o
    rw [hlen, Nat.add_sub_cancel, ← stK_at _ s.size o i hos hlt, hx] at g1
    exact (Option.some.inj g1).symm
  refine ⟨hc.1, hc.2, ?_, ?_, ?_⟩
  · unfold atLine; rw [if_pos hc, Int.toNat_natCast, hlen]
  · unfold atCol; rw [if_pos hc, Int.toNat_natCast, hls]; omega
  · unfold atErr; rw [if_pos hc]
theorem off_two (s : ByteArray) (line col : Int) : (offErr s line col = 0 ∧ mayOff s line col) ∨ (offErr s line col = 1 ∧ offVal s line col = 0) := by
  by_cases h : mayOff s line col
  · exact .inl ⟨(off_yes h).2, h⟩
  · exact .inr ⟨(off_no h).2, (off_no h).1⟩

set_option maxHeartbeats 2000000 in
theorem linesOffs_walk (s : ByteArray) (line col : Int) (hcol : col ≤ 9223372036854775807) (hs : s.size ≤ 1048576) (w : World) : Calls Try.prog 6 #[.string s, .agg #[.int .i64 line, .int .i64 col]] w fun e w' => e = .returned (.bool true) ∧ Below w.heap.size w w' := by
  have hA : Below w.heap.size w w := Below.refl _ _
  have h1 := fun w => off_any s hs line col w
  have h2 := fun w => roff_any s hs line col hcol w
  generalize offVal s line col = l at h1 h2
  generalize offErr s line col = x at h1 h2
  have H1 := Lib.hid h1
  have H2 := Lib.hid h2
  clear h1 h2
  go_enter Try.func6, Try.ntmps6
  go_wp2_with (first
    | (go_at_call 19; refine (H1.out _).mono ?_; rintro e w1 ⟨rfl, hB⟩; obtain ⟨p0, p1, hB3⟩ := pos_cells hB; replace hA := below_chain hA hB3; clear hB hB3)
    | (go_at_call 20; refine (H2.out _).mono ?_; rintro e w2 ⟨rfl, hB⟩; replace hA := below_chain hA hB; clear hB)
    | (go_at_call 11; refine (fixed_any _).mono ?_; rintro e w3 ⟨rfl, hB⟩; replace hA := below_chain hA hB; clear hB))
  go_ret
  exact ⟨by simp, hA⟩
end Go.Proofs.Ythbjiecckehckab

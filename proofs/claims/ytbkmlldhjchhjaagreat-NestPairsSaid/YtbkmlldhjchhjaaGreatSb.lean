/-
  Layer 7: contracts of scan.Clean and of the document's Clean.
-/
import Derived.Test.YtbkmlldhjchhjaaGreatQg
import Derived.Laws.RangeAny
namespace Go.Proofs.YtbkmlldhjchhjaaGreat
open Go.ChangeShapes Go.WideShapes Go.ChangeAt Go.RowKit
open Go.Lib (decodeL)

theorem badAt_ge (l : List UInt8) : ∀ f p, badAt l f p = -1 ∨ (p : Int) ≤ badAt l f p
  | 0, p => .inl rfl
  | f + 1, p => by
    unfold badAt
    split
    · split
      · exact .inr (Int.le_refl _)
      · have := badAt_ge l f (p + wide (l.drop p))
        omega
    · exact .inl rfl
theorem badAt_le (l : List UInt8) : ∀ f p, badAt l f p < l.length
  | 0, p => by unfold badAt; omega
  | f + 1, p => by
    unfold badAt
    split
    · split
      · omega
      · exact badAt_le l f _
    · omega
/-- where the good characters end -/
def goodEnd (l : List UInt8) (b : Int) (E : Nat) : Prop := (b = -1 ∧ E = l.length) ∨ (b = (E : Int) ∧ E < l.length)
theorem decode_pre {t : List UInt8} (h : wide t ≠ 0) {n : Nat} (hn : wide t ≤ n) : decodeL (t.take n) = decodeL t := by
  obtain ⟨hs, hc⟩ := chr_split h
  have hl := (chr_form h).2
  have h1 : t.take n = form (chr t) ++ (t.drop (wide t)).take (n - wide t) := by
    conv => lhs; rw [hs]
    rw [List.take_append, hl, List.take_of_length_le (by omega)]
  rw [h1, decode_form _ _ hc]
  conv => rhs; rw [hs]
  rw [decode_form _ _ hc]
theorem wide_bad {t : List UInt8} (h : isBad t = true) : wide t = 0 := by unfold wide; rw [if_pos (.inr h)]
theorem bad_step {l : List UInt8} {b : Int} {E g pos : Nat} (hE : goodEnd l b E) (hp : pos < E) (hb : badAt l (g + 1) pos = b) : wide (l.drop pos) ≠ 0 ∧ pos + wide (l.drop pos) ≤ E ∧ badAt l g (pos + wide (l.drop pos)) = b ∧ decodeL ((l.take E).drop pos) = ((chr (l.drop pos)).toNat, wide (l.drop pos)) ∧ 0 ≤ chr (l.drop pos) := by
  have hEl : E ≤ l.length := by rcases hE with ⟨_, h⟩ | ⟨_, h⟩ <;> omega
  have hpl : pos < l.length := by omega
  have hne : l.drop pos ≠ [] := by
    intro e
    have := congrArg List.length e
    rw [List.length_drop] at this
    simp at this; omega
  have hb0 := hb
  unfold badAt at hb
  rw [if_pos hpl] at hb
  cases hi : isBad (l.drop pos) with
  | true =>
    rw [if_pos hi] at hb
    rcases hE with ⟨h, _⟩ | ⟨h, _⟩ <;> omega
  | false =>
    rw [if_neg (by rw [hi]; decide)] at hb
    have hw := wide_good _ hne hi
    have hw1 := (good_width _ hne).1
    have hw0 : wide (l.drop pos) ≠ 0 := by omega
    have hle : pos + wide (l.drop pos) ≤ E := by
      have h1 := badAt_ge l g (pos + wide (l.drop pos))
      have h2 := drop_wide (l := l) (pos := pos) (by omega)
      rcases hE with ⟨h, h'⟩ | ⟨h, _⟩ <;> omega
    refine ⟨hw0, hle, hb, ?_, ?_⟩
    · rw [List.drop_take, decode_pre hw0 (by omega)]
      obtain ⟨hs, hc⟩ := chr_split hw0
      conv => lhs; rw [hs]
      rw [decode_form _ _ hc, (chr_form hw0).2]
    · have hc := chr_is hw0
      unfold isChar at hc
      have := of_decide_eq_true hc
      omega
theorem decode_at' (s : ByteArray) (l : List UInt8) (hl : s.data.toList = l) (pos : Nat) : Utf8.decode s pos = decodeL (l.drop pos) := by
  rw [← hl, Lib.decodeL_drop]
set_option maxHeartbeats 4000000 in
theorem clean_any (s : ByteArray) (hs : s.size ≤ maxLen) (w : World) :
    Calls Tryz.prog 25 #[.string s] w fun e w' => e = .returned (.int .i64 (cleanAt s.data.toList s.size 0)) ∧ Below w.heap.size w w' := by
  have hl : s.data.toList.length = s.size := by simp
  have hbad := fun w => bad_any s w hs
  obtain ⟨b, hb⟩ : ∃ b, b = badAt s.data.toList s.size 0 := ⟨_, rfl⟩
  rw [← hb] at hbad
  have hge := badAt_ge s.data.toList s.size 0
  have hlt := badAt_le s.data.toList s.size 0
  rw [← hb] at hge hlt
  rw [hl] at hlt
  obtain ⟨R, hR⟩ : ∃ R, R = cleanAt s.data.toList s.size 0 := ⟨_, rfl⟩
  rw [← hR]
  have HR := Lib.hid hR
  have HB := Lib.hid hb.symm
  unfold maxLen at hs
  clear hR hb
  by_cases h0 : 0 ≤ b
  · obtain ⟨E, rfl⟩ : ∃ E : Nat, b = (E : Int) := ⟨b.toNat, by omega⟩
    have hE := Lib.hid (show goodEnd s.data.toList (E : Int) E from .inr ⟨rfl, by omega⟩)
    have hG : (s.extract 0 E).data.toList = s.data.toList.take E := by
      have := extract_list s 0 E
      rw [ByteArray.toList_eq] at this
      rw [this, List.drop_zero]
    have hGs : (s.extract 0 E).size = E := by rw [ByteArray.size_extract]; omega
    obtain ⟨G, hGe⟩ : ∃ G, G = s.extract 0 E := ⟨_, rfl⟩
    have hsl : ∀ w, (Instr.slice 9 (.string s) none (some (.int .i64 (E : Int))) none).run Tryz.prog w = .ok (.string G) w := by
      intro w
      rw [hGe, run_slice_string_to_if _ 9 s .i64 _ Tryz.underlying9, if_pos (by omega)]; simp
    rw [← hGe] at hG hGs
    have HG := Lib.hid hG
    clear hG hGe hge
    go_enter Tryz.func25, Tryz.ntmps25
    go_wp2_with (go_at_call 33; refine (hbad _).mono ?_; rintro e w1 ⟨rfl, hA⟩)
    go_loopw [] (fun wr => ∃ (pos f : Nat), wr = w1.iter G pos ∧ pos ≤ E ∧ Hid (badAt s.data.toList f pos = (E : Int)) ∧ Hid (cleanAt s.data.toList f pos = R) ∧ s.size ≤ pos + f) (fun wr => E - wr.iterPos w1.heap.size)
    case atStart => exact ⟨0, s.size, rfl, by omega, HB, Lib.hid HR.out.symm, by omega⟩
    case round =>
      obtain ⟨pos, f, rfl, hpE, hB1, hC1, hf⟩ := hrel
      obtain ⟨g, rfl⟩ : ∃ g, f = g + 1 := ⟨f - 1, by omega⟩
      by_cases hp : pos < E
      · obtain ⟨q1, q2, q3, q4, q5⟩ := bad_step hE.out hp hB1.out
        obtain ⟨n, hn⟩ : ∃ n, n = wide (s.data.toList.drop pos) := ⟨_, rfl⟩
        obtain ⟨c, hc⟩ : ∃ c : Nat, (c : Int) = chr (s.data.toList.drop pos) := ⟨(chr (s.data.toList.drop pos)).toNat, by omega⟩
        rw [← hn, ← hc] at q4
        rw [← hn] at q1 q2 q3
        have hnx : ∀ ty, (Instr.next (.pointer (some ⟨w1.heap.size, 0, none⟩)) true ty).run Tryz.prog (w1.iter G pos) = _ := fun ty => run_next_any w1 G pos ty (by omega)
        rw [decode_at' G _ HG.out, q4, show ((c : Int)).toNat = c by omega] at hnx
        have HC := Lib.hid hc
        have HN := Lib.hid hn
        have HQ := Lib.hid q3
        clear q3 q4 q5 hn hc
        by_cases hbd : (c : Int) = 0 ∨ ((c : Int) = 65279 ∧ 0 < pos)
        · have hRp : R = (pos : Int) := by
            rw [← hC1.out, cleanAt_bad g (by omega) (by rw [← HN.out, ← HC.out]; exact .inr hbd)]
          have qq : ((c : Int) == 0) = true ∨ (((c : Int) == 0) = false ∧ ((c : Int) == 65279) = true ∧ decide (0 < pos) = true) := by
            by_cases h : (c : Int) = 0
            · exact .inl (by simpa using h)
            · have h2 := hbd.resolve_left h
              exact .inr ⟨by simpa using h, by simpa using h2.1, decide_eq_true h2.2⟩
          subst hRp
          clear hbd hC1 hB1
          rcases qq with h1 | ⟨h1, h2, h3⟩
          all_goals
            go_wp2
            go_ret
            exact ⟨rfl, hA.trans ((below_iter _ _ _).mono hA.size)⟩
        · have hC2 := Lib.hid (show cleanAt s.data.toList g (pos + n) = R by
            rw [← hC1.out, cleanAt_good g (by omega) (by rw [← HN.out, ← HC.out]; rintro (h | h); exact q1 h; exact hbd h), HN.out])
          have qq : ((c : Int) == 0) = false ∧ (((c : Int) == 65279) = false ∨ (((c : Int) == 65279) = true ∧ decide (0 < pos) = false)) := by
            refine ⟨by simpa using fun h => hbd (.inl h), ?_⟩
            by_cases h : (c : Int) = 65279
            · exact .inr ⟨by simpa using h, decide_eq_false fun h2 => hbd (.inr ⟨h, h2⟩)⟩
            · exact .inl (by simpa using h)
          obtain ⟨h1, h2⟩ := qq
          clear hbd hC1 hB1
          rcases h2 with h2 | ⟨h2, h3⟩
          all_goals
            go_wp2
            go_roundw
            case rel => exact ⟨pos + n, g, rfl, by omega, HQ, hC2, by omega⟩
            case measure => simp; omega
      · have hpe : pos = E := by omega
        subst hpe
        have hRp : R = (pos : Int) := by
          rcases hE.out with ⟨h, _⟩ | ⟨_, h⟩
          · omega
          · have hi : isBad (s.data.toList.drop pos) = true := by
              cases hi : isBad (s.data.toList.drop pos) with
              | true => rfl
              | false =>
                have h3 := hB1.out
                unfold badAt at h3
                rw [if_pos h, if_neg (by rw [hi]; decide)] at h3
                have h4 := badAt_ge s.data.toList g (pos + wide (s.data.toList.drop pos))
                have hne : s.data.toList.drop pos ≠ [] := by
                  intro e
                  have := congrArg List.length e
                  rw [List.length_drop] at this
                  simp at this; omega
                have hw := wide_good _ hne hi
                have hw1 := (good_width _ hne).1
                omega
            rw [← hC1.out, cleanAt_bad g h (.inl (wide_bad hi))]
        subst hRp
        have hnx : ∀ ty, (Instr.next (.pointer (some ⟨w1.heap.size, 0, none⟩)) true ty).run Tryz.prog (w1.iter G pos) = _ := fun ty => run_next_end w1 G pos ty (by omega)
        clear hC1 hB1
        go_wp2
        go_ret
        exact ⟨rfl, hA.trans ((below_iter _ _ _).mono hA.size)⟩
  · have hbm : b = -1 := by omega
    subst hbm
    have hE := Lib.hid (show goodEnd s.data.toList (-1) s.size from .inl ⟨rfl, hl.symm⟩)
    have HG := Lib.hid (show s.data.toList = s.data.toList.take s.size by rw [List.take_of_length_le (by rw [hl]; exact Nat.le_refl _)])
    clear hge hlt h0
    go_enter Tryz.func25, Tryz.ntmps25
    go_wp2_with (go_at_call 33; refine (hbad _).mono ?_; rintro e w1 ⟨rfl, hA⟩)
    go_loopw [] (fun wr => ∃ (pos f : Nat), wr = w1.iter s pos ∧ pos ≤ s.size ∧ Hid (badAt s.data.toList f pos = -1) ∧ Hid (cleanAt s.data.toList f pos = R) ∧ s.size ≤ pos + f) (fun wr => s.size - wr.iterPos w1.heap.size)
    case atStart => exact ⟨0, s.size, rfl, by omega, HB, Lib.hid HR.out.symm, by omega⟩
    case round =>
      obtain ⟨pos, f, rfl, hpE, hB1, hC1, hf⟩ := hrel
      by_cases hp : pos < s.size
      · obtain ⟨g, rfl⟩ : ∃ g, f = g + 1 := ⟨f - 1, by omega⟩
        obtain ⟨q1, q2, q3, q4, q5⟩ := bad_step hE.out hp hB1.out
        obtain ⟨n, hn⟩ : ∃ n, n = wide (s.data.toList.drop pos) := ⟨_, rfl⟩
        obtain ⟨c, hc⟩ : ∃ c : Nat, (c : Int) = chr (s.data.toList.drop pos) := ⟨(chr (s.data.toList.drop pos)).toNat, by omega⟩
        rw [← hn, ← hc] at q4
        rw [← hn] at q1 q2 q3
        have hnx : ∀ ty, (Instr.next (.pointer (some ⟨w1.heap.size, 0, none⟩)) true ty).run Tryz.prog (w1.iter s pos) = _ := fun ty => run_next_any w1 s pos ty (by omega)
        rw [decode_at' s _ HG.out, q4, show ((c : Int)).toNat = c by omega] at hnx
        have HC := Lib.hid hc
        have HN := Lib.hid hn
        have HQ := Lib.hid q3
        clear q3 q4 q5 hn hc
        by_cases hbd : (c : Int) = 0 ∨ ((c : Int) = 65279 ∧ 0 < pos)
        · have hRp : R = (pos : Int) := by
            rw [← hC1.out, cleanAt_bad g (by omega) (by rw [← HN.out, ← HC.out]; exact .inr hbd)]
          have qq : ((c : Int) == 0) = true ∨ (((c : Int) == 0) = false ∧ ((c : Int) == 65279) = true ∧ decide (0 < pos) = true) := by
            by_cases h : (c : Int) = 0
            · exact .inl (by simpa using h)
            · have h2 := hbd.resolve_left h
              exact .inr ⟨by simpa using h, by simpa using h2.1, decide_eq_true h2.2⟩
          subst hRp
          clear hbd hC1 hB1
          rcases qq with h1 | ⟨h1, h2, h3⟩
          all_goals
            go_wp2
            go_ret
            exact ⟨rfl, hA.trans ((below_iter _ _ _).mono hA.size)⟩
        · have hC2 := Lib.hid (show cleanAt s.data.toList g (pos + n) = R by
            rw [← hC1.out, cleanAt_good g (by omega) (by rw [← HN.out, ← HC.out]; rintro (h | h); exact q1 h; exact hbd h), HN.out])
          have qq : ((c : Int) == 0) = false ∧ (((c : Int) == 65279) = false ∨ (((c : Int) == 65279) = true ∧ decide (0 < pos) = false)) := by
            refine ⟨by simpa using fun h => hbd (.inl h), ?_⟩
            by_cases h : (c : Int) = 65279
            · exact .inr ⟨by simpa using h, decide_eq_false fun h2 => hbd (.inr ⟨h, h2⟩)⟩
            · exact .inl (by simpa using h)
          obtain ⟨h1, h2⟩ := qq
          clear hbd hC1 hB1
          rcases h2 with h2 | ⟨h2, h3⟩
          all_goals
            go_wp2
            go_roundw
            case rel => exact ⟨pos + n, g, rfl, by omega, HQ, hC2, by omega⟩
            case measure => simp; omega
      · have hpe : pos = s.size := by omega
        subst hpe
        have hRp : R = -1 := by rw [← hC1.out]; exact cleanAt_end _ _ _ (by rw [hl]; exact Nat.lt_irrefl _)
        subst hRp
        have hnx : ∀ ty, (Instr.next (.pointer (some ⟨w1.heap.size, 0, none⟩)) true ty).run Tryz.prog (w1.iter s s.size) = _ := fun ty => run_next_end w1 s s.size ty (by omega)
        clear hC1 hB1
        go_wp2
        go_ret
        exact ⟨rfl, hA.trans ((below_iter _ _ _).mono hA.size)⟩
end Go.Proofs.YtbkmlldhjchhjaaGreat

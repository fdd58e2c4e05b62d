/-
  Layer 7: contracts of the walks over runs of characters: the document's run and begins; scan.behind.
-/
import Derived.Test.YtbkmlldhjchhjaaGreatSb
namespace Go.Proofs.YtbkmlldhjchhjaaGreat
open Go.ChangeShapes Go.WideShapes Go.ChangeAt Go.RowKit
open Go.Lib (decodeL)

theorem clean_step {l : List UInt8} {g pos : Nat} (h : cleanAt l (g + 1) pos = -1) (hp : pos < l.length) : wide (l.drop pos) ≠ 0 ∧ chr (l.drop pos) ≠ 0 ∧ ¬ (chr (l.drop pos) = 65279 ∧ 0 < pos) ∧ cleanAt l g (pos + wide (l.drop pos)) = -1 := by
  by_cases hb : wide (l.drop pos) = 0 ∨ chr (l.drop pos) = 0 ∨ (chr (l.drop pos) = 65279 ∧ 0 < pos)
  · rw [cleanAt_bad g hp hb] at h; omega
  · rw [cleanAt_good g hp hb] at h
    exact ⟨fun e => hb (.inl e), fun e => hb (.inr (.inl e)), fun e => hb (.inr (.inr e)), h⟩
set_option maxHeartbeats 4000000 in
theorem rclean_any (s : ByteArray) (hs : s.size ≤ maxLen) (w : World) :
    Calls Tryz.prog 28 #[.string s] w fun e w' => e = .returned (.int .i64 (cleanAt s.data.toList s.size 0)) ∧ Below w.heap.size w w' := by
  have hl : s.data.toList.length = s.size := by simp
  obtain ⟨R, hR⟩ : ∃ R, R = cleanAt s.data.toList s.size 0 := ⟨_, rfl⟩
  rw [← hR]
  have HR := Lib.hid hR.symm
  have hs' := hs
  unfold maxLen at hs
  clear hR
  go_enter Tryz.func28, Tryz.ntmps28
  go_wp2
  go_loopw [3] (fun iv wr => ∃ (pos f : Nat), pos ≤ s.size ∧ iv = .int .i64 pos ∧ Hid (cleanAt s.data.toList f pos = R) ∧ s.size ≤ pos + f ∧ Below w.heap.size w wr) (fun iv _ => s.size - (intOf iv).toNat)
  case atStart => exact ⟨0, s.size, by omega, rfl, HR, by omega, Below.refl _ _⟩
  case round =>
    obtain ⟨pos, f, hps, rfl, hC, hf, hB⟩ := hrel
    by_cases hp : pos < s.size
    · have i1 : (pos : Int) < s.size := by omega
      obtain ⟨g, rfl⟩ : ∃ g, f = g + 1 := ⟨f - 1, by omega⟩
      have hrd := fun w => rread_in s pos w hs' hp
      obtain ⟨c, hc⟩ : ∃ c, c = chr (s.data.toList.drop pos) := ⟨_, rfl⟩
      obtain ⟨n, hn⟩ : ∃ n, n = wide (s.data.toList.drop pos) := ⟨_, rfl⟩
      rw [← hc, ← hn] at hrd
      have hdw := drop_wide (l := s.data.toList) (pos := pos) (by omega)
      rw [← hn, hl] at hdw
      have HC := Lib.hid hc
      have HN := Lib.hid hn
      clear hc hn
      by_cases hbd : n = 0 ∨ c = 0 ∨ (c = 65279 ∧ 0 < pos)
      · have hRp : R = (pos : Int) := by rw [← hC.out, cleanAt_bad g (by omega) (by rw [← HN.out, ← HC.out]; exact hbd)]
        have qq : ((n : Int) == 0) = true ∨ (((n : Int) == 0) = false ∧ (c == 0) = true) ∨ (((n : Int) == 0) = false ∧ (c == 0) = false ∧ (c == 65279) = true ∧ decide (0 < pos) = true) := by
          by_cases h0 : n = 0
          · exact .inl (by rw [beq_iff_eq]; omega)
          · have q : ((n : Int) == 0) = false := by rw [beq_eq_false_iff_ne]; omega
            by_cases h1 : c = 0
            · exact .inr (.inl ⟨q, by simpa using h1⟩)
            · have h2 := (hbd.resolve_left h0).resolve_left h1
              exact .inr (.inr ⟨q, by simpa using h1, by simpa using h2.1, decide_eq_true (by omega)⟩)
        subst hRp
        clear hbd hC
        rcases qq with q1 | ⟨q1, q2⟩ | ⟨q1, q2, q3, q4⟩
        all_goals
          go_wp2_with (go_at_call 36; refine (hrd _).mono ?_; rintro e w' ⟨rfl, hB2⟩; replace hB := hB.trans (hB2.mono hB.size); clear hB2)
          go_ret
          exact ⟨rfl, hB⟩
      · have hC2 := Lib.hid (show cleanAt s.data.toList g (pos + n) = R by rw [← hC.out, cleanAt_good g (by omega) (by rw [← HN.out, ← HC.out]; exact hbd), HN.out])
        have hn0 : n ≠ 0 := fun e => hbd (.inl e)
        have q1 : ((n : Int) == 0) = false := by rw [beq_eq_false_iff_ne]; omega
        have q2 : (c == 0) = false := by simpa using fun e => hbd (.inr (.inl e))
        have qq : (c == 65279) = false ∨ ((c == 65279) = true ∧ decide (0 < pos) = false) := by
          by_cases h : c = 65279
          · exact .inr ⟨by simpa using h, decide_eq_false fun h2 => hbd (.inr (.inr ⟨h, by omega⟩))⟩
          · exact .inl (by simpa using h)
        clear hbd hC
        rcases qq with q3 | ⟨q3, q4⟩
        all_goals
          go_wp2_with (go_at_call 36; refine (hrd _).mono ?_; rintro e w' ⟨rfl, hB2⟩; replace hB := hB.trans (hB2.mono hB.size); clear hB2)
          go_roundw
          case rel => exact ⟨pos + n, g, by omega, by go_num, hC2, by omega, hB⟩
          case measure => simp [intOf]; omega
    · have i1 : ¬ (pos : Int) < s.size := by omega
      have hRp : R = -1 := by rw [← hC.out]; exact cleanAt_end _ _ _ (by rw [hl]; exact hp)
      subst hRp
      clear hC
      go_wp2
      go_ret
      exact ⟨rfl, hB⟩
/-- the sorts of characters that the document's run goes by -/
def sortP (n : Int) (r : Int) : Bool := if n = 0 then decide (r = 9 ∨ r = 10 ∨ r = 13 ∨ r = 32) else (inside letters r || inside digits r)
set_option maxHeartbeats 4000000 in
theorem run_any (s : ByteArray) (hs : s.size ≤ maxLen) (a : Nat) (ha : a ≤ s.size) (k : Int) (hk : k = 0 ∨ k = 1) (w : World) :
    Calls Tryz.prog 38 #[.string s, .int .i64 a, .int .i64 k] w fun e w' => e = .returned (.int .i64 (spanAt (sortP k) s.data.toList s.size a)) ∧ Below w.heap.size w w' := by
  have hl : s.data.toList.length = s.size := by simp
  obtain ⟨R, hR⟩ : ∃ R, R = spanAt (sortP k) s.data.toList s.size a := ⟨_, rfl⟩
  rw [← hR]
  have HR := Lib.hid hR.symm
  have hs' := hs
  unfold maxLen at hs
  clear hR
  go_enter Tryz.func38, Tryz.ntmps38
  go_wp2
  go_loopw [1] (fun iv wr => ∃ (pos f : Nat), pos ≤ s.size ∧ iv = .int .i64 pos ∧ Hid (spanAt (sortP k) s.data.toList f pos = R) ∧ s.size ≤ pos + f ∧ Below w.heap.size w wr) (fun iv _ => s.size - (intOf iv).toNat)
  case atStart => exact ⟨a, s.size, ha, rfl, HR, by omega, Below.refl _ _⟩
  case round =>
    obtain ⟨pos, f, hps, rfl, hC, hf, hB⟩ := hrel
    by_cases hp : pos < s.size
    · have i1 : (pos : Int) < s.size := by omega
      obtain ⟨g, rfl⟩ : ∃ g, f = g + 1 := ⟨f - 1, by omega⟩
      have hrd := fun w => rread_in s pos w hs' hp
      obtain ⟨c, hc⟩ : ∃ c, c = chr (s.data.toList.drop pos) := ⟨_, rfl⟩
      obtain ⟨n, hn⟩ : ∃ n, n = wide (s.data.toList.drop pos) := ⟨_, rfl⟩
      rw [← hc, ← hn] at hrd
      have hdw := drop_wide (l := s.data.toList) (pos := pos) (by omega)
      rw [← hn, hl] at hdw
      have hbl := fun w => rblank_any c w
      have hle := fun w => rletter_any c w
      have hdi := fun w => rdigit_any c w
      have HC := Lib.hid hc
      have HN := Lib.hid hn
      clear hc hn
      by_cases hbd : n = 0 ∨ sortP k c = false
      · have hRp : R = pos := by rw [← hC.out, spanAt_stop _ (by rw [← HN.out, ← HC.out]; exact hbd)]
        subst hRp
        clear hC
        by_cases h0 : n = 0
        · have q1 : ((n : Int) == 0) = true := by rw [beq_iff_eq]; omega
          clear hbd h0
          rcases hk with rfl | rfl
          all_goals
            go_wp2_with (first
              | (go_at_call 36; refine (hrd _).mono ?_; rintro e w' ⟨rfl, hB2⟩; replace hB := hB.trans (hB2.mono hB.size); clear hB2)
              | fail)
            go_ret
            exact ⟨rfl, hB⟩
        · have q1 : ((n : Int) == 0) = false := by rw [beq_eq_false_iff_ne]; omega
          have hsp := hbd.resolve_left h0
          clear hbd h0
          rcases hk with rfl | rfl
          · have h2 : decide (c = 9 ∨ c = 10 ∨ c = 13 ∨ c = 32) = false := hsp
            rw [h2] at hbl
            clear h2 hsp
            go_wp2_with (first
              | (go_at_call 36; refine (hrd _).mono ?_; rintro e w' ⟨rfl, hB2⟩; replace hB := hB.trans (hB2.mono hB.size); clear hB2)
              | (go_at_call 37; refine (hbl _).mono ?_; rintro e w' ⟨rfl, hw⟩; rw [← hw]; clear hw))
            go_ret
            exact ⟨rfl, hB⟩
          · have h2 : (inside letters c || inside digits c) = false := hsp
            rw [Bool.or_eq_false_iff] at h2
            rw [h2.1] at hle
            rw [h2.2] at hdi
            clear h2 hsp
            go_wp2_with (first
              | (go_at_call 36; refine (hrd _).mono ?_; rintro e w' ⟨rfl, hB2⟩; replace hB := hB.trans (hB2.mono hB.size); clear hB2)
              | (go_at_call 40; refine (hle _).mono ?_; rintro e w' ⟨rfl, hB2⟩; replace hB := hB.trans (hB2.mono hB.size); clear hB2)
              | (go_at_call 58; refine (hdi _).mono ?_; rintro e w' ⟨rfl, hB2⟩; replace hB := hB.trans (hB2.mono hB.size); clear hB2))
            go_ret
            exact ⟨rfl, hB⟩
      · have hC2 := Lib.hid (show spanAt (sortP k) s.data.toList g (pos + n) = R by rw [← hC.out, spanAt_goes g (by omega) (by rw [← HN.out, ← HC.out]; exact hbd), HN.out])
        have hn0 : n ≠ 0 := fun e => hbd (.inl e)
        have q1 : ((n : Int) == 0) = false := by rw [beq_eq_false_iff_ne]; omega
        have hsp : sortP k c = true := by
          cases h : sortP k c with
          | true => rfl
          | false => exact absurd (.inr h) hbd
        clear hbd hC
        rcases hk with rfl | rfl
        · have h2 : decide (c = 9 ∨ c = 10 ∨ c = 13 ∨ c = 32) = true := hsp
          rw [h2] at hbl
          clear h2 hsp
          go_wp2_with (first
            | (go_at_call 36; refine (hrd _).mono ?_; rintro e w' ⟨rfl, hB2⟩; replace hB := hB.trans (hB2.mono hB.size); clear hB2)
            | (go_at_call 37; refine (hbl _).mono ?_; rintro e w' ⟨rfl, hw⟩; rw [← hw]; clear hw))
          go_roundw
          case rel => exact ⟨pos + n, g, by omega, by go_num, hC2, by omega, hB⟩
          case measure => simp [intOf]; omega
        · have h2 : (inside letters c || inside digits c) = true := hsp
          obtain ⟨x, hx⟩ : ∃ x, x = inside letters c := ⟨_, rfl⟩
          obtain ⟨y, hy⟩ : ∃ y, y = inside digits c := ⟨_, rfl⟩
          rw [← hx] at hle h2
          rw [← hy] at hdi h2
          clear hx hy hsp
          cases x with
          | true =>
            clear h2
            go_wp2_with (first
              | (go_at_call 36; refine (hrd _).mono ?_; rintro e w' ⟨rfl, hB2⟩; replace hB := hB.trans (hB2.mono hB.size); clear hB2)
              | (go_at_call 40; refine (hle _).mono ?_; rintro e w' ⟨rfl, hB2⟩; replace hB := hB.trans (hB2.mono hB.size); clear hB2))
            go_roundw
            case rel => exact ⟨pos + n, g, by omega, by go_num, hC2, by omega, hB⟩
            case measure => simp [intOf]; omega
          | false =>
            have hy : y = true := by simpa using h2
            subst hy
            clear h2
            go_wp2_with (first
              | (go_at_call 36; refine (hrd _).mono ?_; rintro e w' ⟨rfl, hB2⟩; replace hB := hB.trans (hB2.mono hB.size); clear hB2)
              | (go_at_call 40; refine (hle _).mono ?_; rintro e w' ⟨rfl, hB2⟩; replace hB := hB.trans (hB2.mono hB.size); clear hB2)
              | (go_at_call 58; refine (hdi _).mono ?_; rintro e w' ⟨rfl, hB2⟩; replace hB := hB.trans (hB2.mono hB.size); clear hB2))
            go_roundw
            case rel => exact ⟨pos + n, g, by omega, by go_num, hC2, by omega, hB⟩
            case measure => simp [intOf]; omega
    · have i1 : ¬ (pos : Int) < s.size := by omega
      have hRp : R = pos := by rw [← hC.out]; exact spanAt_end _ _ _ _ (by rw [hl]; exact hp)
      subst hRp
      clear hC
      go_wp2
      go_ret
      exact ⟨rfl, hB⟩
end Go.Proofs.YtbkmlldhjchhjaaGreat

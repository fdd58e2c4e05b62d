/-
  Layer 7: contracts of scan.One and of the document's One.
-/
import Derived.Test.YtbkmlldhjchhjaaSm
namespace Go.Proofs.Ytbkmlldhjchhjaa
open Go.ChangeShapes Go.WideShapes Go.ChangeAt Go.RowKit

theorem cleanAt_ge (l : List UInt8) : ∀ f p, cleanAt l f p = -1 ∨ 0 ≤ cleanAt l f p
  | 0, p => .inl rfl
  | f + 1, p => by
    unfold cleanAt
    split
    · split
      · exact .inr (by omega)
      · exact cleanAt_ge l f _
    · exact .inl rfl
/-- a clean text is clean from each of its characters on -/
theorem clean_sub (l : List UInt8) : ∀ f pos p g, cleanAt l f pos = -1 → l.length - pos ≤ f → pos ≤ p → (l.length ≤ p ∨ wide (l.drop p) ≠ 0) → l.length - p ≤ g → cleanAt l g p = -1
  | 0, pos, p, g, _, hf, hp, _, _ => cleanAt_end l g p (by omega)
  | f + 1, pos, p, g, hc, hf, hp, hw, hg => by
    by_cases hpl : l.length ≤ p
    · exact cleanAt_end l g p (by omega)
    · have hw' := hw.resolve_left hpl
      by_cases he : p = pos
      · subst he
        rw [← cleanAt_fuel l (f + 1) g p hf hg]; exact hc
      · obtain ⟨h1, _, _, h4⟩ := clean_step hc (by omega)
        by_cases hlt : p < pos + wide (l.drop pos)
        · have h0 := within_none h1 (j := p - pos) (by omega) (by omega)
          rw [List.drop_drop, show pos + (p - pos) = p by omega] at h0
          exact absurd h0 hw'
        · exact clean_sub l f _ p g h4 (by omega) (by omega) hw hg
def zeroTok : Array Value := #[.int .u8 0, .int .i64 0, .int .i64 0]
theorem tokRow_size (a : Nat) (p : Nat × Nat) : (tokRow a p).size = 3 := by unfold tokRow; split <;> rfl
theorem tokRow_all (a : Nat) (p : Nat × Nat) : (tokRow a p).all (·.oneCell') = true := by unfold tokRow; split <;> simp [Value.oneCell']
/-- the lexeme at a place, and the error, in the document's words -/
def oneAns (l : List UInt8) (x : Int) : Array Value × Int :=
  if x < 0 ∨ (l.length : Int) ≤ x then (zeroTok, 1)
  else if wide (l.drop x.toNat) = 0 ∨ 0 ≤ cleanAt l l.length 0 then (zeroTok, 3)
  else (tokRow x.toNat (lexV l x.toNat), tokErr (lexV l x.toNat))
def oneV (p : Array Value × Int) : Value := .tuple #[.agg p.1, .int .i64 p.2]
set_option maxHeartbeats 8000000 in
theorem one_any (s : ByteArray) (hs : s.size ≤ 4294967280) (x : Int) (w : World) (hM : Mx w) :
    Calls Try.prog 20 #[.string s, .int .i64 x] w fun e w' => e = .returned (oneV (oneAns s.data.toList x)) ∧ Below w.heap.size w w' := by
  have HM := Lib.hid (hM.alloc (.cells #[.int .u8 0, .int .i64 0, .int .i64 0] 26))
  have hB0 : Below w.heap.size w (w.alloc (.cells #[.int .u8 0, .int .i64 0, .int .i64 0] 26)) := (Below.refl _ _).alloc (Nat.le_refl _) _
  have hh0 : (w.alloc (.cells #[.int .u8 0, .int .i64 0, .int .i64 0] 26)).heap[w.heap.size]? = some (.cells #[.int .u8 0, .int .i64 0, .int .i64 0] 26) := by
    show (w.heap.push _)[w.heap.size]? = _
    simp
  have hz0 : (w.alloc (.cells #[.int .u8 0, .int .i64 0, .int .i64 0] 26)).heap.size = w.heap.size + 1 := by simp
  have HB0 := Lib.hid hB0
  have HH0 := Lib.hid hh0
  have HZ0 := Lib.hid hz0
  clear hB0 hh0 hz0
  have hl : s.data.toList.length = s.size := by simp
  by_cases h0 : x < 0
  · have hA : oneV (oneAns s.data.toList x) = .tuple #[.agg #[.int .u8 0, .int .i64 0, .int .i64 0], .int .i64 1] := by unfold oneAns; rw [if_pos (.inl h0)]; rfl
    rw [hA]
    clear hA hM
    go_enter Try.func20, Try.ntmps20
    go_wp2_with (first
      | (refine wpList_store_rowTo rfl 26 (.tmp 4) (.tmp 16) rfl rfl w.heap.size #[.int .u8 0, .int .i64 0, .int .i64 0] rfl rfl 26 #[.int .u8 0, .int .i64 0, .int .i64 0] HH0.out info26 rfl (by simp [Value.oneCell']) ?_))
    (try simp only [Exit.inBlock, Exit.then])
    refine bodyPost_ret (v := .tuple #[.agg #[.int .u8 0, .int .i64 0, .int .i64 0], .int .i64 1]) (results_row_tmp rfl _ _ w.heap.size #[.int .u8 0, .int .i64 0, .int .i64 0] (.int .i64 1) rfl rfl (run_loadVar_row _ w.heap.size 26 26 #[.int .u8 0, .int .i64 0, .int .i64 0] (0, 0) _ (setRow_heap _ _ _ _ _ _ HH0.out) Try.underlying26 rfl info26)) rfl ⟨rfl, below_setRow HB0.out (Nat.le_refl _) _⟩
  by_cases h1 : (s.size : Int) ≤ x
  · have hA : oneV (oneAns s.data.toList x) = .tuple #[.agg #[.int .u8 0, .int .i64 0, .int .i64 0], .int .i64 1] := by unfold oneAns; rw [if_pos (.inr (by rw [hl]; exact h1))]; rfl
    rw [hA]
    clear hA hM
    go_enter Try.func20, Try.ntmps20
    go_wp2_with (first
      | (refine wpList_store_rowTo rfl 26 (.tmp 4) (.tmp 16) rfl rfl w.heap.size #[.int .u8 0, .int .i64 0, .int .i64 0] rfl rfl 26 #[.int .u8 0, .int .i64 0, .int .i64 0] HH0.out info26 rfl (by simp [Value.oneCell']) ?_))
    (try simp only [Exit.inBlock, Exit.then])
    refine bodyPost_ret (v := .tuple #[.agg #[.int .u8 0, .int .i64 0, .int .i64 0], .int .i64 1]) (results_row_tmp rfl _ _ w.heap.size #[.int .u8 0, .int .i64 0, .int .i64 0] (.int .i64 1) rfl rfl (run_loadVar_row _ w.heap.size 26 26 #[.int .u8 0, .int .i64 0, .int .i64 0] (0, 0) _ (setRow_heap _ _ _ _ _ _ HH0.out) Try.underlying26 rfl info26)) rfl ⟨rfl, below_setRow HB0.out (Nat.le_refl _) _⟩
  obtain ⟨a, rfl⟩ : ∃ a : Nat, x = a := ⟨x.toNat, by omega⟩
  have ha : a < s.size := by omega
  have hor : ¬ ((a : Int) < 0 ∨ (s.data.toList.length : Int) ≤ a) := by rw [hl]; omega
  have hrd := fun w => read_any s (a : Int) w (by unfold maxLen; omega) (s.data.toList.drop a) (by rw [if_pos (by omega)]; simp)
  obtain ⟨c, hc⟩ : ∃ c, c = chr (s.data.toList.drop a) := ⟨_, rfl⟩
  obtain ⟨n, hn⟩ : ∃ n, n = wide (s.data.toList.drop a) := ⟨_, rfl⟩
  rw [← hc, ← hn] at hrd
  clear hc
  by_cases hn0 : n = 0
  · have hA : oneV (oneAns s.data.toList a) = .tuple #[.agg #[.int .u8 0, .int .i64 0, .int .i64 0], .int .i64 3] := by unfold oneAns; rw [if_neg hor, Int.toNat_natCast, if_pos (.inl (by rw [← hn]; exact hn0))]; rfl
    rw [hA]
    have q : ((n : Int) == 0) = true := by rw [hn0]; rfl
    clear hA hM hn hn0 hor
    go_enter Try.func20, Try.ntmps20
    go_wp2_with (first
      | (go_at_call 39; refine (hrd _).mono ?_; rintro e w1 ⟨rfl, hB⟩)
      | (refine wpList_store_rowTo rfl 26 (.tmp 4) (.tmp 30) rfl rfl w.heap.size #[.int .u8 0, .int .i64 0, .int .i64 0] rfl rfl 26 #[.int .u8 0, .int .i64 0, .int .i64 0] ((hB.block w.heap.size (by rw [HZ0.out]; omega)).trans HH0.out) info26 rfl (by simp [Value.oneCell']) ?_))
    (try simp only [Exit.inBlock, Exit.then])
    refine bodyPost_ret (v := .tuple #[.agg #[.int .u8 0, .int .i64 0, .int .i64 0], .int .i64 3]) (results_row_tmp rfl _ _ w.heap.size #[.int .u8 0, .int .i64 0, .int .i64 0] (.int .i64 3) rfl rfl (run_loadVar_row _ w.heap.size 26 26 #[.int .u8 0, .int .i64 0, .int .i64 0] (0, 0) _ (setRow_heap _ _ _ _ _ _ ((hB.block w.heap.size (by rw [HZ0.out]; omega)).trans HH0.out)) Try.underlying26 rfl info26)) rfl ⟨rfl, below_setRow (HB0.out.trans (hB.mono (by rw [HZ0.out]; omega))) (Nat.le_refl _) _⟩
  have q : ((n : Int) == 0) = false := by simpa using hn0
  have hcn := fun w => clean_any s (by unfold maxLen; omega) w
  rcases cleanAt_ge s.data.toList s.size 0 with hcl | hcl
  · have hA : oneV (oneAns s.data.toList a) = .tuple #[.agg (tokRow a (lexV s.data.toList a)), .int .i64 (tokErr (lexV s.data.toList a))] := by unfold oneAns; rw [if_neg hor, Int.toNat_natCast, if_neg (by rw [← hn, hl, hcl]; omega)]; rfl
    rw [hA]
    rw [hcl] at hcn
    have hsub := clean_sub s.data.toList s.size 0 a s.size hcl (by omega) (by omega) (.inr (by rw [← hn]; exact hn0)) (by omega)
    have hlx := fun w hM => plexeme_any s hs a ha s.size (by omega) hsub w hM
    obtain ⟨T, hT⟩ : ∃ T, T = tokRow a (lexV s.data.toList a) := ⟨_, rfl⟩
    obtain ⟨E, hE⟩ : ∃ E, E = tokErr (lexV s.data.toList a) := ⟨_, rfl⟩
    rw [← hT, ← hE] at hlx
    rw [← hT, ← hE]
    have HT := Lib.hid hT
    clear hA hM hn hn0 hor hT hE hsub hcl
    go_enter Try.func20, Try.ntmps20
    go_wp2_with (first
      | (go_at_call 39; refine (hrd _).mono ?_; rintro e w1 ⟨rfl, hB⟩)
      | (go_at_call 18; refine (hcn _).mono ?_; rintro e w2 ⟨rfl, hB2⟩; replace hB := hB.trans (hB2.mono hB.size); clear hB2)
      | (go_at_call 40; refine (hlx _ (HM.out.below hB HM.out.lt)).mono ?_; rintro e w2 ⟨rfl, hB2⟩; replace hB := hB.trans (hB2.mono hB.size); clear hB2)
      | (refine wpList_store_rowTo rfl 26 (.tmp 4) (.tmp 34) rfl rfl w.heap.size T rfl rfl 26 #[.int .u8 0, .int .i64 0, .int .i64 0] ((hB.block w.heap.size (by rw [HZ0.out]; omega)).trans HH0.out) (by rw [HT.out, tokRow_size]; exact info26) (by rw [HT.out, tokRow_size]; rfl) (by rw [HT.out]; exact tokRow_all _ _) ?_))
    (try simp only [Exit.inBlock, Exit.then])
    refine bodyPost_ret (v := .tuple #[.agg T, .int .i64 E]) (results_row_tmp rfl _ _ w.heap.size T (.int .i64 E) rfl rfl (run_loadVar_row _ w.heap.size 26 26 T (0, 0) _ (setRow_heap _ _ _ _ _ _ ((hB.block w.heap.size (by rw [HZ0.out]; omega)).trans HH0.out)) Try.underlying26 rfl (by rw [HT.out, tokRow_size]; exact info26))) rfl ⟨rfl, below_setRow (HB0.out.trans (hB.mono (by rw [HZ0.out]; omega))) (Nat.le_refl _) _⟩
  · have hA : oneV (oneAns s.data.toList a) = .tuple #[.agg #[.int .u8 0, .int .i64 0, .int .i64 0], .int .i64 3] := by unfold oneAns; rw [if_neg hor, Int.toNat_natCast, if_pos (.inr (by rw [hl]; exact hcl))]; rfl
    rw [hA]
    obtain ⟨C, hC⟩ : ∃ C, C = cleanAt s.data.toList s.size 0 := ⟨_, rfl⟩
    rw [← hC] at hcn hcl
    clear hA hM hn hn0 hor hC
    go_enter Try.func20, Try.ntmps20
    go_wp2_with (first
      | (go_at_call 39; refine (hrd _).mono ?_; rintro e w1 ⟨rfl, hB⟩)
      | (go_at_call 18; refine (hcn _).mono ?_; rintro e w2 ⟨rfl, hB2⟩; replace hB := hB.trans (hB2.mono hB.size); clear hB2)
      | (refine wpList_store_rowTo rfl 26 (.tmp 4) (.tmp 30) rfl rfl w.heap.size #[.int .u8 0, .int .i64 0, .int .i64 0] rfl rfl 26 #[.int .u8 0, .int .i64 0, .int .i64 0] ((hB.block w.heap.size (by rw [HZ0.out]; omega)).trans HH0.out) info26 rfl (by simp [Value.oneCell']) ?_))
    (try simp only [Exit.inBlock, Exit.then])
    refine bodyPost_ret (v := .tuple #[.agg #[.int .u8 0, .int .i64 0, .int .i64 0], .int .i64 3]) (results_row_tmp rfl _ _ w.heap.size #[.int .u8 0, .int .i64 0, .int .i64 0] (.int .i64 3) rfl rfl (run_loadVar_row _ w.heap.size 26 26 #[.int .u8 0, .int .i64 0, .int .i64 0] (0, 0) _ (setRow_heap _ _ _ _ _ _ ((hB.block w.heap.size (by rw [HZ0.out]; omega)).trans HH0.out)) Try.underlying26 rfl info26)) rfl ⟨rfl, below_setRow (HB0.out.trans (hB.mono (by rw [HZ0.out]; omega))) (Nat.le_refl _) _⟩
set_option maxHeartbeats 8000000 in
theorem rone_any (s : ByteArray) (hs : s.size ≤ 1048576) (x : Int) (w : World) :
    Calls Try.prog 21 #[.string s, .int .i64 x] w fun e w' => e = .returned (oneV (oneAns s.data.toList x)) ∧ Below w.heap.size w w' := by
  have hB0 : Below w.heap.size w (w.alloc (.cells #[.int .u8 0, .int .i64 0, .int .i64 0] 26)) := (Below.refl _ _).alloc (Nat.le_refl _) _
  have hh0 : (w.alloc (.cells #[.int .u8 0, .int .i64 0, .int .i64 0] 26)).heap[w.heap.size]? = some (.cells #[.int .u8 0, .int .i64 0, .int .i64 0] 26) := by
    show (w.heap.push _)[w.heap.size]? = _
    simp
  have hz0 : (w.alloc (.cells #[.int .u8 0, .int .i64 0, .int .i64 0] 26)).heap.size = w.heap.size + 1 := by simp
  have HB0 := Lib.hid hB0
  have HH0 := Lib.hid hh0
  have HZ0 := Lib.hid hz0
  clear hB0 hh0 hz0
  have hl : s.data.toList.length = s.size := by simp
  by_cases h0 : x < 0
  · have hA : oneV (oneAns s.data.toList x) = .tuple #[.agg #[.int .u8 0, .int .i64 0, .int .i64 0], .int .i64 1] := by unfold oneAns; rw [if_pos (.inl h0)]; rfl
    rw [hA]
    clear hA
    go_enter Try.func21, Try.ntmps21
    go_wp2_with (first
      | (refine wpList_store_rowTo rfl 26 (.tmp 4) (.tmp 16) rfl rfl w.heap.size #[.int .u8 0, .int .i64 0, .int .i64 0] rfl rfl 26 #[.int .u8 0, .int .i64 0, .int .i64 0] HH0.out info26 rfl (by simp [Value.oneCell']) ?_))
    (try simp only [Exit.inBlock, Exit.then])
    refine bodyPost_ret (v := .tuple #[.agg #[.int .u8 0, .int .i64 0, .int .i64 0], .int .i64 1]) (results_row_tmp rfl _ _ w.heap.size #[.int .u8 0, .int .i64 0, .int .i64 0] (.int .i64 1) rfl rfl (run_loadVar_row _ w.heap.size 26 26 #[.int .u8 0, .int .i64 0, .int .i64 0] (0, 0) _ (setRow_heap _ _ _ _ _ _ HH0.out) Try.underlying26 rfl info26)) rfl ⟨rfl, below_setRow HB0.out (Nat.le_refl _) _⟩
  by_cases h1 : (s.size : Int) ≤ x
  · have hA : oneV (oneAns s.data.toList x) = .tuple #[.agg #[.int .u8 0, .int .i64 0, .int .i64 0], .int .i64 1] := by unfold oneAns; rw [if_pos (.inr (by rw [hl]; exact h1))]; rfl
    rw [hA]
    clear hA
    go_enter Try.func21, Try.ntmps21
    go_wp2_with (first
      | (refine wpList_store_rowTo rfl 26 (.tmp 4) (.tmp 16) rfl rfl w.heap.size #[.int .u8 0, .int .i64 0, .int .i64 0] rfl rfl 26 #[.int .u8 0, .int .i64 0, .int .i64 0] HH0.out info26 rfl (by simp [Value.oneCell']) ?_))
    (try simp only [Exit.inBlock, Exit.then])
    refine bodyPost_ret (v := .tuple #[.agg #[.int .u8 0, .int .i64 0, .int .i64 0], .int .i64 1]) (results_row_tmp rfl _ _ w.heap.size #[.int .u8 0, .int .i64 0, .int .i64 0] (.int .i64 1) rfl rfl (run_loadVar_row _ w.heap.size 26 26 #[.int .u8 0, .int .i64 0, .int .i64 0] (0, 0) _ (setRow_heap _ _ _ _ _ _ HH0.out) Try.underlying26 rfl info26)) rfl ⟨rfl, below_setRow HB0.out (Nat.le_refl _) _⟩
  obtain ⟨a, rfl⟩ : ∃ a : Nat, x = a := ⟨x.toNat, by omega⟩
  have ha : a < s.size := by omega
  have hor : ¬ ((a : Int) < 0 ∨ (s.data.toList.length : Int) ≤ a) := by rw [hl]; omega
  have hcn := fun w => rclean_any s (by unfold maxLen; omega) w
  rcases cleanAt_ge s.data.toList s.size 0 with hcl | hcl
  · rw [hcl] at hcn
    have hbg := fun w => rbegins_any s (by unfold maxLen; omega) a ha hcl w
    by_cases hn0 : wide (s.data.toList.drop a) = 0
    · have hA : oneV (oneAns s.data.toList a) = .tuple #[.agg #[.int .u8 0, .int .i64 0, .int .i64 0], .int .i64 3] := by unfold oneAns; rw [if_neg hor, Int.toNat_natCast, if_pos (.inl hn0)]; rfl
      rw [hA]
      rw [decide_eq_false (by simpa using hn0)] at hbg
      clear hA hn0 hor hcl
      go_enter Try.func21, Try.ntmps21
      go_wp2_with (first
        | (go_at_call 19; refine (hcn _).mono ?_; rintro e w1 ⟨rfl, hB⟩)
        | (go_at_call 41; refine (hbg _).mono ?_; rintro e w2 ⟨rfl, hB2⟩; replace hB := hB.trans (hB2.mono hB.size); clear hB2)
        | (refine wpList_store_rowTo rfl 26 (.tmp 4) (.tmp 26) rfl rfl w.heap.size #[.int .u8 0, .int .i64 0, .int .i64 0] rfl rfl 26 #[.int .u8 0, .int .i64 0, .int .i64 0] ((hB.block w.heap.size (by rw [HZ0.out]; omega)).trans HH0.out) info26 rfl (by simp [Value.oneCell']) ?_))
      (try simp only [Exit.inBlock, Exit.then])
      refine bodyPost_ret (v := .tuple #[.agg #[.int .u8 0, .int .i64 0, .int .i64 0], .int .i64 3]) (results_row_tmp rfl _ _ w.heap.size #[.int .u8 0, .int .i64 0, .int .i64 0] (.int .i64 3) rfl rfl (run_loadVar_row _ w.heap.size 26 26 #[.int .u8 0, .int .i64 0, .int .i64 0] (0, 0) _ (setRow_heap _ _ _ _ _ _ ((hB.block w.heap.size (by rw [HZ0.out]; omega)).trans HH0.out)) Try.underlying26 rfl info26)) rfl ⟨rfl, below_setRow (HB0.out.trans (hB.mono (by rw [HZ0.out]; omega))) (Nat.le_refl _) _⟩
    · have hA : oneV (oneAns s.data.toList a) = .tuple #[.agg (tokRow a (lexV s.data.toList a)), .int .i64 (tokErr (lexV s.data.toList a))] := by unfold oneAns; rw [if_neg hor, Int.toNat_natCast, if_neg (by rw [hl, hcl]; omega)]; rfl
      rw [hA]
      rw [decide_eq_true hn0] at hbg
      have hlx := fun w => lexeme_any s hs a ha w
      obtain ⟨p, hp⟩ : ∃ p, p = lexV s.data.toList a := ⟨_, rfl⟩
      rw [← hp] at hlx ⊢
      clear hA hn0 hor hcl hp
      obtain ⟨k, z⟩ := p
      unfold lexAns at hlx
      by_cases hk : k = 0
      · have q : ((k : Int) == 0) = true := by rw [hk]; rfl
        rw [show tokRow a (k, z) = #[.int .u8 0, .int .i64 0, .int .i64 0] by unfold tokRow; rw [if_pos hk], show tokErr (k, z) = 4 by unfold tokErr; rw [if_pos hk]]
        clear hk
        go_enter Try.func21, Try.ntmps21
        go_wp2_with (first
          | (go_at_call 19; refine (hcn _).mono ?_; rintro e w1 ⟨rfl, hB⟩)
          | (go_at_call 41; refine (hbg _).mono ?_; rintro e w2 ⟨rfl, hB2⟩; replace hB := hB.trans (hB2.mono hB.size); clear hB2)
          | (go_at_call 42; refine (hlx _).mono ?_; rintro e w2 ⟨rfl, hB2⟩; replace hB := hB.trans (hB2.mono hB.size); clear hB2)
          | (refine wpList_store_rowTo rfl 26 (.tmp 4) (.tmp 35) rfl rfl w.heap.size #[.int .u8 0, .int .i64 0, .int .i64 0] rfl rfl 26 #[.int .u8 0, .int .i64 0, .int .i64 0] ((hB.block w.heap.size (by rw [HZ0.out]; omega)).trans HH0.out) info26 rfl (by simp [Value.oneCell']) ?_))
        (try simp only [Exit.inBlock, Exit.then])
        refine bodyPost_ret (v := .tuple #[.agg #[.int .u8 0, .int .i64 0, .int .i64 0], .int .i64 4]) (results_row_tmp rfl _ _ w.heap.size #[.int .u8 0, .int .i64 0, .int .i64 0] (.int .i64 4) rfl rfl (run_loadVar_row _ w.heap.size 26 26 #[.int .u8 0, .int .i64 0, .int .i64 0] (0, 0) _ (setRow_heap _ _ _ _ _ _ ((hB.block w.heap.size (by rw [HZ0.out]; omega)).trans HH0.out)) Try.underlying26 rfl info26)) rfl ⟨rfl, below_setRow (HB0.out.trans (hB.mono (by rw [HZ0.out]; omega))) (Nat.le_refl _) _⟩
      · have q : ((k : Int) == 0) = false := by simpa using hk
        rw [show tokRow a (k, z) = #[.int .u8 k, .int .i64 a, .int .i64 z] by unfold tokRow; rw [if_neg hk], show tokErr (k, z) = 0 by unfold tokErr; rw [if_neg hk]]
        clear hk
        go_enter Try.func21, Try.ntmps21
        go_wp2_with (first
          | (go_at_call 19; refine (hcn _).mono ?_; rintro e w1 ⟨rfl, hB⟩)
          | (go_at_call 41; refine (hbg _).mono ?_; rintro e w2 ⟨rfl, hB2⟩; replace hB := hB.trans (hB2.mono hB.size); clear hB2)
          | (go_at_call 42; refine (hlx _).mono ?_; rintro e w2 ⟨rfl, hB2⟩; replace hB := hB.trans (hB2.mono hB.size); clear hB2)
          | (refine wpList_store_rowTo rfl 26 (.tmp 4) (.tmp 39) rfl rfl w.heap.size #[.int .u8 k, .int .i64 a, .int .i64 z] rfl rfl 26 #[.int .u8 0, .int .i64 0, .int .i64 0] ((hB.block w.heap.size (by rw [HZ0.out]; omega)).trans HH0.out) info26 rfl (by simp [Value.oneCell']) ?_))
        (try simp only [Exit.inBlock, Exit.then])
        refine bodyPost_ret (v := .tuple #[.agg #[.int .u8 k, .int .i64 a, .int .i64 z], .int .i64 0]) (results_row_tmp rfl _ _ w.heap.size #[.int .u8 k, .int .i64 a, .int .i64 z] (.int .i64 0) rfl rfl (run_loadVar_row _ w.heap.size 26 26 #[.int .u8 k, .int .i64 a, .int .i64 z] (0, 0) _ (setRow_heap _ _ _ _ _ _ ((hB.block w.heap.size (by rw [HZ0.out]; omega)).trans HH0.out)) Try.underlying26 rfl info26)) rfl ⟨rfl, below_setRow (HB0.out.trans (hB.mono (by rw [HZ0.out]; omega))) (Nat.le_refl _) _⟩
  · have hA : oneV (oneAns s.data.toList a) = .tuple #[.agg #[.int .u8 0, .int .i64 0, .int .i64 0], .int .i64 3] := by unfold oneAns; rw [if_neg hor, Int.toNat_natCast, if_pos (.inr (by rw [hl]; exact hcl))]; rfl
    rw [hA]
    obtain ⟨C, hC⟩ : ∃ C, C = cleanAt s.data.toList s.size 0 := ⟨_, rfl⟩
    rw [← hC] at hcn hcl
    clear hA hor hC
    go_enter Try.func21, Try.ntmps21
    go_wp2_with (first
      | (go_at_call 19; refine (hcn _).mono ?_; rintro e w1 ⟨rfl, hB⟩)
      | (refine wpList_store_rowTo rfl 26 (.tmp 4) (.tmp 26) rfl rfl w.heap.size #[.int .u8 0, .int .i64 0, .int .i64 0] rfl rfl 26 #[.int .u8 0, .int .i64 0, .int .i64 0] ((hB.block w.heap.size (by rw [HZ0.out]; omega)).trans HH0.out) info26 rfl (by simp [Value.oneCell']) ?_))
    (try simp only [Exit.inBlock, Exit.then])
    refine bodyPost_ret (v := .tuple #[.agg #[.int .u8 0, .int .i64 0, .int .i64 0], .int .i64 3]) (results_row_tmp rfl _ _ w.heap.size #[.int .u8 0, .int .i64 0, .int .i64 0] (.int .i64 3) rfl rfl (run_loadVar_row _ w.heap.size 26 26 #[.int .u8 0, .int .i64 0, .int .i64 0] (0, 0) _ (setRow_heap _ _ _ _ _ _ ((hB.block w.heap.size (by rw [HZ0.out]; omega)).trans HH0.out)) Try.underlying26 rfl info26)) rfl ⟨rfl, below_setRow (HB0.out.trans (hB.mono (by rw [HZ0.out]; omega))) (Nat.le_refl _) _⟩
end Go.Proofs.Ytbkmlldhjchhjaa

/-
  Layer 4: contracts of the document's At, of lines.Off and of the document's Off.
-/
import Derived.Test.YthbjiecckehckabF
namespace Go.Proofs.Ythbjiecckehckab
open Go.ChangeShapes Go.WideShapes Go.ChangeAt Go.RowKit

set_option maxHeartbeats 4000000 in
theorem rat_any (s : ByteArray) (hs : s.size ≤ 1048576) (off : Int) (w : World) :
    Calls Try.prog 18 #[.string s, .int .i64 off] w fun e w' => e = .returned (.tuple #[.agg #[.int .i64 (atLine s off), .int .i64 (atCol s off)], .int .i64 (atErr s off)]) ∧ Below w.heap.size w w' := by
  by_cases hc : 0 ≤ off ∧ off ≤ s.size
  · obtain ⟨k, rfl⟩ : ∃ k : Nat, off = (k : Int) := ⟨off.toNat, by omega⟩
    have ht : atLine s k = (stK s.data.toList k).length := by unfold atLine; rw [if_pos hc, Int.toNat_natCast]
    have hr : atCol s k = k - lst s.data.toList k + 1 := by unfold atCol; rw [if_pos hc, Int.toNat_natCast]
    have he : atErr s k = 0 := by unfold atErr; rw [if_pos hc]
    rw [ht, hr, he]
    clear ht hr he
    have hk : k ≤ s.size := by omega
    go_enter Try.func18, Try.ntmps18
    go_wp2
    go_loopw [7] (fun i wr => ∃ (j : Nat) (l c : Int), j ≤ k ∧ i = .int .i64 j ∧ wr = (w.alloc (.cells #[.int .i64 0, .int .i64 0] 33)).alloc (.cells #[.int .i64 l, .int .i64 c] 33) ∧ l = (stK s.data.toList j).length ∧ c = (j : Int) - lst s.data.toList j + 1) (fun i _ => k - (intOf i).toNat)
    case atStart => exact ⟨0, 1, 1, Nat.zero_le _, rfl, rfl, rfl, rfl⟩
    case round =>
      obtain ⟨j, l, c, hjk, rfl, rfl, hl, hcc⟩ := hrel
      have hle := lst_le s.data.toList j
      have hln : (stK s.data.toList j).length ≤ 1048577 := by
        rw [stK_len]
        have h1 : (s.data.toList.take j).count 10 ≤ (s.data.toList.take j).length := List.count_le_length
        have h2 : (s.data.toList.take j).length ≤ j := List.length_take_le _ _
        omega
      by_cases hlt : j < k
      · have hjs : j < s.size := by omega
        have hb := get_byte s j hjs
        by_cases h10 : s[j] = 10
        · have hm : ((s[j].toNat : Int) == 10) = true := (is_ten _).2 h10
          rw [h10] at hb
          have hst : ((stK s.data.toList (j + 1)).length : Int) = l + 1 := by rw [stK, if_pos hb, hl]; simp
          have hls : ((j + 1 : Nat) : Int) - lst s.data.toList (j + 1) + 1 = 1 := by rw [lst, if_pos hb]; omega
          have hl2 : 0 ≤ l ∧ l ≤ 1048577 := by omega
          have hc2 : 0 ≤ c ∧ c ≤ 1048577 := by omega
          have HST := Lib.hid (And.intro hst hls)
          clear hst hls h10 hb hl hcc hln hle
          go_wp2
          go_roundw
          case rel => exact ⟨j + 1, l + 1, 1, by omega, by go_num, rfl, HST.out.1.symm, HST.out.2.symm⟩
          case measure => simp [intOf]; omega
        · have hm : ((s[j].toNat : Int) == 10) = false := not_ten _ h10
          have hst : ((stK s.data.toList (j + 1)).length : Int) = l := by rw [stK, hb, if_neg (by simpa using h10), List.append_nil, hl]
          have hls : ((j + 1 : Nat) : Int) - lst s.data.toList (j + 1) + 1 = c + 1 := by rw [lst, hb, if_neg (by simpa using h10)]; omega
          have hl2 : 0 ≤ l ∧ l ≤ 1048577 := by omega
          have hc2 : 0 ≤ c ∧ c ≤ 1048577 := by omega
          have HST := Lib.hid (And.intro hst hls)
          clear hst hls h10 hb hl hcc hln hle
          go_wp2
          go_roundw
          case rel => exact ⟨j + 1, l, c + 1, by omega, by go_num, rfl, HST.out.1.symm, HST.out.2.symm⟩
          case measure => simp [intOf]; omega
      · obtain rfl : j = k := by omega
        go_wp2
        (try simp only [Exit.inBlock, Exit.then])
        refine bodyPost_ret (v := .tuple #[.agg #[.int .i64 l, .int .i64 c], .int .i64 0]) (by rw [results_cell_tmp rfl]; go_simp) rfl ⟨by rw [hl, hcc], ?_⟩
        exact ((Below.refl _ _).alloc (Nat.le_refl _) _).alloc (by simp) _
  · have ht : atLine s off = 0 := by unfold atLine; rw [if_neg hc]
    have hr : atCol s off = 0 := by unfold atCol; rw [if_neg hc]
    have he : atErr s off = 1 := by unfold atErr; rw [if_neg hc]
    rw [ht, hr, he]
    clear ht hr he
    by_cases h1 : off < 0
    · go_enter Try.func18, Try.ntmps18
      go_wp2
      (try simp only [Exit.inBlock, Exit.then])
      refine bodyPost_ret (v := .tuple #[.agg #[.int .i64 0, .int .i64 0], .int .i64 1]) (by rw [results_cell_tmp rfl]; go_simp) rfl ⟨rfl, ?_⟩
      exact (Below.refl _ _).alloc (Nat.le_refl _) _
    · have h2 : (s.size : Int) < off := by omega
      go_enter Try.func18, Try.ntmps18
      go_wp2
      (try simp only [Exit.inBlock, Exit.then])
      refine bodyPost_ret (v := .tuple #[.agg #[.int .i64 0, .int .i64 0], .int .i64 1]) (by rw [results_cell_tmp rfl]; go_simp) rfl ⟨rfl, ?_⟩
      exact (Below.refl _ _).alloc (Nat.le_refl _) _

/-- may a line and a column be told of a text? -/
def mayOff (s : ByteArray) (line col : Int) : Prop := (1 ≤ line ∧ line ≤ (starts s).length) ∧ 1 ≤ col ∧ col ≤ upto_ s (line.toNat - 1) - from_ s (line.toNat - 1) + 1
open Classical in
noncomputable def offVal (s : ByteArray) (line col : Int) : Int := if mayOff s line col then from_ s (line.toNat - 1) + col - 1 else 0
open Classical in
noncomputable def offErr (s : ByteArray) (line col : Int) : Int := if mayOff s line col then 0 else 1
theorem off_yes {s : ByteArray} {line col : Int} (h : mayOff s line col) : offVal s line col = from_ s (line.toNat - 1) + col - 1 ∧ offErr s line col = 0 := by
  unfold offVal offErr; rw [if_pos h, if_pos h]; exact ⟨rfl, rfl⟩
theorem off_no {s : ByteArray} {line col : Int} (h : ¬ mayOff s line col) : offVal s line col = 0 ∧ offErr s line col = 1 := by
  unfold offVal offErr; rw [if_neg h, if_neg h]; exact ⟨rfl, rfl⟩
theorem ext_size (s : ByteArray) (i : Nat) (h : i < (starts s).length) : ((s.extract (from_ s i) (upto_ s i)).size : Int) = upto_ s i - from_ s i := by
  have := upto_ge s i h
  rw [ByteArray.size_extract]; omega

theorem pos_cells {w w1 : World} {l c : Int} (hB : Below (w.alloc (.cells #[.int .i64 l, .int .i64 c] 33)).heap.size (w.alloc (.cells #[.int .i64 l, .int .i64 c] 33)) w1) :
    w1.cell? ⟨w.heap.size, 0, none⟩ = some (.int .i64 l) ∧ w1.cell? ⟨w.heap.size, 1, none⟩ = some (.int .i64 c) ∧ Below w.heap.size w w1 := by
  have hs : (w.alloc (.cells #[.int .i64 l, .int .i64 c] 33)).heap.size = w.heap.size + 1 := by simp
  refine ⟨?_, ?_, ((Below.refl _ _).alloc (Nat.le_refl _) _).trans (hB.mono (by rw [hs]; omega))⟩
  · rw [hB.cell (p := ⟨w.heap.size, 0, none⟩) (by rw [hs]; exact Nat.lt_succ_self _)]; simp
  · rw [hB.cell (p := ⟨w.heap.size, 1, none⟩) (by rw [hs]; exact Nat.lt_succ_self _)]; simp

set_option maxHeartbeats 4000000 in
theorem off_any (s : ByteArray) (hs : s.size ≤ 1048576) (line col : Int) (w : World) :
    Calls Try.prog 19 #[.string s, .agg #[.int .i64 line, .int .i64 col]] w fun e w' => e = .returned (.tuple #[.int .i64 (offVal s line col), .int .i64 (offErr s line col)]) ∧ Below w.heap.size w w' := by
  have hsl := starts_len s
  by_cases hc : 1 ≤ line ∧ line ≤ (starts s).length
  · obtain ⟨i, rfl⟩ : ∃ i : Nat, line = ((i + 1 : Nat) : Int) := ⟨line.toNat - 1, by omega⟩
    have hi : i < (starts s).length := by omega
    have hsz := ext_size s i hi
    have hge := upto_ge s i hi
    have hfr : ∀ w v, Ns w v (starts s) → ∃ g cap, v = .slice (some ⟨g, 0, none⟩) (starts s).length cap ∧ g < w.heap.size ∧ w.cell? ⟨g, i, none⟩ = some (.int .i64 (from_ s i)) := by
      intro w v ⟨g, cap, e, h1, h2, h3, h4⟩
      exact ⟨g, cap, e, h3, h4 i _ (by simp [from_, List.getD, hi])⟩
    have HC := Lib.hid hfr
    clear hfr
    have hq : ∀ v w n, Ns w v (starts s) → Calls Try.prog 22 #[.string s, v, .int .i64 ((i : Int) + 1)] (w.drewN n) fun e w' => e = .returned (.string (s.extract (from_ s i) (upto_ s i))) ∧ ∃ m, w' = w.drewN m :=
      fun v w n hv => (text_quiet s hs v i hi (w.drewN n) (ns_below hv (below_drewN (Below.refl _ _) n))).mono fun _ _ ⟨he, q, hq⟩ => ⟨he, n + q, by rw [hq, World.drewN_drewN]⟩
    have HQ := Lib.hid hq
    clear hq
    have hoff : ∀ col : Int, (1 ≤ col ∧ col ≤ (s.extract (from_ s i) (upto_ s i)).size + 1) ↔ mayOff s ((i + 1 : Nat) : Int) col := by
      intro col
      unfold mayOff
      rw [hsz]
      simp
      omega
    by_cases hok : 1 ≤ col ∧ col ≤ (s.extract (from_ s i) (upto_ s i)).size + 1
    · obtain ⟨e1, e2⟩ := off_yes ((hoff col).1 hok)
      rw [show ((i + 1 : Nat) : Int).toNat - 1 = i by omega] at e1
      rw [e1, e2]
      clear e1 e2 hoff
      have k1 : ((s.extract (from_ s i) (upto_ s i)).size : Int) ≤ 1048576 := by omega
      generalize s.extract (from_ s i) (upto_ s i) = t at hok hsz HQ k1
      have hfs : from_ s i ≤ 1048576 := by omega
      generalize from_ s i = a at HC hsz hge hfs ⊢
      clear hsz hge
      have i0 : (1 : Int) ≤ (i : Int) + 1 := by omega
      have i1 : (i : Int) + 1 ≤ ((starts s).length : Int) := by omega
      generalize hm : (starts s).length = m at hi i1 HC hsl
      clear hc hm
      have i2 : (i : Int) < (m : Int) := by omega
      have i3 : (i : Int) + 1 - 1 = i := by omega
      obtain ⟨o1, o2⟩ := hok
      have d1 : decide (col < 1) = false := by rw [decide_eq_false_iff_not]; omega
      have d2 : decide ((t.size : Int) + 1 < col) = false := by rw [decide_eq_false_iff_not]; omega
      go_enter Try.func19, Try.ntmps19
      go_wp2_with (first
        | (go_at_call 10; refine (starts_any s hs _).mono ?_; rintro e w1 ⟨⟨v, rfl, hv⟩, hB⟩; have hv0 := hv; obtain ⟨g, cap, rfl, q1, q2⟩ := HC.out _ _ hv; obtain ⟨p0, p1, hB1⟩ := pos_cells hB; clear hv q1 hB))
      go_quiet ((go_at_call 22; exact HQ.out _ _ _ hv0))
      go_wp2
      have w1' : IntKind.i64.wrap (i : Int) = i := by rw [IntKind.wrap_i64]; omega
      have w2' : IntKind.i64.wrap ((a : Int) + col) = (a : Int) + col := by rw [IntKind.wrap_i64]; omega
      have w3' : IntKind.i64.wrap ((a : Int) + col - 1) = (a : Int) + col - 1 := by rw [IntKind.wrap_i64]; omega
      go_quiet (fail)
      go_wp2
      go_ret2
      exact ⟨rfl, below_drewN (below_drewN hB1 _) _⟩
    · obtain ⟨e1, e2⟩ := off_no (fun h => hok ((hoff col).2 h))
      rw [e1, e2]
      clear e1 e2 hoff
      have k1 : ((s.extract (from_ s i) (upto_ s i)).size : Int) ≤ 1048576 := by omega
      generalize s.extract (from_ s i) (upto_ s i) = t at hok hsz HQ k1
      generalize from_ s i = a at HC hsz hge
      clear hsz hge
      have i0 : (1 : Int) ≤ (i : Int) + 1 := by omega
      have i1 : (i : Int) + 1 ≤ ((starts s).length : Int) := by omega
      generalize hm : (starts s).length = m at hi i1 HC hsl
      clear hc hm
      by_cases o1 : col < 1
      · have d1 : decide (col < 1) = true := by rw [decide_eq_true_iff]; omega
        clear hok
        go_enter Try.func19, Try.ntmps19
        go_wp2_with (first
          | (go_at_call 10; refine (starts_any s hs _).mono ?_; rintro e w1 ⟨⟨v, rfl, hv⟩, hB⟩; have hv0 := hv; obtain ⟨g, cap, rfl, q1, q2⟩ := HC.out _ _ hv; obtain ⟨p0, p1, hB1⟩ := pos_cells hB; clear hv q1 hB))
        go_quiet (fail)
        go_wp2
        go_ret2
        exact ⟨rfl, below_drewN hB1 _⟩
      · have o2 : (t.size : Int) + 1 < col := by omega
        clear hok
        have d1 : decide (col < 1) = false := by rw [decide_eq_false_iff_not]; omega
        have d2 : decide ((t.size : Int) + 1 < col) = true := by rw [decide_eq_true_iff]; omega
        go_enter Try.func19, Try.ntmps19
        go_wp2_with (first
          | (go_at_call 10; refine (starts_any s hs _).mono ?_; rintro e w1 ⟨⟨v, rfl, hv⟩, hB⟩; have hv0 := hv; obtain ⟨g, cap, rfl, q1, q2⟩ := HC.out _ _ hv; obtain ⟨p0, p1, hB1⟩ := pos_cells hB; clear hv q1 hB))
        go_quiet ((go_at_call 22; exact HQ.out _ _ _ hv0))
        go_wp2
        go_ret2
        exact ⟨rfl, below_drewN hB1 _⟩
  · obtain ⟨e1, e2⟩ := off_no (s := s) (line := line) (col := col) (fun h => hc h.1)
    rw [e1, e2]
    clear e1 e2
    have hcl : ∀ w v, Ns w v (starts s) → ∃ g cap, v = .slice (some ⟨g, 0, none⟩) (starts s).length cap := by
      intro w v ⟨g, cap, e, h1, h2, h3, h4⟩
      exact ⟨g, cap, e⟩
    have HC := Lib.hid hcl
    generalize hm : (starts s).length = m at hc HC hsl
    clear hcl hm
    by_cases o1 : line < 1
    · have d1 : decide (line < 1) = true := by rw [decide_eq_true_iff]; omega
      clear hc
      go_enter Try.func19, Try.ntmps19
      go_wp2_with (first
        | (go_at_call 10; refine (starts_any s hs _).mono ?_; rintro e w1 ⟨⟨v, rfl, hv⟩, hB⟩; obtain ⟨g, cap, rfl⟩ := HC.out _ _ hv; obtain ⟨p0, p1, hB1⟩ := pos_cells hB; clear hv hB))
      go_ret2
      exact ⟨rfl, hB1⟩
    · have o2 : (m : Int) < line := by omega
      clear hc
      have d1 : decide (line < 1) = false := by rw [decide_eq_false_iff_not]; omega
      have d2 : decide ((m : Int) < line) = true := by rw [decide_eq_true_iff]; omega
      go_enter Try.func19, Try.ntmps19
      go_wp2_with (first
        | (go_at_call 10; refine (starts_any s hs _).mono ?_; rintro e w1 ⟨⟨v, rfl, hv⟩, hB⟩; obtain ⟨g, cap, rfl⟩ := HC.out _ _ hv; obtain ⟨p0, p1, hB1⟩ := pos_cells hB; clear hv hB))
      go_ret2
      exact ⟨rfl, hB1⟩
end Go.Proofs.Ythbjiecckehckab

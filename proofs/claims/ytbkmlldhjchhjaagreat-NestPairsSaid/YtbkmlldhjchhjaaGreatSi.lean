/-
  Layer 7: contract of scan.cut.
-/
import Derived.Test.YtbkmlldhjchhjaaGreatSh
import Derived.Test.YtbkmlldhjchhjaaGreatSf
namespace Go.Proofs.YtbkmlldhjchhjaaGreat
open Go.ChangeShapes Go.WideShapes Go.ChangeAt Go.RowKit

theorem wideBlank_none {r : Int} (h : r = 65279) : isBlank r = false := by subst h; decide
/-- what cut and the document's Lexeme answer -/
def lexAns (p : Nat × Nat) : Value := .tuple #[.int .u8 (p.1 : Int), .int .i64 (p.2 : Int)]
theorem lexV_some {l : List UInt8} {a k n : Nat} (h : lexL (l.drop a) = (k, n)) (hk : k ≠ 0) : lexV l a = (k, a + n) := by
  unfold lexV; rw [h, if_neg hk]
theorem lexV_none {l : List UInt8} {a n : Nat} (h : lexL (l.drop a) = (0, n)) : lexV l a = (0, 0) := by
  unfold lexV; rw [h, if_pos rfl]
theorem not_starts {c : UInt8} {t : List UInt8} (h : c = 39 ∨ c = 34 ∨ c = 96 ∨ c = 59) : Num.starts (c :: t) = false := by
  rcases h with rfl | rfl | rfl | rfl <;> rfl
theorem prefix_two {x y c : UInt8} {t : List UInt8} (h : [x, y].isPrefixOf (c :: t) = true) : c = x ∧ ∃ u, t = y :: u := by
  cases t with
  | nil => simp [List.isPrefixOf] at h
  | cons d u =>
    simp [List.isPrefixOf] at h
    exact ⟨h.1.symm, u, by rw [h.2]⟩
theorem chr_head {c : UInt8} {t : List UInt8} (hw : wide (c :: t) ≠ 0) (n : Nat) (hn : n < 128) : (chr (c :: t) == (n : Int)) = decide (c = UInt8.ofNat n) := by
  rw [Bool.eq_iff_iff, beq_iff_eq, decide_eq_true_iff]
  constructor
  · intro h
    have := chr_ascii hw (n : Int) (by omega) (by omega) h
    simpa using this
  · intro h
    have h1 : c.toNat = n := by rw [h]; simp; omega
    rw [(ascii_head c t (by omega)).2, h1]
set_option maxHeartbeats 8000000 in
theorem cut_any (s : ByteArray) (hs : s.size ≤ 4294967280) (a : Nat) (ha : a < s.size) (g0 : Nat) (hg0 : s.size ≤ a + g0) (hcl : cleanAt s.data.toList g0 a = -1) (w : World) (hM : Mx w) :
    Calls Tryz.prog 34 #[.string s, .int .i64 a] w fun e w' => e = .returned (lexAns (lexV s.data.toList a)) ∧ Below w.heap.size w w' := by
  have hl : s.data.toList.length = s.size := by simp
  have hM0 := hM.lt
  have hrd := fun w => read_any s (a : Int) w (by unfold maxLen; omega) (s.data.toList.drop a) (by rw [if_pos (by omega)]; simp)
  obtain ⟨g1, rfl⟩ : ∃ g1, g0 = g1 + 1 := ⟨g0 - 1, by omega⟩
  obtain ⟨hw0, _, _, _⟩ := clean_step hcl (by omega)
  obtain ⟨hGl, hGs⟩ := tail_text s a (by omega)
  have hsl := fun w => tail_run s a (by omega) w
  have hdr := drop_at s a ha
  obtain ⟨G, hG⟩ : ∃ G, G = s.extract a s.size := ⟨_, rfl⟩
  rw [← hG] at hGl hGs hsl
  have hp1 : ∀ w, Calls Tryz.prog 49 #[.string G, .string ⟨#[47, 47]⟩] w fun e w' => e = .returned (.bool ([47, 47].isPrefixOf (s.data.toList.drop a))) ∧ w' = w := fun w => by
    have h := Tryz.strings_HasPrefix G ⟨#[47, 47]⟩ w
    unfold Lib.hasPrefix at h
    rw [hGl] at h
    exact h
  have hp2 : ∀ w, Calls Tryz.prog 49 #[.string G, .string ⟨#[47, 42]⟩] w fun e w' => e = .returned (.bool ([47, 42].isPrefixOf (s.data.toList.drop a))) ∧ w' = w := fun w => by
    have h := Tryz.strings_HasPrefix G ⟨#[47, 42]⟩ w
    unfold Lib.hasPrefix at h
    rw [hGl] at h
    exact h
  have hbk := fun w => blank_any (chr (s.data.toList.drop a)) w
  have hle := fun w => letter_any (chr (s.data.toList.drop a)) w
  obtain ⟨c, hc⟩ : ∃ c, c = chr (s.data.toList.drop a) := ⟨_, rfl⟩
  obtain ⟨n, hn⟩ : ∃ n, n = wide (s.data.toList.drop a) := ⟨_, rfl⟩
  rw [← hc, ← hn] at hrd
  rw [← hc] at hbk hle
  rw [← hn] at hw0
  have hdw := drop_wide (l := s.data.toList) (pos := a) (by omega)
  rw [← hn, hl] at hdw
  have HC := Lib.hid hc
  have HN := Lib.hid hn
  have HCL := Lib.hid hcl
  have hsz : s.size ≤ 140737488351232 := by omega
  clear hG hGl hGs
  by_cases hfe : c = 65279
  · have hL : lexL (s.data.toList.drop a) = (10, n) := by unfold lexL; rw [← hc, if_pos hfe, hn]
    rw [lexV_some hL (by decide)]
    have q : (c == 65279) = true := by simpa using hfe
    clear hL hfe hc hn hdr hcl
    go_enter Tryz.func34, Tryz.ntmps34
    go_wp2_with (go_at_call 46; refine (hrd _).mono ?_; rintro e w1 ⟨rfl, hB⟩)
    go_ret2
    exact ⟨rfl, hB⟩
  have q1 : (c == 65279) = false := by simpa using hfe
  have t1 : True := trivial
  cases hbl : decide (c = 9 ∨ c = 10 ∨ c = 13 ∨ c = 32) with
  | true =>
    have hL : lexL (s.data.toList.drop a) = (10, spanLen isBlank (s.data.toList.drop a)) := by unfold lexL; rw [← hc, if_neg hfe, if_pos (show isBlank c = true from hbl)]
    rw [lexV_some hL (by decide)]
    rw [hbl] at hbk
    have hbh := fun w => behind_f 47 (.inl rfl) isBlank tells_blank s (by unfold maxLen; omega) a (by omega) _ hg0 hcl w
    rw [spanAt_len isBlank _ _ _ (by omega)] at hbh
    clear hL hfe hc hn hdr hbl hcl
    go_enter Tryz.func34, Tryz.ntmps34
    go_wp2_with (first
        | (go_at_call 46; refine (hrd _).mono ?_; rintro e w1 ⟨rfl, hB⟩)
        | (go_at_call 47; refine (hbk _).mono ?_; rintro e w2 ⟨rfl, hw2⟩; rw [← hw2]; clear hw2)
        | (go_at_call 49; clear t1; refine (hp1 _).mono ?_; rintro e w2 ⟨rfl, hw2⟩; rw [hw2]; clear hw2)
        | (go_at_call 49; refine (hp2 _).mono ?_; rintro e w2 ⟨rfl, hw2⟩; rw [hw2]; clear hw2)
        | (go_at_call 52; refine (hle _).mono ?_; rintro e w2 ⟨rfl, hB2⟩; replace hB := hB.trans (hB2.mono hB.size); clear hB2)
        | (go_at_call 48; refine (hbh _).mono ?_; rintro e w2 ⟨rfl, hB2⟩; replace hB := hB.trans (hB2.mono hB.size); clear hB2))
    go_ret2
    exact ⟨rfl, hB⟩
  | false =>
  rw [hbl] at hbk
  have hnb : isBlank c = false := hbl
  clear hbl
  cases hx1 : [47, 47].isPrefixOf (s.data.toList.drop a) with
  | true =>
    have hL : lexL (s.data.toList.drop a) = (11, lineLen (s.data.toList.drop a)) := by unfold lexL; rw [← hc, if_neg hfe, if_neg (by rw [hnb]; decide), if_pos hx1]
    rw [lexV_some hL (by decide)]
    rw [hx1] at hp1
    have hln := fun w => lineEnd_any s hsz a (by omega) w
    clear hL hfe hc hn hdr hx1 hcl
    go_enter Tryz.func34, Tryz.ntmps34
    go_wp2_with (first
        | (go_at_call 46; refine (hrd _).mono ?_; rintro e w1 ⟨rfl, hB⟩)
        | (go_at_call 47; refine (hbk _).mono ?_; rintro e w2 ⟨rfl, hw2⟩; rw [← hw2]; clear hw2)
        | (go_at_call 49; clear t1; refine (hp1 _).mono ?_; rintro e w2 ⟨rfl, hw2⟩; rw [hw2]; clear hw2)
        | (go_at_call 49; refine (hp2 _).mono ?_; rintro e w2 ⟨rfl, hw2⟩; rw [hw2]; clear hw2)
        | (go_at_call 52; refine (hle _).mono ?_; rintro e w2 ⟨rfl, hB2⟩; replace hB := hB.trans (hB2.mono hB.size); clear hB2)
        | (go_at_call 50; refine (hln _).mono ?_; rintro e w2 ⟨rfl, hw2⟩; rw [hw2]; clear hw2))
    go_ret2
    exact ⟨rfl, hB⟩
  | false =>
  rw [hx1] at hp1
  cases hx2 : [47, 42].isPrefixOf (s.data.toList.drop a) with
  | true =>
    have ha2 : a + 2 ≤ s.size := by
      rw [hdr] at hx2
      obtain ⟨_, u, hu⟩ := prefix_two hx2
      have := congrArg List.length hu
      rw [List.length_drop, hl, List.length_cons] at this
      omega
    rw [hx2] at hp2
    have hbc := fun w hM => block_any s hs a ha2 w hM
    cases ho : blockLen (s.data.toList.drop (a + 2)) with
    | none =>
      have hL : lexL (s.data.toList.drop a) = (0, 0) := by unfold lexL; rw [← hc, if_neg hfe, if_neg (by rw [hnb]; decide), if_neg (by rw [hx1]; decide), if_pos hx2, List.drop_drop, ho]
      rw [lexV_none hL]
      rw [ho] at hbc
      have hbc' : ∀ w, Mx w → Calls Tryz.prog 51 #[.string s, .int .i64 a] w fun e w' => e = .returned (.tuple #[.int .u8 0, .int .i64 0]) ∧ w' = w := hbc
      clear hL hfe hc hn hdr hx1 hx2 ho hbc hcl
      go_enter Tryz.func34, Tryz.ntmps34
      go_wp2_with (first
          | (go_at_call 46; refine (hrd _).mono ?_; rintro e w1 ⟨rfl, hB⟩)
          | (go_at_call 47; refine (hbk _).mono ?_; rintro e w2 ⟨rfl, hw2⟩; rw [← hw2]; clear hw2)
          | (go_at_call 49; clear t1; refine (hp1 _).mono ?_; rintro e w2 ⟨rfl, hw2⟩; rw [hw2]; clear hw2)
          | (go_at_call 49; refine (hp2 _).mono ?_; rintro e w2 ⟨rfl, hw2⟩; rw [hw2]; clear hw2)
          | (go_at_call 52; refine (hle _).mono ?_; rintro e w2 ⟨rfl, hB2⟩; replace hB := hB.trans (hB2.mono hB.size); clear hB2)
          | (go_at_call 51; refine (hbc' _ (hM.below hB hM0)).mono ?_; rintro e w2 ⟨rfl, hw2⟩; rw [hw2]; clear hw2))
      go_ret2
      exact ⟨rfl, hB⟩
    | some j =>
      have hL : lexL (s.data.toList.drop a) = (12, j + 4) := by unfold lexL; rw [← hc, if_neg hfe, if_neg (by rw [hnb]; decide), if_neg (by rw [hx1]; decide), if_pos hx2, List.drop_drop, ho]
      rw [lexV_some hL (by decide)]
      rw [ho] at hbc
      obtain ⟨E, hE⟩ : ∃ E : Nat, E = a + (j + 4) := ⟨_, rfl⟩
      rw [← hE]
      have hbc' : ∀ w, Mx w → Calls Tryz.prog 51 #[.string s, .int .i64 a] w fun e w' => e = .returned (.tuple #[.int .u8 12, .int .i64 E]) ∧ w' = w := fun w hM => by
        have h := hbc w hM
        rw [show blockAns a (some j) = .tuple #[.int .u8 12, .int .i64 E] by show Value.tuple #[.int .u8 12, .int .i64 ((a : Int) + 2 + (j : Int) + 2)] = _; rw [show (a : Int) + 2 + (j : Int) + 2 = (E : Int) by omega]] at h
        exact h
      clear hL hfe hc hn hdr hx1 hx2 ho hbc hE hcl
      go_enter Tryz.func34, Tryz.ntmps34
      go_wp2_with (first
          | (go_at_call 46; refine (hrd _).mono ?_; rintro e w1 ⟨rfl, hB⟩)
          | (go_at_call 47; refine (hbk _).mono ?_; rintro e w2 ⟨rfl, hw2⟩; rw [← hw2]; clear hw2)
          | (go_at_call 49; clear t1; refine (hp1 _).mono ?_; rintro e w2 ⟨rfl, hw2⟩; rw [hw2]; clear hw2)
          | (go_at_call 49; refine (hp2 _).mono ?_; rintro e w2 ⟨rfl, hw2⟩; rw [hw2]; clear hw2)
          | (go_at_call 52; refine (hle _).mono ?_; rintro e w2 ⟨rfl, hB2⟩; replace hB := hB.trans (hB2.mono hB.size); clear hB2)
          | (go_at_call 51; refine (hbc' _ (hM.below hB hM0)).mono ?_; rintro e w2 ⟨rfl, hw2⟩; rw [hw2]; clear hw2))
      go_ret2
      exact ⟨rfl, hB⟩
  | false =>
  rw [hx2] at hp2
  cases hlt : inside letters c with
  | true =>
    have hL : lexL (s.data.toList.drop a) = (if isWord ((s.data.toList.drop a).take (spanLen isPart (s.data.toList.drop a))) = true then 2 else 1, spanLen isPart (s.data.toList.drop a)) := by
      unfold lexL; rw [← hc, if_neg hfe, if_neg (by rw [hnb]; decide), if_neg (by rw [hx1]; decide), if_neg (by rw [hx2]; decide), if_pos hlt]
    have hwd := fun w => word_f s hsz a (by omega) _ hg0 hcl w
    obtain ⟨k, hk, hk0⟩ : ∃ k : Nat, (if isWord ((s.data.toList.drop a).take (spanLen isPart (s.data.toList.drop a))) = true then 2 else 1) = k ∧ k ≠ 0 := ⟨_, rfl, by split <;> decide⟩
    have hki : ((if isWord ((s.data.toList.drop a).take (spanLen isPart (s.data.toList.drop a))) = true then 2 else 1 : Int)) = (k : Int) := by rw [← hk]; split <;> rfl
    rw [hk] at hL
    rw [hki] at hwd
    rw [lexV_some hL hk0]
    rw [hlt] at hle
    clear hL hfe hc hn hdr hx1 hx2 hlt hk hki hcl
    go_enter Tryz.func34, Tryz.ntmps34
    go_wp2_with (first
        | (go_at_call 46; refine (hrd _).mono ?_; rintro e w1 ⟨rfl, hB⟩)
        | (go_at_call 47; refine (hbk _).mono ?_; rintro e w2 ⟨rfl, hw2⟩; rw [← hw2]; clear hw2)
        | (go_at_call 49; clear t1; refine (hp1 _).mono ?_; rintro e w2 ⟨rfl, hw2⟩; rw [hw2]; clear hw2)
        | (go_at_call 49; refine (hp2 _).mono ?_; rintro e w2 ⟨rfl, hw2⟩; rw [hw2]; clear hw2)
        | (go_at_call 52; refine (hle _).mono ?_; rintro e w2 ⟨rfl, hB2⟩; replace hB := hB.trans (hB2.mono hB.size); clear hB2)
        | (go_at_call 53; refine (hwd _).mono ?_; rintro e w2 ⟨rfl, hB2⟩; replace hB := hB.trans (hB2.mono hB.size); clear hB2))
    go_ret2
    exact ⟨rfl, hB⟩
  | false =>
  rw [hlt] at hle
  have hc39 : (c == 39) = decide (s[a] = 39) := by rw [hc, hdr]; exact chr_head (by rw [← hdr, ← hn]; exact hw0) 39 (by decide)
  have hc34 : (c == 34) = decide (s[a] = 34) := by rw [hc, hdr]; exact chr_head (by rw [← hdr, ← hn]; exact hw0) 34 (by decide)
  have hc96 : (c == 96) = decide (s[a] = 96) := by rw [hc, hdr]; exact chr_head (by rw [← hdr, ← hn]; exact hw0) 96 (by decide)
  have hc59 : (c == 59) = decide (s[a] = 59) := by rw [hc, hdr]; exact chr_head (by rw [← hdr, ← hn]; exact hw0) 59 (by decide)
  by_cases hmk : s[a] = 39 ∨ s[a] = 34 ∨ s[a] = 96
  · have hns : Num.starts (s.data.toList.drop a) = false := by rw [hdr]; exact not_starts (by rcases hmk with h | h | h; exact .inl h; exact .inr (.inl h); exact .inr (.inr (.inl h)))
    have hma : markAt (s.data.toList.drop a) 0 = true := by
      rw [hdr]; show mark? s[a] = true
      unfold mark?; rcases hmk with h | h | h <;> rw [h] <;> rfl
    have hma2 : markAt s.data.toList (a : Int) = true := by
      unfold markAt; rw [decide_eq_true (by omega), show ((a : Int)).toNat = a by omega, at_of s a ha]
      show (true && mark? s[a]) = true
      unfold mark?; rcases hmk with h | h | h <;> rw [h] <;> rfl
    have hqs := fun w => scan_any s hsz (a : Int) w
    have hsp : scanP s.data.toList (a : Int) = scanAns (readOf s.data.toList a) := by unfold scanP; rw [if_pos hma2, show ((a : Int)).toNat = a by omega]
    rw [hsp, readOf_rel] at hqs
    have hLL : lexL (s.data.toList.drop a) = lexQ (readOf (s.data.toList.drop a) 0) := by
      unfold lexL; rw [← hc, if_neg hfe, if_neg (by rw [hnb]; decide), if_neg (by rw [hx1]; decide), if_neg (by rw [hx2]; decide), if_neg (by rw [hlt]; decide), if_neg (by rw [hns]; decide), if_pos hma]
    have qq : (c == 39) = true ∨ ((c == 39) = false ∧ (c == 34) = true) ∨ ((c == 39) = false ∧ (c == 34) = false ∧ (c == 96) = true) := by
      rw [hc39, hc34, hc96]
      by_cases h39 : s[a] = 39
      · exact .inl (decide_eq_true h39)
      · by_cases h34 : s[a] = 34
        · exact .inr (.inl ⟨decide_eq_false h39, decide_eq_true h34⟩)
        · exact .inr (.inr ⟨decide_eq_false h39, decide_eq_false h34, decide_eq_true ((hmk.resolve_left h39).resolve_left h34)⟩)
    cases hro : readOf (s.data.toList.drop a) 0 with
    | none =>
      rw [hro] at hqs hLL
      rw [lexV_none (show lexL (s.data.toList.drop a) = (0, 0) from hLL)]
      have hqs' : ∀ w, Calls Tryz.prog 54 #[.string s, .int .i64 a] w fun e w' => e = .returned (.tuple #[.int .u8 0, .int .i64 0, .int .i64 4]) ∧ Below w.heap.size w w' := hqs
      clear hfe hc hn hdr hx1 hx2 hlt hc39 hc34 hc96 hc59 hmk hns hma hma2 hsp hLL hro hqs hcl
      rcases qq with h1 | ⟨h1, h2⟩ | ⟨h1, h2, h3⟩
      all_goals
        go_enter Tryz.func34, Tryz.ntmps34
        go_wp2_with (first
            | (go_at_call 46; refine (hrd _).mono ?_; rintro e w1 ⟨rfl, hB⟩)
            | (go_at_call 47; refine (hbk _).mono ?_; rintro e w2 ⟨rfl, hw2⟩; rw [← hw2]; clear hw2)
            | (go_at_call 49; clear t1; refine (hp1 _).mono ?_; rintro e w2 ⟨rfl, hw2⟩; rw [hw2]; clear hw2)
            | (go_at_call 49; refine (hp2 _).mono ?_; rintro e w2 ⟨rfl, hw2⟩; rw [hw2]; clear hw2)
            | (go_at_call 52; refine (hle _).mono ?_; rintro e w2 ⟨rfl, hB2⟩; replace hB := hB.trans (hB2.mono hB.size); clear hB2)
            | (go_at_call 54; refine (hqs' _).mono ?_; rintro e w2 ⟨rfl, hB2⟩; replace hB := hB.trans (hB2.mono hB.size); clear hB2))
        go_ret2
        exact ⟨rfl, hB⟩
    | some x =>
      obtain ⟨K, L, m⟩ := x
      rw [hro] at hqs hLL
      have hK := readOf_kind hro
      rw [lexV_some (show lexL (s.data.toList.drop a) = (K, m) from hLL) (by omega)]
      have hqs' : ∀ w, Calls Tryz.prog 54 #[.string s, .int .i64 a] w fun e w' => e = .returned (.tuple #[.int .u8 K, .int .i64 ((a + m : Nat) : Int), .int .i64 0]) ∧ Below w.heap.size w w' := hqs
      clear hfe hc hn hdr hx1 hx2 hlt hc39 hc34 hc96 hc59 hmk hns hma hma2 hsp hLL hro hqs hK hcl
      rcases qq with h1 | ⟨h1, h2⟩ | ⟨h1, h2, h3⟩
      all_goals
        go_enter Tryz.func34, Tryz.ntmps34
        go_wp2_with (first
            | (go_at_call 46; refine (hrd _).mono ?_; rintro e w1 ⟨rfl, hB⟩)
            | (go_at_call 47; refine (hbk _).mono ?_; rintro e w2 ⟨rfl, hw2⟩; rw [← hw2]; clear hw2)
            | (go_at_call 49; clear t1; refine (hp1 _).mono ?_; rintro e w2 ⟨rfl, hw2⟩; rw [hw2]; clear hw2)
            | (go_at_call 49; refine (hp2 _).mono ?_; rintro e w2 ⟨rfl, hw2⟩; rw [hw2]; clear hw2)
            | (go_at_call 52; refine (hle _).mono ?_; rintro e w2 ⟨rfl, hB2⟩; replace hB := hB.trans (hB2.mono hB.size); clear hB2)
            | (go_at_call 54; refine (hqs' _).mono ?_; rintro e w2 ⟨rfl, hB2⟩; replace hB := hB.trans (hB2.mono hB.size); clear hB2))
        go_ret2
        exact ⟨rfl, hB⟩
  have hma : markAt (s.data.toList.drop a) 0 = false := by
    rw [hdr]; show mark? s[a] = false
    unfold mark?; simp only [not_or] at hmk; simp [hmk.1, hmk.2.1, hmk.2.2]
  have m39 : (c == 39) = false := by rw [hc39]; exact decide_eq_false fun h => hmk (.inl h)
  have m34 : (c == 34) = false := by rw [hc34]; exact decide_eq_false fun h => hmk (.inr (.inl h))
  have m96 : (c == 96) = false := by rw [hc96]; exact decide_eq_false fun h => hmk (.inr (.inr h))
  clear hc39 hc34 hc96 hmk
  by_cases h59 : s[a] = 59
  · have hns : Num.starts (s.data.toList.drop a) = false := by rw [hdr]; exact not_starts (.inr (.inr (.inr h59)))
    have hL : lexL (s.data.toList.drop a) = (9, 1) := by
      unfold lexL; rw [← hc, if_neg hfe, if_neg (by rw [hnb]; decide), if_neg (by rw [hx1]; decide), if_neg (by rw [hx2]; decide), if_neg (by rw [hlt]; decide), if_neg (by rw [hns]; decide), if_neg (by rw [hma]; decide), if_pos (by rw [hdr, h59]; rfl)]
    have hn1 : n = 1 := by rw [hn, hdr]; exact (ascii_head s[a] _ (by rw [h59]; decide)).1
    rw [decide_eq_true h59] at hc59
    rw [lexV_some hL (by decide)]
    subst hn1
    clear hfe hc hn hdr hx1 hx2 hlt hL hns hma h59 hcl
    go_enter Tryz.func34, Tryz.ntmps34
    go_wp2_with (first
        | (go_at_call 46; refine (hrd _).mono ?_; rintro e w1 ⟨rfl, hB⟩)
        | (go_at_call 47; refine (hbk _).mono ?_; rintro e w2 ⟨rfl, hw2⟩; rw [← hw2]; clear hw2)
        | (go_at_call 49; clear t1; refine (hp1 _).mono ?_; rintro e w2 ⟨rfl, hw2⟩; rw [hw2]; clear hw2)
        | (go_at_call 49; refine (hp2 _).mono ?_; rintro e w2 ⟨rfl, hw2⟩; rw [hw2]; clear hw2)
        | (go_at_call 52; refine (hle _).mono ?_; rintro e w2 ⟨rfl, hB2⟩; replace hB := hB.trans (hB2.mono hB.size); clear hB2))
    go_ret2
    exact ⟨rfl, hB⟩
  rw [decide_eq_false h59] at hc59
  have hh59 : ¬ (s.data.toList.drop a).head? = some 59 := by rw [hdr]; simpa using h59
  have hnm := fun w => Num.scan_any s (by omega) (a : Int) w
  cases hst : Num.starts (s.data.toList.drop a) with
  | true =>
    obtain ⟨m, hm⟩ : ∃ m, m = Num.runLen (s.data.toList.drop a) := ⟨_, rfl⟩
    obtain ⟨K, hK⟩ : ∃ K, K = Num.kindOf ((s.data.toList.drop a).take m) := ⟨_, rfl⟩
    have hsc : Num.scanOf Num.kindP s.data.toList (a : Int) = if K = 0 then (0, 0, 4) else (K, ((a + m : Nat) : Int), 0) := by
      rw [show Num.kindP = Num.kindOf from funext Num.kind_agree]
      unfold Num.scanOf
      rw [show ((a : Int)).toNat = a by omega, hst, if_pos (by simp), ← hm, ← hK]
    have hLL : lexL (s.data.toList.drop a) = if K = 0 then (0, 0) else (K, m) := by
      unfold lexL; rw [← hc, if_neg hfe, if_neg (by rw [hnb]; decide), if_neg (by rw [hx1]; decide), if_neg (by rw [hx2]; decide), if_neg (by rw [hlt]; decide), if_pos hst, ← hm, ← hK]
    rw [hsc] at hnm
    by_cases hK0 : K = 0
    · rw [if_pos hK0] at hnm hLL
      rw [lexV_none hLL]
      have hnm' : ∀ w, Calls Tryz.prog 55 #[.string s, .int .i64 a] w fun e w' => e = .returned (.tuple #[.int .u8 0, .int .i64 0, .int .i64 4]) ∧ Below w.heap.size w w' := hnm
      clear hfe hc hn hdr hx1 hx2 hlt hLL hsc hma h59 hh59 hst hm hK hK0 hnm hcl
      go_enter Tryz.func34, Tryz.ntmps34
      go_wp2_with (first
          | (go_at_call 46; refine (hrd _).mono ?_; rintro e w1 ⟨rfl, hB⟩)
          | (go_at_call 47; refine (hbk _).mono ?_; rintro e w2 ⟨rfl, hw2⟩; rw [← hw2]; clear hw2)
          | (go_at_call 49; clear t1; refine (hp1 _).mono ?_; rintro e w2 ⟨rfl, hw2⟩; rw [hw2]; clear hw2)
          | (go_at_call 49; refine (hp2 _).mono ?_; rintro e w2 ⟨rfl, hw2⟩; rw [hw2]; clear hw2)
          | (go_at_call 52; refine (hle _).mono ?_; rintro e w2 ⟨rfl, hB2⟩; replace hB := hB.trans (hB2.mono hB.size); clear hB2)
          | (go_at_call 55; refine (hnm' _).mono ?_; rintro e w2 ⟨rfl, hB2⟩; replace hB := hB.trans (hB2.mono hB.size); clear hB2))
      go_ret2
      exact ⟨rfl, hB⟩
    · rw [if_neg hK0] at hnm hLL
      rw [lexV_some hLL hK0]
      have hnm' : ∀ w, Calls Tryz.prog 55 #[.string s, .int .i64 a] w fun e w' => e = .returned (.tuple #[.int .u8 K, .int .i64 ((a + m : Nat) : Int), .int .i64 0]) ∧ Below w.heap.size w w' := hnm
      clear hfe hc hn hdr hx1 hx2 hlt hLL hsc hma h59 hh59 hst hm hK hK0 hnm hcl
      go_enter Tryz.func34, Tryz.ntmps34
      go_wp2_with (first
          | (go_at_call 46; refine (hrd _).mono ?_; rintro e w1 ⟨rfl, hB⟩)
          | (go_at_call 47; refine (hbk _).mono ?_; rintro e w2 ⟨rfl, hw2⟩; rw [← hw2]; clear hw2)
          | (go_at_call 49; clear t1; refine (hp1 _).mono ?_; rintro e w2 ⟨rfl, hw2⟩; rw [hw2]; clear hw2)
          | (go_at_call 49; refine (hp2 _).mono ?_; rintro e w2 ⟨rfl, hw2⟩; rw [hw2]; clear hw2)
          | (go_at_call 52; refine (hle _).mono ?_; rintro e w2 ⟨rfl, hB2⟩; replace hB := hB.trans (hB2.mono hB.size); clear hB2)
          | (go_at_call 55; refine (hnm' _).mono ?_; rintro e w2 ⟨rfl, hB2⟩; replace hB := hB.trans (hB2.mono hB.size); clear hB2))
      go_ret2
      exact ⟨rfl, hB⟩
  | false =>
    have hsc : Num.scanOf Num.kindP s.data.toList (a : Int) = (0, 0, 15) := by
      unfold Num.scanOf
      rw [show ((a : Int)).toNat = a by omega, hst, if_neg (by simp)]
    rw [hsc] at hnm
    have hnm' : ∀ w, Calls Tryz.prog 55 #[.string s, .int .i64 a] w fun e w' => e = .returned (.tuple #[.int .u8 0, .int .i64 0, .int .i64 15]) ∧ Below w.heap.size w w' := hnm
    have hsg := fun w => sign_any s hsz a ha w
    have hLL : lexL (s.data.toList.drop a) = if signLen (s.data.toList.drop a) = 0 then (0, 0) else (8, signLen (s.data.toList.drop a)) := by
      unfold lexL; rw [← hc, if_neg hfe, if_neg (by rw [hnb]; decide), if_neg (by rw [hx1]; decide), if_neg (by rw [hx2]; decide), if_neg (by rw [hlt]; decide), if_neg (by rw [hst]; decide), if_neg (by rw [hma]; decide), if_neg hh59]
    obtain ⟨m, hm⟩ : ∃ m, m = signLen (s.data.toList.drop a) := ⟨_, rfl⟩
    rw [← hm] at hsg hLL
    by_cases hm0 : m = 0
    · rw [if_pos hm0] at hLL
      rw [lexV_none hLL]
      have hsg' : ∀ w, Calls Tryz.prog 56 #[.string s, .int .i64 a] w fun e w' => e = .returned (.tuple #[.int .u8 0, .int .i64 0]) ∧ w' = w := fun w => by
        have h := hsg w
        unfold signAns at h
        rw [if_pos hm0] at h
        exact h
      clear hfe hc hn hdr hx1 hx2 hlt hLL hsc hma h59 hh59 hst hm hm0 hnm hsg hcl
      go_enter Tryz.func34, Tryz.ntmps34
      go_wp2_with (first
          | (go_at_call 46; refine (hrd _).mono ?_; rintro e w1 ⟨rfl, hB⟩)
          | (go_at_call 47; refine (hbk _).mono ?_; rintro e w2 ⟨rfl, hw2⟩; rw [← hw2]; clear hw2)
          | (go_at_call 49; clear t1; refine (hp1 _).mono ?_; rintro e w2 ⟨rfl, hw2⟩; rw [hw2]; clear hw2)
          | (go_at_call 49; refine (hp2 _).mono ?_; rintro e w2 ⟨rfl, hw2⟩; rw [hw2]; clear hw2)
          | (go_at_call 52; refine (hle _).mono ?_; rintro e w2 ⟨rfl, hB2⟩; replace hB := hB.trans (hB2.mono hB.size); clear hB2)
          | (go_at_call 55; refine (hnm' _).mono ?_; rintro e w2 ⟨rfl, hB2⟩; replace hB := hB.trans (hB2.mono hB.size); clear hB2)
          | (go_at_call 56; refine (hsg' _).mono ?_; rintro e w2 ⟨rfl, hw2⟩; rw [hw2]; clear hw2))
      go_ret2
      exact ⟨rfl, hB⟩
    · rw [if_neg hm0] at hLL
      rw [lexV_some hLL (by decide)]
      have hsg' : ∀ w, Calls Tryz.prog 56 #[.string s, .int .i64 a] w fun e w' => e = .returned (.tuple #[.int .u8 8, .int .i64 ((a + m : Nat) : Int)]) ∧ w' = w := fun w => by
        have h := hsg w
        unfold signAns at h
        rw [if_neg hm0] at h
        exact h
      clear hfe hc hn hdr hx1 hx2 hlt hLL hsc hma h59 hh59 hst hm hm0 hnm hsg hcl
      go_enter Tryz.func34, Tryz.ntmps34
      go_wp2_with (first
          | (go_at_call 46; refine (hrd _).mono ?_; rintro e w1 ⟨rfl, hB⟩)
          | (go_at_call 47; refine (hbk _).mono ?_; rintro e w2 ⟨rfl, hw2⟩; rw [← hw2]; clear hw2)
          | (go_at_call 49; clear t1; refine (hp1 _).mono ?_; rintro e w2 ⟨rfl, hw2⟩; rw [hw2]; clear hw2)
          | (go_at_call 49; refine (hp2 _).mono ?_; rintro e w2 ⟨rfl, hw2⟩; rw [hw2]; clear hw2)
          | (go_at_call 52; refine (hle _).mono ?_; rintro e w2 ⟨rfl, hB2⟩; replace hB := hB.trans (hB2.mono hB.size); clear hB2)
          | (go_at_call 55; refine (hnm' _).mono ?_; rintro e w2 ⟨rfl, hB2⟩; replace hB := hB.trans (hB2.mono hB.size); clear hB2)
          | (go_at_call 56; refine (hsg' _).mono ?_; rintro e w2 ⟨rfl, hw2⟩; rw [hw2]; clear hw2))
      go_ret2
      exact ⟨rfl, hB⟩
end Go.Proofs.YtbkmlldhjchhjaaGreat

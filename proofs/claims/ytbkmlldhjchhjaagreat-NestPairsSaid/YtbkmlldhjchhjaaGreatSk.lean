/-
  Layer 7: contract of the document's Lexeme.
-/
import Derived.Test.YtbkmlldhjchhjaaGreatSi
import Derived.Test.YtbkmlldhjchhjaaGreatSj
namespace Go.Proofs.YtbkmlldhjchhjaaGreat
open Go.ChangeShapes Go.WideShapes Go.ChangeAt Go.RowKit

theorem line_step {l : List UInt8} {k : Nat} {c : UInt8} (h : l[k]? = some c) : lineLen (l.drop k) = if c = 10 then 0 else lineLen (l.drop (k + 1)) + 1 := by
  obtain ⟨h1, h2⟩ := List.getElem?_eq_some_iff.1 h
  rw [List.drop_eq_getElem_cons h1, h2]; rfl
theorem block_step {l : List UInt8} {k : Nat} (h : k < l.length) : blockLen (l.drop k) = if [42, 47].isPrefixOf (l.drop k) = true then some 0 else (blockLen (l.drop (k + 1))).map (· + 1) := by
  rw [List.drop_eq_getElem_cons h]; rfl
set_option maxRecDepth 100000 in
set_option maxHeartbeats 8000000 in
theorem lexeme_any (s : ByteArray) (hs : s.size ≤ 1048576) (a : Nat) (ha : a < s.size) (w : World) :
    Calls Tryz.prog 29 #[.string s, .int .i64 a] w fun e w' => e = .returned (lexAns (lexV s.data.toList a)) ∧ Below w.heap.size w w' := by
  have hl : s.data.toList.length = s.size := by simp
  have hsz : s.size ≤ 140737488351232 := by omega
  have hrd := fun w => rread_in s a w (by unfold maxLen; omega) ha
  have hdr := drop_at s a ha
  have hp1 : ∀ w, Calls Tryz.prog 39 #[.string s, .int .i64 a, .string ⟨#[47, 47]⟩] w fun e w' => e = .returned (.bool ([47, 47].isPrefixOf (s.data.toList.drop a))) ∧ w' = w := fun w => has_any s ⟨#[47, 47]⟩ hsz (by decide) a (by omega) w
  have hp2 : ∀ w, Calls Tryz.prog 39 #[.string s, .int .i64 a, .string ⟨#[47, 42]⟩] w fun e w' => e = .returned (.bool ([47, 42].isPrefixOf (s.data.toList.drop a))) ∧ w' = w := fun w => has_any s ⟨#[47, 42]⟩ hsz (by decide) a (by omega) w
  have hbk := fun w => rblank_any (chr (s.data.toList.drop a)) w
  have hle := fun w => rletter_any (chr (s.data.toList.drop a)) w
  obtain ⟨c, hc⟩ : ∃ c, c = chr (s.data.toList.drop a) := ⟨_, rfl⟩
  obtain ⟨n, hn⟩ : ∃ n, n = wide (s.data.toList.drop a) := ⟨_, rfl⟩
  rw [← hc, ← hn] at hrd
  rw [← hc] at hbk hle
  have hdw := drop_wide (l := s.data.toList) (pos := a) (by omega)
  rw [← hn, hl] at hdw
  have t1 : True := trivial
  have t2 : True := trivial
  by_cases hfe : c = 65279
  · have hL : lexL (s.data.toList.drop a) = (10, n) := by unfold lexL; rw [← hc, if_pos hfe, hn]
    rw [lexV_some hL (by decide)]
    have q : (c == 65279) = true := by simpa using hfe
    clear hL hfe hc hn hdr
    go_enter Tryz.func29, Tryz.ntmps29
    go_wp2_with (go_at_call 36; refine (hrd _).mono ?_; rintro e w1 ⟨rfl, hB⟩)
    go_ret2
    exact ⟨rfl, hB⟩
  have q1 : (c == 65279) = false := by simpa using hfe
  cases hbl : decide (c = 9 ∨ c = 10 ∨ c = 13 ∨ c = 32) with
  | true =>
    have hL : lexL (s.data.toList.drop a) = (10, spanLen isBlank (s.data.toList.drop a)) := by unfold lexL; rw [← hc, if_neg hfe, if_pos (show isBlank c = true from hbl)]
    rw [lexV_some hL (by decide)]
    rw [hbl] at hbk
    have hrn := fun w => run_any s (by unfold maxLen; omega) a (by omega) 0 (.inl rfl) w
    rw [show sortP 0 = isBlank from rfl, spanAt_len isBlank _ _ _ (by omega)] at hrn
    clear hL hfe hc hn hdr hbl
    go_enter Tryz.func29, Tryz.ntmps29
    go_wp2_with (first
        | (go_at_call 36; refine (hrd _).mono ?_; rintro e w1 ⟨rfl, hB⟩)
        | (go_at_call 37; refine (hbk _).mono ?_; rintro e w2 ⟨rfl, hw2⟩; rw [← hw2]; clear hw2)
        | (go_at_call 39; clear t1; refine (hp1 _).mono ?_; rintro e w2 ⟨rfl, hw2⟩; rw [hw2]; clear hw2)
        | (go_at_call 39; clear t2; refine (hp2 _).mono ?_; rintro e w2 ⟨rfl, hw2⟩; rw [hw2]; clear hw2)
        | (go_at_call 40; refine (hle _).mono ?_; rintro e w2 ⟨rfl, hB2⟩; replace hB := hB.trans (hB2.mono hB.size); clear hB2)
        | (go_at_call 38; refine (hrn _).mono ?_; rintro e w2 ⟨rfl, hB2⟩; replace hB := hB.trans (hB2.mono hB.size); clear hB2))
    go_ret2
    exact ⟨rfl, hB⟩
  | false =>
  rw [hbl] at hbk
  have hnb : isBlank c = false := hbl
  clear hbl
  cases hx1 : [47, 47].isPrefixOf (s.data.toList.drop a) with
  | true =>
    have hL : lexL (s.data.toList.drop a) = (11, lineLen (s.data.toList.drop a)) := by unfold lexL; rw [← hc, if_neg hfe, if_neg (by rw [hnb]; decide), if_pos hx1]
    rw [lexV_some hL (by decide)]
    rw [hx1] at hp1
    obtain ⟨E, hE⟩ : ∃ E, E = a + lineLen (s.data.toList.drop a) := ⟨_, rfl⟩
    rw [← hE]
    have HE := Lib.hid hE
    clear hL hfe hc hn hdr hx1 hE
    go_enter Tryz.func29, Tryz.ntmps29
    go_wp2_with (first
        | (go_at_call 36; refine (hrd _).mono ?_; rintro e w1 ⟨rfl, hB⟩)
        | (go_at_call 37; refine (hbk _).mono ?_; rintro e w2 ⟨rfl, hw2⟩; rw [← hw2]; clear hw2)
        | (go_at_call 39; clear t1; refine (hp1 _).mono ?_; rintro e w2 ⟨rfl, hw2⟩; rw [hw2]; clear hw2)
        | (go_at_call 39; clear t2; refine (hp2 _).mono ?_; rintro e w2 ⟨rfl, hw2⟩; rw [hw2]; clear hw2)
        | (go_at_call 40; refine (hle _).mono ?_; rintro e w2 ⟨rfl, hB2⟩; replace hB := hB.trans (hB2.mono hB.size); clear hB2))
    go_loopw [8] (fun iv wr => ∃ k : Nat, a ≤ k ∧ k ≤ s.size ∧ iv = .int .i64 k ∧ Hid (E = k + lineLen (s.data.toList.drop k)) ∧ Below w.heap.size w wr) (fun iv _ => s.size - (intOf iv).toNat)
    case atStart => exact ⟨a, Nat.le_refl _, by omega, rfl, HE, hB⟩
    case round =>
      clear hB
      obtain ⟨k, ka, ks, rfl, hR, hB⟩ := hrel
      by_cases hk : k < s.size
      · have i1 : (k : Int) < s.size := by omega
        have i2 : (0 : Int) ≤ k := by omega
        have b10 := bytes_n s[k] 10 10 rfl
        have hst := hR.out
        rw [line_step (at_of s k hk)] at hst
        by_cases h10 : s[k] = 10
        · rw [if_pos h10] at hst
          rw [decide_eq_true h10] at b10
          have g10 : ((s[k].toNat : Int) != 10) = false := by rw [bne, b10]; rfl
          have hEk : E = k := by omega
          subst hEk
          clear h10 hst hR
          go_wp2
          go_ret2
          exact ⟨rfl, hB⟩
        · rw [if_neg h10] at hst
          rw [decide_eq_false h10] at b10
          have g10 : ((s[k].toNat : Int) != 10) = true := by rw [bne, b10]; rfl
          have HS := Lib.hid (show E = k + 1 + lineLen (s.data.toList.drop (k + 1)) by omega)
          clear h10 hst hR
          go_wp2
          go_roundw
          case rel => exact ⟨k + 1, by omega, by omega, by go_num, HS, hB⟩
          case measure => simp [intOf]; omega
      · have i1 : ¬ (k : Int) < s.size := by omega
        have hEk : E = k := by
          have := hR.out
          rw [List.drop_of_length_le (by rw [hl]; omega)] at this
          simpa [lineLen] using this
        subst hEk
        clear hR
        go_wp2
        go_ret2
        exact ⟨rfl, hB⟩
  | false =>
  rw [hx1] at hp1
  cases hx2 : [47, 42].isPrefixOf (s.data.toList.drop a) with
  | true =>
    have ha2 : a + 2 ≤ s.size := by
      rw [hdr] at hx2
      obtain ⟨_, u, hu⟩ := prefix_two hx2
      have := congrArg List.length hu
      rw [List.length_drop, hl, List.length_cons] at this
      omega
    rw [hx2] at hp2
    obtain ⟨o, ho⟩ : ∃ o, o = blockLen (s.data.toList.drop (a + 2)) := ⟨_, rfl⟩
    obtain ⟨R, hR⟩ : ∃ R, R = lexAns (lexV s.data.toList a) := ⟨_, rfl⟩
    rw [← hR]
    have hRn : o = none → R = .tuple #[.int .u8 0, .int .i64 0] := fun h => by
      have hL : lexL (s.data.toList.drop a) = (0, 0) := by unfold lexL; rw [← hc, if_neg hfe, if_neg (by rw [hnb]; decide), if_neg (by rw [hx1]; decide), if_pos hx2, List.drop_drop, ← ho, h]
      rw [hR, lexV_none hL]; rfl
    have hRs : ∀ j, o = some j → R = .tuple #[.int .u8 12, .int .i64 ((a + (j + 4) : Nat) : Int)] := fun j h => by
      have hL : lexL (s.data.toList.drop a) = (12, j + 4) := by unfold lexL; rw [← hc, if_neg hfe, if_neg (by rw [hnb]; decide), if_neg (by rw [hx1]; decide), if_pos hx2, List.drop_drop, ← ho, h]
      rw [hR, lexV_some hL (by decide)]; rfl
    have HO := Lib.hid (show o = (blockLen (s.data.toList.drop (a + 2))).map (· + 0) by rw [ho]; simp)
    have HRN := Lib.hid hRn
    have HRS := Lib.hid hRs
    obtain ⟨A, hA⟩ : ∃ A, a + 2 = A := ⟨_, rfl⟩
    have eA : (a : Int) + 2 = (A : Int) := by omega
    rw [hA] at HO
    have t3 : True := trivial
    clear hfe hc hn hdr hx1 hx2 ho hR hRn hRs
    go_enter Tryz.func29, Tryz.ntmps29
    go_wp2_with (first
        | (go_at_call 36; refine (hrd _).mono ?_; rintro e w1 ⟨rfl, hB⟩)
        | (go_at_call 37; refine (hbk _).mono ?_; rintro e w2 ⟨rfl, hw2⟩; rw [← hw2]; clear hw2)
        | (go_at_call 39; clear t1; refine (hp1 _).mono ?_; rintro e w2 ⟨rfl, hw2⟩; rw [hw2]; clear hw2)
        | (go_at_call 39; clear t2; refine (hp2 _).mono ?_; rintro e w2 ⟨rfl, hw2⟩; rw [hw2]; clear hw2)
        | (go_at_call 40; refine (hle _).mono ?_; rintro e w2 ⟨rfl, hB2⟩; replace hB := hB.trans (hB2.mono hB.size); clear hB2))
    go_loopw [9] (fun iv wr => ∃ k d : Nat, k = A + d ∧ k ≤ s.size ∧ iv = .int .i64 k ∧ Hid (o = (blockLen (s.data.toList.drop k)).map (· + d)) ∧ Below w.heap.size w wr) (fun iv _ => s.size - (intOf iv).toNat)
    case atStart => exact ⟨A, 0, by omega, by omega, rfl, HO, hB⟩
    case round =>
      clear hB
      obtain ⟨k, d, hkd, ks, rfl, hO, hB⟩ := hrel
      by_cases hk : k < s.size
      · have i1 : (k : Int) < s.size := by omega
        have i2 : (0 : Int) ≤ k := by omega
        have hpk : ∀ w, Calls Tryz.prog 39 #[.string s, .int .i64 k, .string ⟨#[42, 47]⟩] w fun e w' => e = .returned (.bool ([42, 47].isPrefixOf (s.data.toList.drop k))) ∧ w' = w := fun w => has_any s ⟨#[42, 47]⟩ hsz (by decide) k (by omega) w
        have hst := hO.out
        rw [block_step (by rw [hl]; exact hk)] at hst
        cases hpp : [42, 47].isPrefixOf (s.data.toList.drop k) with
        | true =>
          rw [hpp] at hpk hst
          rw [if_pos rfl] at hst
          have hRd := HRS.out d (by rw [hst]; simp)
          have hR2 : R = .tuple #[.int .u8 12, .int .i64 ((k : Int) + 2)] := by
            rw [hRd, show ((a + (d + 4) : Nat) : Int) = (k : Int) + 2 by omega]
          subst hR2
          clear hst hO HRN HRS HO hpp hRd hkd eA ha2 hp1 hp2 hrd hbk hle t3
          go_wp2_with (go_at_call 39; refine (hpk _).mono ?_; rintro e w2 ⟨rfl, hw2⟩; rw [hw2]; clear hw2)
          go_ret2
          exact ⟨rfl, hB⟩
        | false =>
          rw [hpp] at hpk hst
          rw [if_neg (by decide)] at hst
          have HO2 := Lib.hid (show o = (blockLen (s.data.toList.drop (k + 1))).map (· + (d + 1)) by
            rw [hst, Option.map_map]; congr 1; funext x; show x + 1 + d = x + (d + 1); omega)
          have HKD := Lib.hid hkd
          clear hst hO hpp hkd eA ha2 hp1 hp2 hrd hbk hle t3
          go_wp2_with (go_at_call 39; refine (hpk _).mono ?_; rintro e w2 ⟨rfl, hw2⟩; rw [hw2]; clear hw2)
          go_roundw
          case rel => exact ⟨k + 1, d + 1, by have := HKD.out; omega, by omega, by go_num, HO2, hB⟩
          case measure => simp [intOf]; omega
      · have i1 : ¬ (k : Int) < s.size := by omega
        have hRd := HRN.out (by
          have := hO.out
          rw [List.drop_of_length_le (by rw [hl]; omega)] at this
          simpa [blockLen] using this)
        subst hRd
        clear hO HRN HRS HO
        go_wp2
        go_ret2
        exact ⟨rfl, hB⟩
  | false =>
  rw [hx2] at hp2
  cases hlt : inside letters c with
  | true =>
    have hL : lexL (s.data.toList.drop a) = (if isWord ((s.data.toList.drop a).take (spanLen isPart (s.data.toList.drop a))) = true then 2 else 1, spanLen isPart (s.data.toList.drop a)) := by
      unfold lexL; rw [← hc, if_neg hfe, if_neg (by rw [hnb]; decide), if_neg (by rw [hx1]; decide), if_neg (by rw [hx2]; decide), if_pos hlt]
    have hrn := fun w => run_any s (by unfold maxLen; omega) a (by omega) 1 (.inr rfl) w
    rw [show sortP 1 = isPart from rfl, spanAt_len isPart _ _ _ (by omega)] at hrn
    have hsp := spanLen_le isPart (s.data.toList.drop a)
    rw [List.length_drop, hl] at hsp
    obtain ⟨m, hm⟩ : ∃ m, m = spanLen isPart (s.data.toList.drop a) := ⟨_, rfl⟩
    rw [← hm] at hrn hL hsp
    obtain ⟨E, hE⟩ : ∃ E, E = a + m := ⟨_, rfl⟩
    rw [← hE] at hrn
    have hsl := fun w => slice_run s a m (E : Int) (by omega) (by omega) w
    obtain ⟨X, hX⟩ : ∃ X, X = s.extract a (a + m) := ⟨_, rfl⟩
    rw [← hX] at hsl
    have hXl : X.data.toList = (s.data.toList.drop a).take m := by
      have := extract_list s a (a + m)
      rw [ByteArray.toList_eq] at this
      rw [hX, this, List.drop_take]; congr 1; omega
    have hw := fun w => rword_any X w
    rw [hXl] at hw
    have hEs : E ≤ s.size := by omega
    have haE : a ≤ E := by omega
    rw [hlt] at hle
    cases hwd : isWord ((s.data.toList.drop a).take m) with
    | true =>
      rw [hwd] at hL hw
      rw [lexV_some (show lexL (s.data.toList.drop a) = (2, m) from hL) (by decide), ← hE]
      clear hL hfe hc hn hdr hx1 hx2 hlt hm hE hX hXl hwd hsp
      go_enter Tryz.func29, Tryz.ntmps29
      go_wp2_with (first
          | (go_at_call 36; refine (hrd _).mono ?_; rintro e w1 ⟨rfl, hB⟩)
          | (go_at_call 37; refine (hbk _).mono ?_; rintro e w2 ⟨rfl, hw2⟩; rw [← hw2]; clear hw2)
          | (go_at_call 39; clear t1; refine (hp1 _).mono ?_; rintro e w2 ⟨rfl, hw2⟩; rw [hw2]; clear hw2)
          | (go_at_call 39; clear t2; refine (hp2 _).mono ?_; rintro e w2 ⟨rfl, hw2⟩; rw [hw2]; clear hw2)
          | (go_at_call 40; refine (hle _).mono ?_; rintro e w2 ⟨rfl, hB2⟩; replace hB := hB.trans (hB2.mono hB.size); clear hB2)
          | (go_at_call 38; refine (hrn _).mono ?_; rintro e w2 ⟨rfl, hB2⟩; replace hB := hB.trans (hB2.mono hB.size); clear hB2)
          | (go_at_call 41; refine (hw _).mono ?_; rintro e w2 ⟨rfl, hB2⟩; replace hB := hB.trans (hB2.mono hB.size); clear hB2))
      go_ret2
      exact ⟨rfl, hB⟩
    | false =>
      rw [hwd] at hL hw
      rw [lexV_some (show lexL (s.data.toList.drop a) = (1, m) from hL) (by decide), ← hE]
      clear hL hfe hc hn hdr hx1 hx2 hlt hm hE hX hXl hwd hsp
      go_enter Tryz.func29, Tryz.ntmps29
      go_wp2_with (first
          | (go_at_call 36; refine (hrd _).mono ?_; rintro e w1 ⟨rfl, hB⟩)
          | (go_at_call 37; refine (hbk _).mono ?_; rintro e w2 ⟨rfl, hw2⟩; rw [← hw2]; clear hw2)
          | (go_at_call 39; clear t1; refine (hp1 _).mono ?_; rintro e w2 ⟨rfl, hw2⟩; rw [hw2]; clear hw2)
          | (go_at_call 39; clear t2; refine (hp2 _).mono ?_; rintro e w2 ⟨rfl, hw2⟩; rw [hw2]; clear hw2)
          | (go_at_call 40; refine (hle _).mono ?_; rintro e w2 ⟨rfl, hB2⟩; replace hB := hB.trans (hB2.mono hB.size); clear hB2)
          | (go_at_call 38; refine (hrn _).mono ?_; rintro e w2 ⟨rfl, hB2⟩; replace hB := hB.trans (hB2.mono hB.size); clear hB2)
          | (go_at_call 41; refine (hw _).mono ?_; rintro e w2 ⟨rfl, hB2⟩; replace hB := hB.trans (hB2.mono hB.size); clear hB2))
      go_ret2
      exact ⟨rfl, hB⟩
  | false =>
  rw [hlt] at hle
  have hnm := fun w => Num.refScan_any s hs (a : Int) (by omega) (by omega) w
  cases hst : Num.starts (s.data.toList.drop a) with
  | true =>
    obtain ⟨m, hm⟩ : ∃ m, m = Num.runLen (s.data.toList.drop a) := ⟨_, rfl⟩
    obtain ⟨K, hK⟩ : ∃ K, K = Num.kindOf ((s.data.toList.drop a).take m) := ⟨_, rfl⟩
    have hsc : Num.scanOf Num.kindOf s.data.toList (a : Int) = if K = 0 then (0, 0, 4) else (K, ((a + m : Nat) : Int), 0) := by
      unfold Num.scanOf
      rw [show ((a : Int)).toNat = a by omega, hst, if_pos (by simp), ← hm, ← hK]
    have hLL : lexL (s.data.toList.drop a) = if K = 0 then (0, 0) else (K, m) := by
      unfold lexL; rw [← hc, if_neg hfe, if_neg (by rw [hnb]; decide), if_neg (by rw [hx1]; decide), if_neg (by rw [hx2]; decide), if_neg (by rw [hlt]; decide), if_pos hst, ← hm, ← hK]
    rw [hsc] at hnm
    by_cases hK0 : K = 0
    · rw [if_pos hK0] at hnm hLL
      rw [lexV_none hLL]
      have hnm' : ∀ w, Calls Tryz.prog 42 #[.string s, .int .i64 a] w fun e w' => e = .returned (.tuple #[.int .u8 0, .int .i64 0, .int .i64 4]) ∧ Below w.heap.size w w' := hnm
      clear hfe hc hn hdr hx1 hx2 hlt hLL hsc hst hm hK hK0 hnm
      go_enter Tryz.func29, Tryz.ntmps29
      go_wp2_with (first
          | (go_at_call 36; refine (hrd _).mono ?_; rintro e w1 ⟨rfl, hB⟩)
          | (go_at_call 37; refine (hbk _).mono ?_; rintro e w2 ⟨rfl, hw2⟩; rw [← hw2]; clear hw2)
          | (go_at_call 39; clear t1; refine (hp1 _).mono ?_; rintro e w2 ⟨rfl, hw2⟩; rw [hw2]; clear hw2)
          | (go_at_call 39; clear t2; refine (hp2 _).mono ?_; rintro e w2 ⟨rfl, hw2⟩; rw [hw2]; clear hw2)
          | (go_at_call 40; refine (hle _).mono ?_; rintro e w2 ⟨rfl, hB2⟩; replace hB := hB.trans (hB2.mono hB.size); clear hB2)
          | (go_at_call 42; refine (hnm' _).mono ?_; rintro e w2 ⟨rfl, hB2⟩; replace hB := hB.trans (hB2.mono hB.size); clear hB2))
      go_ret2
      exact ⟨rfl, hB⟩
    · rw [if_neg hK0] at hnm hLL
      rw [lexV_some hLL hK0]
      have hnm' : ∀ w, Calls Tryz.prog 42 #[.string s, .int .i64 a] w fun e w' => e = .returned (.tuple #[.int .u8 K, .int .i64 ((a + m : Nat) : Int), .int .i64 0]) ∧ Below w.heap.size w w' := hnm
      clear hfe hc hn hdr hx1 hx2 hlt hLL hsc hst hm hK hK0 hnm
      go_enter Tryz.func29, Tryz.ntmps29
      go_wp2_with (first
          | (go_at_call 36; refine (hrd _).mono ?_; rintro e w1 ⟨rfl, hB⟩)
          | (go_at_call 37; refine (hbk _).mono ?_; rintro e w2 ⟨rfl, hw2⟩; rw [← hw2]; clear hw2)
          | (go_at_call 39; clear t1; refine (hp1 _).mono ?_; rintro e w2 ⟨rfl, hw2⟩; rw [hw2]; clear hw2)
          | (go_at_call 39; clear t2; refine (hp2 _).mono ?_; rintro e w2 ⟨rfl, hw2⟩; rw [hw2]; clear hw2)
          | (go_at_call 40; refine (hle _).mono ?_; rintro e w2 ⟨rfl, hB2⟩; replace hB := hB.trans (hB2.mono hB.size); clear hB2)
          | (go_at_call 42; refine (hnm' _).mono ?_; rintro e w2 ⟨rfl, hB2⟩; replace hB := hB.trans (hB2.mono hB.size); clear hB2))
      go_ret2
      exact ⟨rfl, hB⟩
  | false =>
  have hsc : Num.scanOf Num.kindOf s.data.toList (a : Int) = (0, 0, 15) := by
    unfold Num.scanOf
    rw [show ((a : Int)).toNat = a by omega, hst, if_neg (by simp)]
  rw [hsc] at hnm
  have hnm' : ∀ w, Calls Tryz.prog 42 #[.string s, .int .i64 a] w fun e w' => e = .returned (.tuple #[.int .u8 0, .int .i64 0, .int .i64 15]) ∧ Below w.heap.size w w' := hnm
  clear hnm hsc
  have hqs := fun w => docscan_any s hsz (a : Int) w
  have hma2 : markAt s.data.toList (a : Int) = markAt (s.data.toList.drop a) 0 := by
    unfold markAt
    rw [show ((a : Int)).toNat = a by omega, show ((0 : Int)).toNat = 0 from rfl, List.getElem?_drop, Nat.add_zero, decide_eq_true (by omega), decide_eq_true (by omega)]
  cases hma : markAt (s.data.toList.drop a) 0 with
  | true =>
    have hsp : scanP s.data.toList (a : Int) = scanAns (readOf s.data.toList a) := by unfold scanP; rw [if_pos (by rw [hma2, hma]), show ((a : Int)).toNat = a by omega]
    rw [hsp, readOf_rel] at hqs
    have hLL : lexL (s.data.toList.drop a) = lexQ (readOf (s.data.toList.drop a) 0) := by
      unfold lexL; rw [← hc, if_neg hfe, if_neg (by rw [hnb]; decide), if_neg (by rw [hx1]; decide), if_neg (by rw [hx2]; decide), if_neg (by rw [hlt]; decide), if_neg (by rw [hst]; decide), if_pos hma]
    cases hro : readOf (s.data.toList.drop a) 0 with
    | none =>
      rw [hro] at hqs hLL
      rw [lexV_none (show lexL (s.data.toList.drop a) = (0, 0) from hLL)]
      have hqs' : ∀ w, Calls Tryz.prog 43 #[.string s, .int .i64 a] w fun e w' => e = .returned (.tuple #[.int .u8 0, .int .i64 0, .int .i64 4]) ∧ Below w.heap.size w w' := hqs
      clear hfe hc hn hdr hx1 hx2 hlt hma hma2 hsp hLL hro hqs hst
      go_enter Tryz.func29, Tryz.ntmps29
      go_wp2_with (first
          | (go_at_call 36; refine (hrd _).mono ?_; rintro e w1 ⟨rfl, hB⟩)
          | (go_at_call 37; refine (hbk _).mono ?_; rintro e w2 ⟨rfl, hw2⟩; rw [← hw2]; clear hw2)
          | (go_at_call 39; clear t1; refine (hp1 _).mono ?_; rintro e w2 ⟨rfl, hw2⟩; rw [hw2]; clear hw2)
          | (go_at_call 39; clear t2; refine (hp2 _).mono ?_; rintro e w2 ⟨rfl, hw2⟩; rw [hw2]; clear hw2)
          | (go_at_call 40; refine (hle _).mono ?_; rintro e w2 ⟨rfl, hB2⟩; replace hB := hB.trans (hB2.mono hB.size); clear hB2)
          | (go_at_call 42; refine (hnm' _).mono ?_; rintro e w2 ⟨rfl, hB2⟩; replace hB := hB.trans (hB2.mono hB.size); clear hB2)
          | (go_at_call 43; refine (hqs' _).mono ?_; rintro e w2 ⟨rfl, hB2⟩; replace hB := hB.trans (hB2.mono hB.size); clear hB2))
      go_ret2
      exact ⟨rfl, hB⟩
    | some x =>
      obtain ⟨K, L, m⟩ := x
      rw [hro] at hqs hLL
      have hK := readOf_kind hro
      rw [lexV_some (show lexL (s.data.toList.drop a) = (K, m) from hLL) (by omega)]
      have hqs' : ∀ w, Calls Tryz.prog 43 #[.string s, .int .i64 a] w fun e w' => e = .returned (.tuple #[.int .u8 K, .int .i64 ((a + m : Nat) : Int), .int .i64 0]) ∧ Below w.heap.size w w' := hqs
      clear hfe hc hn hdr hx1 hx2 hlt hma hma2 hsp hLL hro hqs hst hK
      go_enter Tryz.func29, Tryz.ntmps29
      go_wp2_with (first
          | (go_at_call 36; refine (hrd _).mono ?_; rintro e w1 ⟨rfl, hB⟩)
          | (go_at_call 37; refine (hbk _).mono ?_; rintro e w2 ⟨rfl, hw2⟩; rw [← hw2]; clear hw2)
          | (go_at_call 39; clear t1; refine (hp1 _).mono ?_; rintro e w2 ⟨rfl, hw2⟩; rw [hw2]; clear hw2)
          | (go_at_call 39; clear t2; refine (hp2 _).mono ?_; rintro e w2 ⟨rfl, hw2⟩; rw [hw2]; clear hw2)
          | (go_at_call 40; refine (hle _).mono ?_; rintro e w2 ⟨rfl, hB2⟩; replace hB := hB.trans (hB2.mono hB.size); clear hB2)
          | (go_at_call 42; refine (hnm' _).mono ?_; rintro e w2 ⟨rfl, hB2⟩; replace hB := hB.trans (hB2.mono hB.size); clear hB2)
          | (go_at_call 43; refine (hqs' _).mono ?_; rintro e w2 ⟨rfl, hB2⟩; replace hB := hB.trans (hB2.mono hB.size); clear hB2))
      go_ret2
      exact ⟨rfl, hB⟩
  | false =>
  have hsp : scanP s.data.toList (a : Int) = (0, 0, 15) := by unfold scanP; rw [if_neg (by rw [hma2, hma]; decide)]
  rw [hsp] at hqs
  have hqs' : ∀ w, Calls Tryz.prog 43 #[.string s, .int .i64 a] w fun e w' => e = .returned (.tuple #[.int .u8 0, .int .i64 0, .int .i64 15]) ∧ Below w.heap.size w w' := hqs
  clear hqs hsp hma2
  have b59 := bytes_n s[a] 59 59 rfl
  have i1 : (a : Int) < s.size := by omega
  have i2 : (0 : Int) ≤ a := by omega
  by_cases h59 : s[a] = 59
  · have hL : lexL (s.data.toList.drop a) = (9, 1) := by
      unfold lexL; rw [← hc, if_neg hfe, if_neg (by rw [hnb]; decide), if_neg (by rw [hx1]; decide), if_neg (by rw [hx2]; decide), if_neg (by rw [hlt]; decide), if_neg (by rw [hst]; decide), if_neg (by rw [hma]; decide), if_pos (by rw [hdr, h59]; rfl)]
    rw [decide_eq_true h59] at b59
    rw [lexV_some hL (by decide)]
    clear hfe hc hn hdr hx1 hx2 hlt hL hma h59 hst
    go_enter Tryz.func29, Tryz.ntmps29
    go_wp2_with (first
        | (go_at_call 36; refine (hrd _).mono ?_; rintro e w1 ⟨rfl, hB⟩)
        | (go_at_call 37; refine (hbk _).mono ?_; rintro e w2 ⟨rfl, hw2⟩; rw [← hw2]; clear hw2)
        | (go_at_call 39; clear t1; refine (hp1 _).mono ?_; rintro e w2 ⟨rfl, hw2⟩; rw [hw2]; clear hw2)
        | (go_at_call 39; clear t2; refine (hp2 _).mono ?_; rintro e w2 ⟨rfl, hw2⟩; rw [hw2]; clear hw2)
        | (go_at_call 40; refine (hle _).mono ?_; rintro e w2 ⟨rfl, hB2⟩; replace hB := hB.trans (hB2.mono hB.size); clear hB2)
        | (go_at_call 42; refine (hnm' _).mono ?_; rintro e w2 ⟨rfl, hB2⟩; replace hB := hB.trans (hB2.mono hB.size); clear hB2)
        | (go_at_call 43; refine (hqs' _).mono ?_; rintro e w2 ⟨rfl, hB2⟩; replace hB := hB.trans (hB2.mono hB.size); clear hB2))
    go_ret2
    exact ⟨rfl, hB⟩
  rw [decide_eq_false h59] at b59
  have hh59 : ¬ (s.data.toList.drop a).head? = some 59 := by rw [hdr]; simpa using h59
  have hLL : lexL (s.data.toList.drop a) = if signLen (s.data.toList.drop a) = 0 then (0, 0) else (8, signLen (s.data.toList.drop a)) := by
    unfold lexL; rw [← hc, if_neg hfe, if_neg (by rw [hnb]; decide), if_neg (by rw [hx1]; decide), if_neg (by rw [hx2]; decide), if_neg (by rw [hlt]; decide), if_neg (by rw [hst]; decide), if_neg (by rw [hma]; decide), if_neg hh59]
  rw [← best_sign] at hLL
  obtain ⟨R, hR⟩ : ∃ R, R = lexAns (lexV s.data.toList a) := ⟨_, rfl⟩
  rw [← hR]
  have hRR : R = if bestAt (s.data.toList.drop a) 47 = 0 then .tuple #[.int .u8 0, .int .i64 0] else .tuple #[.int .u8 8, .int .i64 ((a + bestAt (s.data.toList.drop a) 47 : Nat) : Int)] := by
    by_cases hb : bestAt (s.data.toList.drop a) 47 = 0
    · rw [if_pos hb] at hLL ⊢; rw [hR, lexV_none hLL]; rfl
    · rw [if_neg hb] at hLL ⊢; rw [hR, lexV_some hLL (by decide)]; rfl
  have HR := Lib.hid hRR
  have hsg := fun w => rsigns_any w
  have hbb := fun i hi => (bestAt_is (s.data.toList.drop a) i hi).1
  have HBB := Lib.hid hbb
  clear hfe hc hn hdr hx1 hx2 hlt hLL hma h59 hh59 hst hR hRR hbb
  go_enter Tryz.func29, Tryz.ntmps29
  go_wp2_with (first
      | (go_at_call 36; refine (hrd _).mono ?_; rintro e w1 ⟨rfl, hB⟩)
      | (go_at_call 37; refine (hbk _).mono ?_; rintro e w2 ⟨rfl, hw2⟩; rw [← hw2]; clear hw2)
      | (go_at_call 39; clear t1; refine (hp1 _).mono ?_; rintro e w2 ⟨rfl, hw2⟩; rw [hw2]; clear hw2)
      | (go_at_call 39; clear t2; refine (hp2 _).mono ?_; rintro e w2 ⟨rfl, hw2⟩; rw [hw2]; clear hw2)
      | (go_at_call 40; refine (hle _).mono ?_; rintro e w2 ⟨rfl, hB2⟩; replace hB := hB.trans (hB2.mono hB.size); clear hB2)
      | (go_at_call 42; refine (hnm' _).mono ?_; rintro e w2 ⟨rfl, hB2⟩; replace hB := hB.trans (hB2.mono hB.size); clear hB2)
      | (go_at_call 43; refine (hqs' _).mono ?_; rintro e w2 ⟨rfl, hB2⟩; replace hB := hB.trans (hB2.mono hB.size); clear hB2)
      | (go_at_call 44; refine (hsg _).mono ?_; rintro e w5 ⟨rfl, hw5⟩; have hP := strs_new w2 9 _ signs rfl; have hB5 := hB.alloc hB.size (.cells (strCells signs).toArray 9); rw [← hw5] at hP hB5; have hz5 : w2.heap.size < w5.heap.size := (by rw [hw5]; simp); have HP := Lib.hid hP; clear hw5 hP))
  clear hrd hbk hle hp1 hp2 hnm' hqs' hsg hdw b59 q1 hnb
  go_loopw [14, 16] (fun v iv wr => ∃ i : Nat, i ≤ 47 ∧ iv = .int .i64 i ∧ v = .int .i64 (bestAt (s.data.toList.drop a) i : Nat) ∧ Hid (Strs wr w2.heap.size signs) ∧ Below w.heap.size w wr) (fun _ iv _ => 47 - (intOf iv).toNat)
  case atStart => exact ⟨0, by omega, rfl, rfl, HP, hB5⟩
  case round =>
    clear hB hB5 HP
    obtain ⟨i, hi, rfl, rfl, HP, hB⟩ := hrel
    have hb3 := HBB.out i hi
    obtain ⟨b, hb⟩ : ∃ b, b = bestAt (s.data.toList.drop a) i := ⟨_, rfl⟩
    rw [← hb] at hb3
    rw [← hb]
    by_cases hlt : i < 47
    · obtain ⟨x, hx, hgx⟩ : ∃ x, signs[i]? = some x ∧ signs.getD i [] = x := ⟨signs[i]'hlt, List.getElem?_eq_getElem hlt, by rw [List.getD_eq_getElem?_getD, List.getElem?_eq_getElem hlt]; rfl⟩
      have hxs := signs_small x (List.mem_of_getElem? hx)
      have hc1 := HP.out i x hx
      obtain ⟨S, hS⟩ : ∃ S : ByteArray, S = ⟨x.toArray⟩ := ⟨_, rfl⟩
      rw [← hS] at hc1
      have hSl : S.data.toList = x := by rw [hS]
      have hSz : x.length = S.size := by rw [← hSl]; simp
      have hpk := fun w => has_any s S hsz (by omega) a (by omega) w
      rw [hSl] at hpk
      have hstep := bestAt_step (s.data.toList.drop a) i
      rw [hgx, ← hb] at hstep
      have j1 : (i : Int) < 47 := by omega
      have j2 : (0 : Int) ≤ i := by omega
      cases hpp : x.isPrefixOf (s.data.toList.drop a) with
      | true =>
        rw [hpp] at hpk hstep
        by_cases hbl : b < S.size
        · rw [if_pos ⟨rfl, by omega⟩, hSz] at hstep
          have g1 : (b : Int) < S.size := by omega
          have HS := Lib.hid hstep
          clear hstep hpp hx hgx hxs hS hSl hSz hb
          go_wp2_with (go_at_call 39; refine (hpk _).mono ?_; rintro e wq ⟨rfl, hwq⟩; rw [hwq]; clear hwq)
          go_roundw
          case rel => exact ⟨i + 1, by omega, by go_num, by rw [HS.out], HP, hB⟩
          case measure => simp [intOf]; omega
        · rw [if_neg (by omega)] at hstep
          have g1 : ¬ (b : Int) < S.size := by omega
          have HS := Lib.hid hstep
          clear hstep hpp hx hgx hxs hS hSl hSz hb
          go_wp2_with (go_at_call 39; refine (hpk _).mono ?_; rintro e wq ⟨rfl, hwq⟩; rw [hwq]; clear hwq)
          go_roundw
          case rel => exact ⟨i + 1, by omega, by go_num, by rw [HS.out], HP, hB⟩
          case measure => simp [intOf]; omega
      | false =>
        rw [hpp] at hpk hstep
        rw [if_neg (by rintro ⟨h, _⟩; exact absurd h (by decide))] at hstep
        have HS := Lib.hid hstep
        clear hstep hpp hx hgx hxs hS hSl hSz hb
        go_wp2_with (go_at_call 39; refine (hpk _).mono ?_; rintro e wq ⟨rfl, hwq⟩; rw [hwq]; clear hwq)
        go_roundw
        case rel => exact ⟨i + 1, by omega, by go_num, by rw [HS.out], HP, hB⟩
        case measure => simp [intOf]; omega
    · obtain rfl : i = 47 := by omega
      have hR2 := HR.out
      rw [← hb] at hR2
      by_cases hz : b = 0
      · rw [if_pos hz] at hR2
        have g0 : ((b : Int) == 0) = true := by rw [hz]; rfl
        subst hR2
        clear hb HR HBB hz
        go_wp2
        go_ret2
        exact ⟨rfl, hB⟩
      · rw [if_neg hz, show ((a + b : Nat) : Int) = (a : Int) + (b : Int) by omega] at hR2
        have g0 : ((b : Int) == 0) = false := by simpa using hz
        subst hR2
        clear hb HR HBB hz
        go_wp2
        go_ret2
        exact ⟨rfl, hB⟩
end Go.Proofs.YtbkmlldhjchhjaaGreat

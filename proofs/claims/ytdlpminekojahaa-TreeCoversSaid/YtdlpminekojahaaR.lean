/-
  Layer 10: contract of the law TreeCovers.
-/
import Derived.Test.YtdlpminekojahaaQ
namespace Go.Proofs.Ytdlpminekojahaa
open Go.ChangeShapes Go.WideShapes Go.ChangeAt Go.RowKit

theorem self_mono {n n' : Int} {x : Nd} (h : n ≤ n') (g : selfB n x = true) : selfB n' x = true := by
  rw [self_say] at g ⊢; omega
theorem refN_mono {n n' : Int} (h : n ≤ n') : ∀ (p : Nat) (l : List Nd), refN n p l = true → refN n' p l = true := by
  intro p
  induction p with
  | zero => intro l _; rfl
  | succ p ih =>
    intro l g
    cases l with
    | nil => rfl
    | cons x l =>
      simp only [refN, Bool.and_eq_true] at g ⊢
      exact ⟨⟨self_mono h g.1.1, g.1.2⟩, ih l g.2⟩
theorem tree_more {l : List Nd} (h : treeB 200 l = true) : treeB 131072 l = true := by
  unfold treeB at h ⊢
  rw [Bool.and_eq_true] at h ⊢
  exact ⟨h.1, refN_mono (by decide) _ _ h.2⟩
/-- how often a token is met in the first of a list's numbers -/
theorem count_take {xs : List Int} {k : Nat} {x t : Int} (h : xs[k]? = some x) : (xs.take (k + 1)).count t = (xs.take k).count t + if x = t then 1 else 0 := by
  rw [List.take_add_one, h, List.count_append]
  simp [List.count_cons]
set_option maxHeartbeats 8000000 in
theorem lawcovers_any (w : World) (a : Option Addr) (n cap : Nat) (l : List Nd) (hl : Nodes w a n l) (hK : KidsFit l) :
    Calls Try.prog 5 #[.slice a n cap] w fun e w' => e = .returned (.bool true) ∧ Below w.heap.size w w' := by
  by_cases hbig : 60 < n
  · go_enter Try.func5, Try.ntmps5
    go_wp2_with (go_at_call 7; refine (fixed_any _).mono ?_; rintro e w1 ⟨rfl, hB⟩)
    go_ret
    exact ⟨rfl, hB⟩
  have hn : n ≤ 60 := by omega
  have h1 := fun w hl => check_any 200 w a n cap l hl (by omega) hK
  cases ht : treeB 200 l with
  | false =>
    have hc : checkN 200 l = 8 := by unfold checkN; rw [if_neg (by decide), ht]; rfl
    rw [hc] at h1
    have HL := Lib.hid hl
    clear hl hc ht
    go_enter Try.func5, Try.ntmps5
    go_wp2_with (first
      | (go_at_call 8; refine (h1 _ HL.out).mono ?_; rintro e w2 ⟨rfl, hB2⟩)
      | (go_at_call 7; refine (fixed_any _).mono ?_; rintro e w1 ⟨rfl, hB⟩))
    go_ret
    exact ⟨rfl, below_chain hB2 hB⟩
  | true =>
    have hc : checkN 200 l = 0 := by unfold checkN; rw [if_neg (by decide), ht]; rfl
    rw [hc] at h1
    have ht2 : treeB 131072 l = true := tree_more ht
    have hw := well_goes.1 (tree_well ht)
    have hwl := goes_le hw
    rw [kidsL_len, hl.1] at hwl
    have hn0 : 0 < n := by omega
    have hsf := self_lo (tree_at ht (i := 0) (by rw [hl.1]; exact hn0)).1
    have HT := Lib.hid ht2
    have HL := Lib.hid hl
    have HLN := Lib.hid hl.1
    have HH : Hid (∀ i : Nat, i < n → hasN l (i : Int) = true) := Lib.hid (fun i hi => by unfold hasN; rw [decide_eq_true (by omega), decide_eq_true (by have := hl.1; omega), ht2]; rfl)
    have HO := Lib.hid (fun w hl i => Own_any w a n cap l hl (by omega) hK i)
    have HV := Lib.hid (fun w hl t => Over_any w a n cap l hl (by omega) hK t)
    have HOI : Hid (∀ i : Nat, i < n → ownI l (i : Int) = ownN l i) := Lib.hid (fun i hi => by rw [ownI, if_pos (HH.out i hi), Int.toNat_natCast])
    have HVI : Hid (∀ t, overI l t = overN l t) := Lib.hid (fun t => by rw [overI, if_pos ht2])
    have HTO := Lib.hid (fun t h1 h2 => tree_own ht2 t h1 h2)
    obtain ⟨g0, o0, rfl, _, _, _, c3, c4⟩ := hl.2 0 _ (nodes_some hl hn0)
    have hg0 : g0 < w.heap.size := cell_lt c3
    obtain ⟨lo, hlo⟩ : ∃ x, x = (l.getD 0 nd0).lo := ⟨_, rfl⟩
    obtain ⟨hi, hhi⟩ : ∃ x, x = (l.getD 0 nd0).hi := ⟨_, rfl⟩
    rw [← hlo] at c3 hsf HTO
    rw [← hhi] at c4 hsf HTO
    rw [show o0 + 0 * 5 + 3 = o0 + 3 by omega] at c3
    rw [show o0 + 0 * 5 + 4 = o0 + 4 by omega] at c4
    have HC3 := Lib.hid c3
    have HC4 := Lib.hid c4
    have q0 : ((n : Int) == 0) = false := by simp; omega
    have q5 : ¬ (n : Int) = 0 := by omega
    have q1 : decide ((200 : Int) < hi - lo) = false := decide_eq_false (by omega)
    have q2 : IntKind.i64.wrap (hi - lo) = hi - lo := by rw [IntKind.wrap_i64]; omega
    clear hl hc ht ht2 hw hwl hlo hhi c3 c4
    have j1 : (0 : Int) < n := by omega
    go_enter Try.func5, Try.ntmps5
    go_wp2_with (go_at_call 8; refine (h1 _ HL.out).mono ?_; rintro e w1 ⟨rfl, hB1⟩; have c3 := (hB1.cell (p := ⟨g0, o0 + 3, none⟩) hg0).trans HC3.out; have c4 := (hB1.cell (p := ⟨g0, o0 + 4, none⟩) hg0).trans HC4.out; have HB1 := Lib.hid hB1; clear hB1)
    clear h1
    first | go_quiet (fail) | fail
    go_wp2
    go_loopw [3, 4, 5, 6, 7, 8] (fun u _ _ _ _ _ wr => ∃ t : Int, lo ≤ t ∧ t ≤ hi ∧ u = .int .i64 t ∧ Hid (Below w.heap.size w wr)) (fun u _ _ _ _ _ _ => (hi - intOf u).toNat)
    case atStart => exact ⟨lo, Int.le_refl _, hsf.2.1, rfl, Lib.hid (below_drewN HB1.out _)⟩
    case round =>
      obtain ⟨t, ht1, ht2, rfl, HB⟩ := hrel
      have c3 := (HB.out.cell (p := ⟨g0, o0 + 3, none⟩) hg0).trans HC3.out
      have c4 := (HB.out.cell (p := ⟨g0, o0 + 4, none⟩) hg0).trans HC4.out
      by_cases hlt : t < hi
      · obtain ⟨o, hon, hov, hoo, hou⟩ := HTO.out t ht1 hlt
        rw [HLN.out] at hon hou
        have HOV : Hid (overI l t = o) := Lib.hid (by rw [HVI.out, hov])
        have HOU : Hid (∀ i, i < n → (ownN l i).count t = if i = o then 1 else 0) := Lib.hid (fun i hi => by
          rw [own_count]
          by_cases hio : i = o
          · subst hio; rw [if_pos hoo, if_pos rfl]
          · rw [if_neg (fun h => hio (hou i hi h)), if_neg hio])
        clear hov hoo hou
        go_wp2
        go_loopw [4, 5, 6, 7, 8] (fun u v x _ _ wr => ∃ (i c : Nat) (q : Int), i ≤ n ∧ x = .int .i64 i ∧ v = .int .i64 c ∧ u = .int .i64 q ∧ c ≤ 1 ∧ Hid (c = (if o < i then 1 else 0) ∧ q = (if o < i then (o : Int) else -1)) ∧ Hid (Below w.heap.size w wr)) (fun _ _ x _ _ _ => n - (intOf x).toNat)
        case atStart => exact ⟨0, 0, -1, Nat.zero_le _, rfl, rfl, rfl, Nat.zero_le _, Lib.hid ⟨rfl, rfl⟩, HB⟩
        case round =>
          obtain ⟨i, c, q, hin, rfl, rfl, rfl, hc1, HQ, HB2⟩ := hrel
          by_cases hil : i < n
          · have hown := HO.out _ (nodes_below HL.out HB2.out) (i : Int)
            rw [HOI.out i hil] at hown
            have HCT := Lib.hid (HOU.out i hil)
            generalize ownN l i = xs at hown HCT
            have hxc : xs.count t ≤ 1 := by rw [HCT.out]; split <;> omega
            have hxk : ∀ k, (xs.take k).count t ≤ 1 := fun k => Nat.le_trans (List.Sublist.count_le t (List.take_sublist k xs)) hxc
            have HXK := Lib.hid hxk
            clear hxk hxc
            go_wp2_with (go_at_call 16; refine hown.mono ?_; rintro e w3 ⟨⟨v3, rfl, hM⟩, hB3⟩; obtain ⟨ka, kc, rfl, hI, hml, _⟩ := mineI_ints hM; have HI := Lib.hid hI; have HB3 := Lib.hid (below_chain HB2.out hB3); clear hM hI hB3)
            unfold maxLen at hml
            obtain ⟨m, hm⟩ : ∃ m, m = xs.length := ⟨_, rfl⟩
            rw [← hm] at hml ⊢
            have HM := Lib.hid hm
            clear hm hown
            go_loop [4, 5, 8] (fun u v x => ∃ (k d : Nat) (r : Int), k ≤ m ∧ x = .int .i64 k ∧ v = .int .i64 ((c : Int) + d) ∧ u = .int .i64 r ∧ d ≤ 1 ∧ Hid (d = (xs.take k).count t ∧ r = if d = 1 then (i : Int) else q)) (fun _ _ x => m - (intOf x).toNat)
            case atStart => exact ⟨0, 0, q, Nat.zero_le _, rfl, by simp, rfl, Nat.zero_le _, Lib.hid ⟨by simp, by simp⟩⟩
            case round =>
              obtain ⟨k, d, r, hk, rfl, rfl, rfl, hd1, HD⟩ := hrel
              by_cases hkm : k < m
              · obtain ⟨x, hx⟩ : ∃ x, xs[k]? = some x := ⟨_, List.getElem?_eq_getElem (by have := HM.out; omega)⟩
                obtain ⟨gk, rfl, ck⟩ := HI.out k x hx
                have hct := count_take (t := t) hx
                have hk1 := HXK.out (k + 1)
                have hdd := HD.out
                clear hx
                by_cases hxt : x = t
                · have q7 : (x == t) = true := by simpa using hxt
                  rw [if_pos hxt, ← hdd.1] at hct
                  have hd0 : d = 0 := by omega
                  have HN2 : Hid ((xs.take (k + 1)).count t = 1) := Lib.hid (by omega)
                  subst hd0
                  clear hct hk1 hdd hxt
                  go_wp2
                  go_round
                  case rel => exact ⟨k + 1, 1, i, by omega, by go_num, by first | rfl | go_num, rfl, Nat.le_refl _, Lib.hid ⟨HN2.out.symm, by rw [if_pos rfl]⟩⟩
                  case measure => simp [intOf]; omega
                · have q7 : (x == t) = false := by simpa using hxt
                  rw [if_neg hxt, ← hdd.1] at hct
                  have HN2 : Hid ((xs.take (k + 1)).count t = d) := Lib.hid (by omega)
                  have HR := Lib.hid hdd.2
                  clear hct hk1 hdd hxt
                  go_wp2
                  go_round
                  case rel => exact ⟨k + 1, d, r, by omega, by go_num, rfl, rfl, hd1, Lib.hid ⟨HN2.out.symm, HR.out⟩⟩
                  case measure => simp [intOf]; omega
              · have hkm2 : k = m := by omega
                have hdd := HD.out
                rw [List.take_of_length_le (by have := HM.out; omega), HCT.out] at hdd
                have hqq := HQ.out
                have hcd : c + d ≤ 1 := by
                  rw [hqq.1, hdd.1]
                  split <;> split <;> omega
                have HQ2 : Hid (c + d = (if o < i + 1 then 1 else 0) ∧ r = (if o < i + 1 then (o : Int) else -1)) := Lib.hid (by
                  rw [hdd.2, hdd.1, hqq.1, hqq.2]
                  by_cases h1 : i = o
                  · subst h1; simp
                  · by_cases h2 : o < i
                    · rw [if_pos h2, if_neg h1, if_pos (by omega), if_neg (by omega), if_pos h2, if_pos (by omega)]; exact ⟨rfl, rfl⟩
                    · rw [if_neg h2, if_neg h1, if_neg (by omega), if_neg (by omega), if_neg h2, if_neg (by omega)]; exact ⟨rfl, rfl⟩)
                clear hdd hqq hkm2
                go_wp2
                go_roundw
                case rel => exact ⟨i + 1, c + d, r, by omega, by go_num, by first | rfl | go_num, rfl, hcd, HQ2, HB3⟩
                case measure => simp [intOf]; omega
          · have hie : i = n := by omega
            have hqq := HQ.out
            rw [hie, if_pos hon, if_pos hon] at hqq
            obtain ⟨rfl, rfl⟩ := hqq
            have hv := HV.out _ (nodes_below HL.out HB2.out) t
            rw [HOV.out] at hv
            have q8 : ((o : Int) != o) = false := by simp
            clear hie
            go_wp2_with (go_at_call 13; refine hv.mono ?_; rintro e w5 ⟨rfl, hB5⟩; have HB5 := Lib.hid (below_chain HB2.out hB5); clear hB5)
            go_roundw
            case rel => exact ⟨t + 1, by omega, by omega, rfl, HB5⟩
            case measure => simp [intOf]; omega
      · go_wp2_with (go_at_call 7; refine (fixed_any _).mono ?_; rintro e w5 ⟨rfl, hB5⟩; have HB5 := Lib.hid (below_chain HB.out hB5); clear hB5)
        go_ret
        exact ⟨rfl, HB5.out⟩
end Go.Proofs.Ytdlpminekojahaa

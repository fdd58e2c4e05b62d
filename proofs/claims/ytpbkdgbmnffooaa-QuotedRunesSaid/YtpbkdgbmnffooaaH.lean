/-
  Layer 6: contract of the reader's stringText.
-/
import Derived.Test.YtpbkdgbmnffooaaG
namespace Go.Proofs.Ytpbkdgbmnffooaa
open Go.ChangeShapes Go.WideShapes Go.ChangeAt Go.RowKit

theorem form_le (r : Int) : (form r).length ≤ 4 := by
  cases h : isChar r with
  | true => have := form_len r h; omega
  | false => rw [form_none h]; simp
theorem sayOf_le {n : Nat} {m : UInt8} {t : Bool} {L : List UInt8} (h : sayOf n m t = some L) : L.length ≤ 4 := by
  unfold sayOf at h
  split at h
  · cases h; simp
  · split at h
    · cases h
    · split at h
      · cases h; exact form_le _
      · cases h
theorem escOf_grow {m : UInt8} {k : Nat} {l : List UInt8} {L : List UInt8} {k' : Nat} (h : escOf m k l = some (L, k')) : k < k' ∧ L.length ≤ k' - k + 1 := by
  cases l with
  | nil => cases h
  | cons c t =>
    rw [escOf_cons] at h
    split at h
    · cases hN : numOf 16 (digitsOf c) 0 t with
      | none => rw [hN] at h; cases h
      | some nr =>
        rw [hN] at h
        have h' : (sayOf nr.1 m (decide (c = 120))).map (fun L => (L, k + 1 + digitsOf c)) = some (L, k') := h
        cases hS : sayOf nr.1 m (decide (c = 120)) with
        | none => rw [hS] at h'; cases h'
        | some L0 =>
          rw [hS] at h'
          cases h'
          have := sayOf_le hS
          have hd : 2 ≤ digitsOf c := by unfold digitsOf; split <;> (try split) <;> omega
          omega
    · split at h
      · cases hN : numOf 8 3 0 (c :: t) with
        | none => rw [hN] at h; cases h
        | some nr =>
          rw [hN] at h
          have h' : (if nr.1 ≤ 255 then (sayOf nr.1 m true).map fun L => (L, k + 3) else none) = some (L, k') := h
          split at h'
          · cases hS : sayOf nr.1 m true with
            | none => rw [hS] at h'; cases h'
            | some L0 =>
              rw [hS] at h'
              cases h'
              have := sayOf_le hS
              omega
          · cases h'
      · split at h
        · split at h
          · cases h; simp
          · cases h
        · cases hn : named c with
          | none => rw [hn] at h; cases h
          | some x => rw [hn] at h; cases h; simp

/-- a string from a place on, behind its first mark: what it says, where it ends -/
def strOf (l : List UInt8) : Nat → Nat → List UInt8 → Option (List UInt8 × Nat)
  | 0, _, _ => none
  | f + 1, k, acc => match l[k]? with
    | none => none
    | some c => if c = 34 then some (acc, k + 1) else if c = 10 then none else if c = 92 then (escOf 34 (k + 1) (l.drop (k + 1))).bind fun x => strOf l f x.2 (acc ++ x.1) else strOf l f (k + 1) (acc ++ [c])
theorem strOf_some {l : List UInt8} {k : Nat} {c : UInt8} (f : Nat) (acc : List UInt8) (h : l[k]? = some c) : strOf l (f + 1) k acc =
    if c = 34 then some (acc, k + 1) else if c = 10 then none else if c = 92 then (escOf 34 (k + 1) (l.drop (k + 1))).bind fun x => strOf l f x.2 (acc ++ x.1) else strOf l f (k + 1) (acc ++ [c]) := by
  conv => lhs; unfold strOf
  rw [h]
theorem strOf_none {l : List UInt8} {k : Nat} (f : Nat) (acc : List UInt8) (h : l[k]? = none) : strOf l f k acc = none := by
  cases f with
  | zero => rfl
  | succ f => unfold strOf; rw [h]

set_option maxRecDepth 100000 in
set_option maxHeartbeats 8000000 in
theorem string_any (s : ByteArray) (hs : s.size ≤ 140737488351232) (b k : Nat) (v : Value) (T : List UInt8) (hT : T.length ≤ k) (w : World) (hR : Rd w b s k v T) :
    Calls Try.prog 27 #[.pointer (some ⟨b, 0, none⟩)] w fun e w' => e = .returned (.bool (strOf s.data.toList (s.size - k) k T).isSome) ∧ (∀ L k', strOf s.data.toList (s.size - k) k T = some (L, k') → (∃ v', Rd w' b s k' v' L)) ∧ Below b w w' := by
  obtain ⟨i0, hi, hz0, hz1, hz2⟩ := info_parts info5
  obtain ⟨A, hA⟩ : ∃ A, A = strOf s.data.toList (s.size - k) k T := ⟨_, rfl⟩
  rw [← hA]
  have HA := Lib.hid hA
  have HR := Lib.hid hR
  have hk := hR.hk
  clear hA hR
  go_enter Try.func27, Try.ntmps27
  go_wp2
  go_loopg [] (s.size - k) (fun g wr => ∃ (i f : Nat) (v : Value) (T : List UInt8), g = s.size - i ∧ i ≤ s.size ∧ s.size - i ≤ f ∧ T.length ≤ i ∧ Hid (Rd wr b s i v T) ∧ Below b w wr ∧ Hid (A = strOf s.data.toList f i T))
  case atStart => exact ⟨k, s.size - k, v, T, rfl, hk, Nat.le_refl _, hT, HR, Below.refl _ _, HA⟩
  case round =>
    obtain ⟨i, f, v, T, rfl, hi', hf, hTi, hRd, hB, hAi⟩ := hrel
    have c0 := hRd.out.c0
    have c1 := hRd.out.c1
    have f1 := hRd.out.f 1
    have hlt2 := hRd.out.lt
    by_cases hlt : i < s.size
    · obtain ⟨f', rfl⟩ : ∃ f', f = f' + 1 := ⟨f - 1, by omega⟩
      have hst := hAi.out
      rw [strOf_some f' T (at_of s i hlt)] at hst
      have d1 : decide (i < s.size) = true := decide_eq_true hlt
      have d2 : (i : Int) < s.size := by omega
      have d3 : (0 : Int) ≤ i := by omega
      have w1 : IntKind.i64.wrap ((i : Int) + 1) = (i : Int) + 1 := by rw [IntKind.wrap_i64]; omega
      have HM := Lib.hid (show ∀ m, Rd ((wr.drewN m).setCell ⟨b, 1, none⟩ (.int .i64 ((i : Int) + 1))) b s (i + 1) v T from fun m => (hRd.out.drewN m).move (i + 1) (by omega))
      have hBm := Lib.hid (show ∀ m, Below b w ((wr.drewN m).setCell ⟨b, 1, none⟩ (.int .i64 ((i : Int) + 1))) from fun m => (below_drewN hB m).setCell (p := ⟨b, 1, none⟩) (Nat.le_refl _) _)
      have b34 := bytes_n s[i] 34 34 rfl
      have b10 := bytes_n s[i] 10 10 rfl
      have b92 := bytes_n s[i] 92 92 rfl
      by_cases h34 : s[i] = 34
      · have hA2 : A = some (T, i + 1) := by rw [hst, if_pos h34]
        rw [decide_eq_true h34] at b34
        subst hA2
        clear hst b10 b92 h34 hAi
        go_upto_region 1 with fail
        go_quiet (fail)
        go_upto_region 2 with fail
        go_quiet (fail)
        go_wp2
        go_ret
        exact ⟨rfl, (fun L k' h => by cases h; exact ⟨v, HM.out _⟩), hBm.out _⟩
      rw [decide_eq_false h34] at b34
      rw [if_neg h34] at hst
      by_cases h10 : s[i] = 10
      · have hA2 : A = none := by rw [hst, if_pos h10]
        rw [decide_eq_true h10] at b10
        subst hA2
        clear hst b92 h34 h10 hAi
        go_upto_region 1 with fail
        go_quiet (fail)
        go_upto_region 2 with fail
        go_quiet (fail)
        go_wp2
        go_ret
        (first | exact ⟨rfl, (fun _ _ h => by cases h), hBm.out _⟩ | exact ⟨rfl, hBm.out _⟩)
      rw [decide_eq_false h10] at b10
      rw [if_neg h10] at hst
      by_cases h92 : s[i] = 92
      · rw [if_pos h92] at hst
        rw [decide_eq_true h92] at b92
        have hesc := fun m => escape_any s hs 34 b (i + 1) v T (by omega) _ (HM.out m)
        obtain ⟨X, hX⟩ : ∃ X, X = escOf 34 (i + 1) (s.data.toList.drop (i + 1)) := ⟨_, rfl⟩
        rw [← hX] at hesc hst
        have HX := Lib.hid hX
        have hesc' : ∀ m, Calls Try.prog 31 #[.pointer (some ⟨b, 0, none⟩), .int .u8 34] ((wr.drewN m).setCell ⟨b, 1, none⟩ (.int .i64 ((i : Int) + 1))) fun e w' => e = .returned (.bool X.isSome) ∧ (∀ L k', X = some (L, k') → ∃ v', Rd w' b s k' v' (T ++ L)) ∧ Below b ((wr.drewN m).setCell ⟨b, 1, none⟩ (.int .i64 ((i : Int) + 1))) w' := hesc
        clear hesc hX h34 h10 h92 hAi
        have b92' : ((s[i].toNat : Int) != 92) = false := by rw [bne, b92]; rfl
        cases X with
        | none =>
          have hA2 : A = none := hst
          subst hA2
          clear hst
          go_upto_region 1 with fail
          go_quiet (fail)
          go_upto_region 2 with fail
          go_quiet (fail)
          go_wp2_with (go_at_call 31; refine (hesc' _).mono ?_; rintro e w2 ⟨he, _, hB2⟩; have he' : e = .returned (.bool false) := he; clear he; subst he')
          go_ret
          (first | exact ⟨rfl, (fun _ _ h => by cases h), (hBm.out _).trans hB2⟩ | exact ⟨rfl, (hBm.out _).trans hB2⟩)
        | some x =>
          obtain ⟨L, k'⟩ := x
          have hA2 := Lib.hid (show A = strOf s.data.toList f' k' (T ++ L) from hst)
          obtain ⟨g1, g2⟩ := escOf_grow HX.out.symm
          have hTL : (T ++ L).length ≤ k' := by rw [List.length_append]; omega
          have HTL := Lib.hid hTL
          clear hst hTL
          go_upto_region 1 with fail
          go_quiet (fail)
          go_upto_region 2 with fail
          go_quiet (fail)
          go_wp2_with (go_at_call 31; refine (hesc' _).mono ?_; rintro e w2 ⟨he, hN, hB2⟩; have he' : e = .returned (.bool true) := he; clear he; subst he'; obtain ⟨v2, hR2⟩ := hN L k' rfl; replace hB2 := (hBm.out _).trans hB2; have hk2 := hR2.hk; have HR2 := Lib.hid hR2; clear hN hR2)
          go_roundg (s.size - k')
          case measure => omega
          case rel => exact ⟨k', f', v2, T ++ L, rfl, hk2, by omega, HTL.out, HR2, hB2, hA2⟩
      · rw [if_neg h92] at hst
        have hA2 := Lib.hid hst
        rw [decide_eq_false h92] at b92
        have b92' : ((s[i].toNat : Int) != 92) = true := by rw [bne, b92]; rfl
        have hcM := fun m => (HM.out m).c2
        clear hst h34 h10 h92 hAi
        go_upto_region 1 with fail
        go_quiet (fail)
        go_upto_region 2 with fail
        go_quiet (fail)
        go_wp2_with (at_builtin; refine wpList_append_own _ rfl _ _ 32 rfl (b + 1) 5 i0 (.int .u8 0) 1 1 Try.underlying32 hi hz0 hz1 hz2 rfl (by decide) _ _ _ rfl ((HM.out _).own.alloc _) ⟨_, 0, none⟩ 1 1 [.int .u8 (s[i].toNat : Int)] rfl rfl ?_ ?_ ?_ ?_ ?_ ?_)
        try any_goals (first | rfl | (unfold maxLen; omega) | omega | exact one_new _ _ _ | exact one_at _ _ _ _ (by simp) | (intro u hu; simp at hu; subst hu; rfl; done) | (simp; omega))
        intro v' w1 hown' hgrow _
        obtain ⟨g1, g2, g3⟩ := ((HM.out _).alloc _).grew (L := [s[i]]) hown' hgrow
        obtain ⟨ao, nn, cap, rfl⟩ := own_slice hown'
        have d5 : w1.frozen? ⟨b, 2, none⟩ = false := by unfold World.frozen?; simp only [g1]; rfl
        have d6 : w1.cell? ⟨b, 2, none⟩ = some v := by unfold World.cell?; simp only [g1]; rfl
        have G := Lib.hid (And.intro g2 (((hBm.out _).alloc (Nat.le_of_lt (by simpa using hlt2)) _).trans g3))
        clear g1 g2 g3 hown' hgrow
        go_wp2
        go_roundg (s.size - (i + 1))
        case measure => omega
        case rel => exact ⟨i + 1, f', _, T ++ [s[i]], rfl, by omega, by omega, by simp; omega, Lib.hid G.out.1, G.out.2, hA2⟩
    · have d1 : decide (i < s.size) = false := decide_eq_false hlt
      have hAz : A = none := by rw [hAi.out]; exact strOf_none _ _ (List.getElem?_eq_none (by simp; omega))
      subst hAz
      go_upto_region 1 with fail
      go_quiet (fail)
      go_wp2
      go_ret
      first
        | exact ⟨rfl, (fun _ _ h => by cases h), below_drewN hB _⟩
        | exact ⟨rfl, below_drewN hB _⟩
end Go.Proofs.Ytpbkdgbmnffooaa

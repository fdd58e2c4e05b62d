/-
  Layer 11: contracts of the document's Spelt and Check.
-/
import Derived.Test.YtoffjpgobhcipaaGreatDoorIh
import Derived.Test.YtoffjpgobhcipaaGreatDoorIj
import Derived.Test.YtoffjpgobhcipaaGreatDoorQg
namespace Go.Proofs.YtoffjpgobhcipaaGreatDoor.Trm
open Go.ChangeShapes Go.WideShapes Go.ChangeAt Go.RowKit

theorem mayW_tab {k : Nat} {n : Bool} {ws : List (List UInt8)} (h : (tabK[k]?.map fun x => (x.2.2.1, x.2.2.2)) = some (n, ws)) (l : List UInt8) : mayW k l = ((n && (l == [])) || ws.any fun x => l == x) := by
  unfold mayW
  cases ht : tabK[k]? with
  | none => rw [ht] at h; cases h
  | some t =>
    obtain ⟨a, b, c, d⟩ := t
    rw [ht] at h
    injection h with h
    injection h with h1 h2
    subst h1 h2; rfl
theorem tab_words {k : Nat} {n : Bool} {ws : List (List UInt8)} (h : (tabK[k]?.map fun x => (x.2.2.1, x.2.2.2)) = some (n, ws)) : ws.length ≤ 1000 := by
  have h1 : ∀ t ∈ tabK, t.2.2.2.length ≤ 1000 := by decide +kernel
  cases ht : tabK[k]? with
  | none => rw [ht] at h; cases h
  | some t =>
    rw [ht] at h
    injection h with h
    injection h with _ h2
    rw [← h2]
    exact h1 t (List.mem_of_getElem? ht)
set_option maxRecDepth 100000 in
set_option maxHeartbeats 8000000 in
theorem spelt_any (k : Nat) (hk : k < 69) (s : ByteArray) (hs : s.size ≤ 1048576) (w : World) :
    Calls Tryz.prog 34 #[.int .u8 k, .string s] w fun e w' => e = .returned (.bool (mayP k s.data.toList)) ∧ Below w.heap.size w w' := by
  unfold mayP
  by_cases h1 : k = 26
  · subst h1
    rw [if_pos rfl]
    have hn := fun w => Cls.rname_any s hs w
    generalize Cls.isName s.data.toList = v at hn
    go_enter Tryz.func34, Tryz.ntmps34
    go_wp2_with (go_at_call 55; refine (hn _).mono ?_; rintro e w1 ⟨rfl, hB⟩)
    go_ret
    exact ⟨rfl, hB⟩
  rw [if_neg h1]
  by_cases h2 : k = 27
  · subst h2
    rw [if_pos rfl]
    have hv := fun w => docvalue_any s (by omega) w
    have hkd := fun w => Num.refKind_any s hs w
    rw [← Num.kind_agree] at hkd
    unfold isLit
    cases hq : valueP s.data.toList with
    | some v =>
      rw [hq] at hv
      have hv' : ∀ w, Calls Tryz.prog 56 #[.string s] w fun e w' => e = .returned (.tuple #[.string ⟨v.toArray⟩, .int .i64 0]) ∧ Below w.heap.size w w' := hv
      rw [show (decide (Num.kindP s.data.toList ≠ 0) || (some v).isSome) = true by simp]
      clear hv hq hkd
      go_enter Tryz.func34, Tryz.ntmps34
      go_wp2_with (go_at_call 56; refine (hv' _).mono ?_; rintro e w1 ⟨rfl, hB⟩)
      go_ret
      exact ⟨rfl, hB⟩
    | none =>
      rw [hq] at hv
      have hv' : ∀ w, Calls Tryz.prog 56 #[.string s] w fun e w' => e = .returned (.tuple #[.string ⟨#[]⟩, .int .i64 4]) ∧ Below w.heap.size w w' := hv
      rw [show (decide (Num.kindP s.data.toList ≠ 0) || (none : Option (List UInt8)).isSome) = ((Num.kindP s.data.toList : Int) != 0) by rw [Bool.eq_iff_iff]; simp]
      generalize Num.kindP s.data.toList = K at hkd
      clear hv hq
      go_enter Tryz.func34, Tryz.ntmps34
      go_wp2_with (first
        | (go_at_call 56; refine (hv' _).mono ?_; rintro e w1 ⟨rfl, hB⟩)
        | (go_at_call 57; refine (hkd _).mono ?_; rintro e w2 ⟨rfl, hB2⟩))
      go_ret
      exact ⟨ret_bool (by simp), below_chain hB hB2⟩
  rw [if_neg h2, if_pos hk]
  have hr := fun w => row_any k (by omega) w
  simp only [if_pos hk] at hr
  have q1 : ((k : Int) == 26) = false := by simp; omega
  have q2 : ((k : Int) == 27) = false := by simp; omega
  rw [← ByteArray.toList_eq]
  have HK := Lib.hid hk
  clear h1 h2 hk
  go_enter Tryz.func34, Tryz.ntmps34
  go_upto_region 7 with (go_at_call 33; refine (hr _).mono ?_; rintro e w1 ⟨⟨m, nn, ws, v, rfl, hx, hWA⟩, hB⟩; have hWA0 := hWA; obtain ⟨va, rfl, _⟩ := hWA0; have HX := Lib.hid hx; have HWA := Lib.hid hWA; have HB := Lib.hid hB; clear hx hWA hB)

  have HWA2 := Lib.hid (wordsAt_below HWA.out ((Below.refl _ w1).alloc (Nat.le_refl _) (.cells #[.int .i64 (leastK k), .bool m, .bool nn, .slice va ws.length ws.length] 52)))
  have HB2 := Lib.hid (HB.out.alloc HB.out.size (.cells #[.int .i64 (leastK k), .bool m, .bool nn, .slice va ws.length ws.length] 52))
  have HM := Lib.hid (mayW_tab (HX.out HK.out).2 s.toList)
  have hlen := tab_words (HX.out HK.out).2
  have ham := fun (w : World) (h : WordsAt w (.slice va ws.length ws.length) ws) => among_any s w _ ws h hlen

  generalize (ws.any fun x => s.toList == x) = A at HM ham
  clear hr HX HK
  by_cases he : s.toList = []
  · have e1 : s.toList.isEmpty = true := by rw [he]; rfl
    have e2 : (s.toList == []) = true := by rw [he]; rfl
    cases nn with
    | true =>
      have HR : Hid (mayW k s.toList = true) := Lib.hid (by rw [HM.out, e2]; rfl)
      go_wp2
      go_ret
      exact ⟨ret_bool HR.out.symm, HB2.out⟩
    | false =>
      have HR : Hid (mayW k s.toList = A) := Lib.hid (by rw [HM.out]; simp)
      go_wp2_with (go_at_call 58; (with_reducible refine (ham _ HWA2.out).mono ?_); rintro e w2 ⟨rfl, rfl⟩)
      go_ret
      exact ⟨ret_bool (by rw [HR.out]), HB2.out⟩
  · have e1 : s.toList.isEmpty = false := by simpa using he
    have e2 : (s.toList == []) = false := by simpa using he
    have HR : Hid (mayW k s.toList = A) := Lib.hid (by rw [HM.out, e2]; simp)
    go_wp2_with (go_at_call 58; (with_reducible refine (ham _ HWA2.out).mono ?_); rintro e w2 ⟨rfl, rfl⟩)
    go_ret
    exact ⟨ret_bool (by rw [HR.out]), HB2.out⟩
end Go.Proofs.YtoffjpgobhcipaaGreatDoor.Trm

/-
  Layer 7: contracts of scan.behind, lineEnd, block, word, sign.
-/
import Derived.Test.YtbkmlldhjchhjaaGreatSc
import Derived.Test.YtbkmlldhjchhjaaGreatSd
import Derived.Lib.OthersKept
namespace Go.Proofs.YtbkmlldhjchhjaaGreat
open Go.ChangeShapes Go.WideShapes Go.ChangeAt Go.RowKit
open Go.Lib (decodeL run_next_any_at run_next_end_at iterAt_heap iterAt_size below_iterAt)

theorem part_any (r : Int) (w : World) :
    Calls Tryz.prog 69 #[.int .i32 r] w fun e w' => e = .returned (.bool (isPart r)) ∧ Below w.heap.size w w' := by
  have h1 := fun w => letter_any r w
  have h2 := fun w => digit_any r w
  unfold isPart
  obtain ⟨x, hx⟩ : ∃ x, x = inside letters r := ⟨_, rfl⟩
  obtain ⟨y, hy⟩ : ∃ y, y = inside digits r := ⟨_, rfl⟩
  rw [← hx] at h1 ⊢
  rw [← hy] at h2 ⊢
  clear hx hy
  cases x with
  | true =>
    go_enter Tryz.func69, Tryz.ntmps69
    go_wp2_with (go_at_call 52; refine (h1 _).mono ?_; rintro e w1 ⟨rfl, hB⟩)
    go_ret
    exact ⟨rfl, hB⟩
  | false =>
    go_enter Tryz.func69, Tryz.ntmps69
    go_wp2_with (first
      | (go_at_call 52; refine (h1 _).mono ?_; rintro e w1 ⟨rfl, hB⟩)
      | (go_at_call 70; refine (h2 _).mono ?_; rintro e w1 ⟨rfl, hB2⟩; replace hB := hB.trans (hB2.mono hB.size); clear hB2))
    go_ret
    exact ⟨rfl, hB⟩
/-- what tells a sort of characters, told as a function -/
def Tells (f : Nat) (p : Int → Bool) : Prop := ∀ (r : Int) (w : World), Calls Tryz.prog f #[.int .i32 r] w fun e w' => e = .returned (.bool (p r)) ∧ Below w.heap.size w w'
theorem tells_blank : Tells 47 isBlank := fun r w => (blank_any r w).mono fun _ _ ⟨h1, h2⟩ => ⟨h1, h2 ▸ Below.refl _ _⟩
theorem tells_part : Tells 69 isPart := part_any
set_option maxHeartbeats 4000000 in
theorem behind_f (f : Nat) (hf : f = 47 ∨ f = 69) (p : Int → Bool) (hp : Tells f p) (s : ByteArray) (hs : s.size ≤ maxLen) (a : Nat) (ha : a ≤ s.size) (g0 : Nat) (hg0 : s.size ≤ a + g0) (hcl : cleanAt s.data.toList g0 a = -1) (w : World) :
    Calls Tryz.prog 48 #[.string s, .int .i64 a, .func (.func f) #[] #[]] w fun e w' => e = .returned (.int .i64 (spanAt p s.data.toList s.size a)) ∧ Below w.heap.size w w' := by
  have hl : s.data.toList.length = s.size := by simp
  obtain ⟨R, hR⟩ : ∃ R, R = spanAt p s.data.toList s.size a := ⟨_, rfl⟩
  rw [← hR]
  have HR := Lib.hid hR.symm
  have HCL := Lib.hid hcl
  obtain ⟨G, hG⟩ : ∃ G, G = s.extract a s.size := ⟨_, rfl⟩
  have hGs : G.size = s.size - a := by rw [hG, ByteArray.size_extract]; omega
  have hGl : G.data.toList = s.data.toList.drop a := by
    have := extract_list s a s.size
    rw [ByteArray.toList_eq] at this
    rw [hG, this, List.take_of_length_le (by rw [hl]; exact Nat.le_refl _)]
  have hsl : ∀ w, (Instr.slice 9 (.string s) (some (.int .i64 (a : Int))) none none).run Tryz.prog w = .ok (.string G) w := by
    intro w
    rw [hG, run_slice_string_from_if _ 9 s .i64 _ Tryz.underlying9, if_pos (by omega)]; simp
  have HG := Lib.hid hGl
  unfold maxLen at hs
  clear hR hcl hG hGl
  rcases hf with rfl | rfl
  all_goals
    go_enter Tryz.func48, Tryz.ntmps48
    go_wp2
    go_loopw [] (fun wr => ∃ (i g f2 : Nat), wr.heap[w.heap.size]? = some (.stringIter G i) ∧ i ≤ G.size ∧ Below w.heap.size w wr ∧ Hid (cleanAt s.data.toList g (a + i) = -1) ∧ s.size ≤ a + i + g ∧ Hid (spanAt p s.data.toList f2 (a + i) = R) ∧ s.size ≤ a + i + f2) (fun wr => G.size - wr.iterPos w.heap.size)
    case atStart => exact ⟨0, g0, s.size, fresh_row w _, Nat.zero_le _, (Below.refl _ w).alloc (Nat.le_refl _) _, HCL, by omega, HR, by omega⟩
    case round =>
      obtain ⟨i, g, f2, hk, hi, hB, hC, hg, hS, hf2⟩ := hrel
      have hkl : w.heap.size < wr.heap.size := (Array.getElem?_eq_some_iff.1 hk).1
      have HK0 := Lib.hid hk
      by_cases hlt : i < G.size
      · obtain ⟨g', rfl⟩ : ∃ g', g = g' + 1 := ⟨g - 1, by omega⟩
        obtain ⟨f', rfl⟩ : ∃ f', f2 = f' + 1 := ⟨f2 - 1, by omega⟩
        obtain ⟨q1, _, _, q4⟩ := clean_step hC.out (by omega)
        have hdl := drop_wide (l := s.data.toList) (pos := a + i) (by omega)
        obtain ⟨hs1, hs2⟩ := chr_split q1
        have hfl := (chr_form q1).2
        have hch := hs2
        unfold isChar at hch
        have hch2 := of_decide_eq_true hch
        have hdec : Utf8.decode G i = ((chr (s.data.toList.drop (a + i))).toNat, wide (s.data.toList.drop (a + i))) := by
          rw [decode_at' G _ HG.out, List.drop_drop]
          conv => lhs; rw [hs1]
          rw [decode_form _ _ hs2, hfl]
        obtain ⟨n, hn⟩ : ∃ n, n = wide (s.data.toList.drop (a + i)) := ⟨_, rfl⟩
        obtain ⟨c, hc⟩ : ∃ c : Nat, (c : Int) = chr (s.data.toList.drop (a + i)) := ⟨(chr (s.data.toList.drop (a + i))).toNat, by omega⟩
        rw [← hn, ← hc] at hdec
        rw [← hn] at q1 q4 hdl
        rw [hl] at hdl
        have hnx : ∀ ty, (Instr.next (.pointer (some ⟨w.heap.size, 0, none⟩)) true ty).run Tryz.prog wr = _ := fun ty => run_next_any_at wr w.heap.size G i ty hk hlt
        rw [hdec, show ((c : Int)).toNat = c by omega] at hnx
        have hit := iterAt_heap wr w.heap.size G i (i + n) hk
        have hBi := below_iterAt hB (Nat.le_refl _) G (i + n)
        have hisz := iterAt_size wr w.heap.size G (i + n)
        generalize wr.iterAt w.heap.size G (i + n) = w2 at hnx hit hBi hisz
        have hpc := fun w => hp (c : Int) w
        have hz2 : w.heap.size < w2.heap.size := by omega
        have HC := Lib.hid hc
        have HN := Lib.hid hn
        have HQ := Lib.hid (show cleanAt s.data.toList g' (a + (i + n)) = -1 by rw [← Nat.add_assoc]; exact q4)
        have HIT := Lib.hid hit
        clear hs1 hs2 hfl hch hch2 hdec q4 hC hk hn hc hit hisz
        cases hpv : p (c : Int) with
        | false =>
          rw [hpv] at hpc
          have hRp : R = a + i := by
            rw [← hS.out]
            exact spanAt_stop _ (.inr (by rw [← HC.out]; exact hpv))
          subst hRp
          clear hS hpv
          go_wp2_with (first
            | (go_at_call 47; refine (hpc _).mono ?_; rintro e w3 ⟨rfl, hB3⟩; replace hBi := hBi.trans (hB3.mono hBi.size); clear hB3)
            | (go_at_call 69; refine (hpc _).mono ?_; rintro e w3 ⟨rfl, hB3⟩; replace hBi := hBi.trans (hB3.mono hBi.size); clear hB3))
          go_ret
          exact ⟨rfl, hBi⟩
        | true =>
          rw [hpv] at hpc
          have HS2 := Lib.hid (show spanAt p s.data.toList f' (a + (i + n)) = R by
            rw [← hS.out, spanAt_goes f' (by omega) (by rw [← HN.out, ← HC.out]; rintro (h | h); exact q1 h; rw [hpv] at h; cases h), ← HN.out, Nat.add_assoc])
          clear hS hpv
          go_wp2_with (first
            | (go_at_call 47; refine (hpc _).mono ?_; rintro e w3 ⟨rfl, hB3⟩; have HK3 := Lib.hid (row_below HIT.out hB3 hz2); replace hBi := hBi.trans (hB3.mono hBi.size); clear hB3)
            | (go_at_call 69; refine (hpc _).mono ?_; rintro e w3 ⟨rfl, hB3⟩; have HK3 := Lib.hid (row_below HIT.out hB3 hz2); replace hBi := hBi.trans (hB3.mono hBi.size); clear hB3))
          go_roundw
          case rel => exact ⟨i + n, g', f', HK3.out, by omega, hBi, HQ, by omega, HS2, by omega⟩
          case measure => simp only [World.iterPos, HK3.out, HK0.out]; omega
      · have hie : i = G.size := by omega
        have hRp : R = s.size := by
          rw [← hS.out, spanAt_end _ _ _ _ (by rw [hl]; omega)]; omega
        subst hRp
        have hnx : ∀ ty, (Instr.next (.pointer (some ⟨w.heap.size, 0, none⟩)) true ty).run Tryz.prog wr = _ := fun ty => run_next_end_at wr w.heap.size G i ty hk (by omega)
        clear hS hC hk
        go_wp2
        go_ret
        exact ⟨rfl, hB⟩
end Go.Proofs.YtbkmlldhjchhjaaGreat

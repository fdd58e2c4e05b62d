/-
  Layer 4: contracts of the document's Starts and Ints.
-/
import Derived.Test.YthbjiecckehckabC
import Derived.Deep.QuietTactic
import Derived.BigQuiet
namespace Go.Proofs.Ythbjiecckehckab
open Go.ChangeShapes Go.WideShapes Go.ChangeAt Go.RowKit

theorem own_first (w : World) (base : Nat) (hb : base ≤ w.heap.size) : (w.alloc (.cells #[.int .i64 0] 3)).ownsRow base 3 1 (.slice (some ⟨w.heap.size, 0, none⟩) 1 1) 1 [.int .i64 0] :=
  ⟨by simp, .inr ⟨w.heap.size, 1, #[.int .i64 0], rfl, hb, heap_alloc_new w _, by omega, by unfold maxLen; omega, by simp, by simp⟩⟩

set_option maxHeartbeats 2000000 in
theorem rstarts_any (s : ByteArray) (hs : s.size ≤ 1048576) (w : World) :
    Calls Try.prog 13 #[.string s] w fun e w' => (∃ v, e = .returned v ∧ Ns w' v (starts s)) ∧ Below w.heap.size w w' := by
  obtain ⟨i0, hi, hz0, hz1, hz2⟩ := info_parts info3
  have hown0 := own_first w w.heap.size (Nat.le_refl _)
  have hB0 : Below w.heap.size w (w.alloc (.cells #[.int .i64 0] 3)) := (Below.refl _ w).alloc (Nat.le_refl _) _
  go_enter Try.func13, Try.ntmps13
  go_wp2
  go_loopw [3, 4] (fun v i wr => ∃ (k : Nat), k ≤ s.size ∧ i = .int .i64 k ∧ wr.ownsRow w.heap.size 3 1 v (stK s.data.toList k).length (nums (stK s.data.toList k)) ∧ Below w.heap.size w wr) (fun _ i _ => s.size - (intOf i).toNat)
  case atStart => exact ⟨0, Nat.zero_le _, rfl, hown0, hB0⟩
  case round =>
    clear hown0 hB0
    obtain ⟨k, hk, rfl, hown, hB⟩ := hrel
    by_cases hlt : k < s.size
    · have hb := get_byte s k hlt
      by_cases h10 : s[k] = 10
      · have hm : ((s[k].toNat : Int) == 10) = true := (is_ten _).2 h10
        rw [h10] at hb
        have hst : stK s.data.toList (k + 1) = stK s.data.toList k ++ [k + 1] := by rw [stK, if_pos hb]
        have hlen : (stK s.data.toList k).length ≤ 1048577 := by
          rw [stK_len]
          have h1 : (s.data.toList.take k).count 10 ≤ (s.data.toList.take k).length := List.count_le_length
          have h2 : (s.data.toList.take k).length ≤ k := List.length_take_le _ _
          omega
        clear hb h10
        have hbs := hB.size
        generalize hL : stK s.data.toList k = L at hown hst hlen
        have HST := Lib.hid hst
        clear hst hL
        go_wp2_with (first
          | (at_builtin; refine wpList_append_own _ rfl _ _ 22 rfl w.heap.size 3 i0 (.int .i64 0) 1 8 Try.underlying22 hi hz0 hz1 hz2 rfl (by decide) _ _ _ rfl (hown.alloc _) ⟨wr.heap.size, 0, none⟩ 1 1 [.int .i64 (k + 1)] rfl rfl ?c1 ?c2 ?c3 ?c4 ?c5 ?_))
        case c1 => exact one_new _ _ _
        case c2 => intro u hu; simp at hu; subst hu; rfl
        case c3 => unfold maxLen; omega
        case c4 => omega
        case c5 => simp; omega
        · intro v3 w3 hown3 hg3 _
          have hB3 : Below w.heap.size w w3 := (hB.alloc hbs _).grown hg3 (by simp; omega) (fun q hq => by have := (hown.lt q hq).1; omega)
          clear hg3 hown hB
          go_wp2
          go_roundw
          case rel =>
            refine ⟨k + 1, by omega, by go_num, ?_, hB3⟩
            rw [HST.out]; simpa [nums] using hown3
          case measure => simp [intOf]; omega
      · have hm : ((s[k].toNat : Int) == 10) = false := not_ten _ h10
        have hst : stK s.data.toList (k + 1) = stK s.data.toList k := by
          rw [stK, hb, if_neg (by simpa using h10), List.append_nil]
        have HST := Lib.hid hst
        clear hst h10 hb
        go_wp2
        go_roundw
        case rel =>
          refine ⟨k + 1, by omega, by go_num, ?_, hB⟩
          rw [HST.out]; exact hown
        case measure => simp [intOf]; omega
    · obtain rfl : k = s.size := by omega
      go_wp2
      go_ret
      exact ⟨⟨_, rfl, ns_of (stK_pos _ _) hown⟩, hB⟩

set_option maxHeartbeats 2000000 in
theorem ints_same (L : List Nat) (v u : Value) (w : World) (hv : Ns w v L) (hu : Ns w u L) :
    Calls Try.prog 12 #[v, u] w fun e w' => e = .returned (.bool true) ∧ Below w.heap.size w w' := by
  obtain ⟨g, cap, rfl, h1, h2, h3, h4⟩ := hv
  obtain ⟨g', cap', rfl, h1', h2', h3', h4'⟩ := hu
  have hlen : L.length ≤ 9223372036854775807 := by unfold maxLen at h2; omega
  have hP : ∀ k, k < L.length → w.cell? ⟨g, k, none⟩ = some (.int .i64 ((L.getD k 0 : Nat) : Int)) := fun k hk => h4 k _ (by simp [List.getD, hk])
  have hP' : ∀ k, k < L.length → w.cell? ⟨g', k, none⟩ = some (.int .i64 ((L.getD k 0 : Nat) : Int)) := fun k hk => h4' k _ (by simp [List.getD, hk])
  clear h4 h4'
  have HP := Lib.hid (And.intro hP hP')
  clear hP hP'
  go_enter Try.func12, Try.ntmps12
  go_wp2
  go_loopw [5] (fun i wr => ∃ k : Nat, k ≤ L.length ∧ i = .int .i64 k ∧ Below w.heap.size w wr) (fun i _ => L.length - (intOf i).toNat)
  case atStart => exact ⟨0, Nat.zero_le _, rfl, Below.refl _ _⟩
  case round =>
    obtain ⟨k, hk, rfl, hB⟩ := hrel
    by_cases hlt : k < L.length
    · have c1 := (hB.cell (p := ⟨g, k, none⟩) h3).trans (HP.out.1 k hlt)
      have c2 := (hB.cell (p := ⟨g', k, none⟩) h3').trans (HP.out.2 k hlt)
      generalize L.getD k 0 = x at c1 c2
      have i1 : (k : Int) < (L.length : Int) := by omega
      go_wp2
      go_quiet (fail)
      go_wp2
      go_roundw
      case rel => exact ⟨k + 1, by omega, by go_num, below_drewN hB _⟩
      case measure => simp [intOf]; omega
    · obtain rfl : k = L.length := by omega
      go_wp2
      go_ret
      exact ⟨rfl, hB⟩
end Go.Proofs.Ythbjiecckehckab

/-
  Layer 4: contracts of lines.Starts, of the document's Starts and Ints.
-/
import Derived.Test.YthbjiecckehckabB
namespace Go.Proofs.Ythbjiecckehckab
open Go.ChangeShapes Go.WideShapes Go.ChangeAt Go.RowKit

/-- where the lines of a text begin -/
def starts (s : ByteArray) : List Nat := stK s.data.toList s.size
theorem get_byte (s : ByteArray) (k : Nat) (hk : k < s.size) : s.data.toList[k]? = some s[k] := by
  rw [List.getElem?_eq_getElem (by simpa using hk)]; rfl
theorem is_ten (b : UInt8) : (((b.toNat : Int) == 10) = true) ↔ b = 10 := by
  rw [beq_iff_eq]
  constructor
  · intro h; have : b.toNat = 10 := by omega
    exact UInt8.toNat_inj.1 this
  · rintro rfl; rfl
theorem not_ten (b : UInt8) (h : ¬ b = 10) : ((b.toNat : Int) == 10) = false := by
  cases hb : ((b.toNat : Int) == 10) with
  | false => rfl
  | true => exact absurd ((is_ten b).1 hb) h
theorem own_size {w : World} {base : Nat} {v : Value} {n : Nat} {xs : List Value} (h : w.ownsRow base 3 1 v n xs) : xs.length = n := by have := h.1; omega

set_option maxHeartbeats 2000000 in
theorem starts_any (s : ByteArray) (hs : s.size ≤ 1048576) (w : World) :
    Calls Try.prog 10 #[.string s] w fun e w' => (∃ v, e = .returned v ∧ Ns w' v (starts s)) ∧ Below w.heap.size w w' := by
  have hcl := count_le s
  have hs1 : s.size < maxLen := by unfold maxLen; omega
  have hroom := stK_room s.data.toList
  generalize hn : s.data.toList.count 10 = n at hcl hroom
  have HN := Lib.hid hn
  have HROOM := Lib.hid hroom
  clear hn hroom
  obtain ⟨i0, hi, hz0, hz1, hz2⟩ := info_parts info3
  go_enter Try.func10, Try.ntmps10
  go_wp2_with (first
    | (go_at_call 14; refine (count_any s hs1 w).mono ?_; rintro e w' ⟨rfl, h⟩; subst w'; rw [HN.out])
    | (at_make; refine wpList_make_one _ rfl _ _ 22 rfl w.heap.size 3 i0 (.int .i64 0) Try.underlying22 hi hz0 hz1 rfl _ _ _ (n + 1) rfl rfl (by omega) (by omega) (by rw [hz2]; omega) (by unfold maxLen; omega) (Nat.le_refl _) ?_))
  intro w1 hown1 hg1
  have hB1 : Below w.heap.size w w1 := (Below.refl _ w).grown hg1 (Nat.le_refl _) (fun q hq => by cases hq)
  clear hg1
  go_wp2
  go_loopw [3, 4] (fun v i wr => ∃ (k : Nat), k ≤ s.size ∧ i = .int .i64 k ∧ v = .slice (some ⟨w.heap.size, 0, none⟩) (stK s.data.toList k).length (n + 1) ∧ wr.ownsRow w.heap.size 3 1 v (stK s.data.toList k).length (nums (stK s.data.toList k)) ∧ Below w.heap.size w wr) (fun _ i _ => s.size - (intOf i).toNat)
  case atStart => exact ⟨0, Nat.zero_le _, rfl, rfl, hown1, hB1⟩
  case round =>
    clear hown1 hB1
    obtain ⟨k, hk, rfl, rfl, hown, hB⟩ := hrel
    by_cases hlt : k < s.size
    · have hb := get_byte s k hlt
      by_cases h10 : s[k] = 10
      · have hm : ((s[k].toNat : Int) == 10) = true := (is_ten _).2 h10
        rw [h10] at hb
        have hst : stK s.data.toList (k + 1) = stK s.data.toList k ++ [k + 1] := by rw [stK, if_pos hb]
        have hcap := HROOM.out k hb
        clear hb h10
        have hbs := hB.size
        generalize hL : stK s.data.toList k = L at hown hst hcap
        have HST := Lib.hid hst
        clear hst hL
        go_wp2_with (first
          | (at_builtin; refine wpList_append_fits _ rfl _ _ 22 rfl w.heap.size 3 i0 1 Try.underlying22 hi hz1 w.heap.size L.length (n + 1) (nums L) rfl (hown.alloc _) ⟨wr.heap.size, 0, none⟩ 1 1 [.int .i64 (k + 1)] rfl rfl ?c1 ?c2 hcap ?_))
        case c1 => exact one_new _ _ _
        case c2 => intro u hu; simp at hu; subst hu; rfl
        · intro w3 hown3 hg3
          have hB3 : Below w.heap.size w w3 := (hB.alloc hbs _).grown hg3 (by simp; omega) (fun q hq => by simp at hq; omega)
          clear hg3 hown hB
          go_wp2
          go_roundw
          case rel =>
            refine ⟨k + 1, by omega, by go_num, ?_, ?_, hB3⟩
            · rw [HST.out]; simp
            · rw [HST.out]; simpa [nums] using hown3
          case measure => simp [intOf]; omega
      · have hm : ((s[k].toNat : Int) == 10) = false := not_ten _ h10
        have hst : stK s.data.toList (k + 1) = stK s.data.toList k := by
          rw [stK, hb, if_neg (by simpa using h10), List.append_nil]
        have HST := Lib.hid hst
        clear hst h10 hb
        go_wp2
        go_roundw
        case rel =>
          refine ⟨k + 1, by omega, by go_num, ?_, ?_, hB⟩
          · rw [HST.out]
          · rw [HST.out]; exact hown
        case measure => simp [intOf]; omega
    · obtain rfl : k = s.size := by omega
      go_wp2
      go_ret
      exact ⟨⟨_, rfl, ns_of (stK_pos _ _) hown⟩, hB⟩
end Go.Proofs.Ythbjiecckehckab

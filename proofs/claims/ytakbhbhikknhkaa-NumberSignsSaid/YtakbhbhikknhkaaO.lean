/-
  Layer 5: contracts of number.rows and its closures.
-/
import Derived.Test.YtakbhbhikknhkaaE
import Derived.Deep.QuietTactic
import Derived.BigQuiet
import Derived.Laws.EntriesVeiled
namespace Go.Proofs.Ytakbhbhikknhkaa
open Go.ChangeShapes Go.WideShapes Go.ChangeAt Go.RowKit

/-- what a cursor over a text needs in memory: the place, the text, where the place lies, the closure that tells a digit -/
structure Cur (w : World) (b q p d : Nat) (s : ByteArray) (k : Nat) : Prop where
  cb : w.heap[b]? = some (.cells #[.int .i64 k] 3 (0, 0))
  cq : w.heap[q]? = some (.cells #[.string s] 9 (0, 0))
  cp : w.heap[p]? = some (.cells #[.pointer (some ⟨b, 0, none⟩)] 39 (0, 0))
  cd : w.heap[d]? = some (.cells #[.func (.func 41) #[] #[.pointer (some ⟨q, 0, none⟩)]] 49 (0, 0))
  hk : k ≤ s.size
  bq : b ≠ q
  bp : b ≠ p
  bd : b ≠ d
theorem cell_of {w : World} {g : Nat} {v : Value} {t : TypeId} (h : w.heap[g]? = some (.cells #[v] t (0, 0))) : w.cell? ⟨g, 0, none⟩ = some v := by
  unfold World.cell?; simp only [h]; rfl
theorem frozen_of {w : World} {g : Nat} {v : Value} {t : TypeId} (h : w.heap[g]? = some (.cells #[v] t (0, 0))) : w.frozen? ⟨g, 0, none⟩ = false := by
  unfold World.frozen?; simp only [h]; rfl

theorem rows_any (s : ByteArray) (b k : Nat) (hk : k ≤ s.size) (w : World) (hb : w.heap[b]? = some (.cells #[.int .i64 k] 3 (0, 0))) :
    Calls Try.prog 28 #[.string s, .pointer (some ⟨b, 0, none⟩)] w fun e w' => e = .returned (.func (.func 43) #[] #[.pointer (some ⟨w.heap.size + 2, 0, none⟩), .pointer (some ⟨w.heap.size + 1, 0, none⟩), .pointer (some ⟨w.heap.size, 0, none⟩)]) ∧
      Cur w' b w.heap.size (w.heap.size + 1) (w.heap.size + 2) s k ∧ Below w.heap.size w w' := by
  have hlt : b < w.heap.size := (Array.getElem?_eq_some_iff.1 hb).1
  have HB := Lib.hid hb
  have HLT := Lib.hid hlt
  clear hb hlt
  go_enter Try.func28, Try.ntmps28
  go_wp2
  go_ret
  refine ⟨rfl, ⟨?_, ?_, ?_, ?_, hk, ?_, ?_, ?_⟩, (((Below.refl _ w).alloc (Nat.le_refl _) _).alloc (by simp) _).alloc (by simp; omega) _⟩
  · rw [← HB.out]
    have := HLT.out
    show (((w.heap.push _).push _).push _)[b]? = _
    rw [Array.getElem?_push, Array.getElem?_push, Array.getElem?_push, if_neg (by simp; omega), if_neg (by simp; omega), if_neg (by omega)]
  · show (((w.heap.push _).push _).push _)[w.heap.size]? = _
    simp [Array.getElem?_push]
    omega
  · show (((w.heap.push _).push _).push _)[w.heap.size + 1]? = _
    simp [Array.getElem_push]
  · show (((w.heap.push _).push _).push _)[w.heap.size + 2]? = _
    simp [Array.getElem_push]
  · have := HLT.out; omega
  · have := HLT.out; omega
  · have := HLT.out; omega

/-- is there a digit of a base at a place? -/
def digAt (base : Nat) (l : List UInt8) (i : Nat) : Bool := match l[i]? with | some c => dig base c | none => false
theorem digAt_in (s : ByteArray) (base i : Nat) (h : i < s.size) : digAt base s.data.toList i = dig base s[i] := by
  unfold digAt; rw [at_of s i h]
theorem digAt_out (s : ByteArray) (base i : Nat) (h : s.size ≤ i) : digAt base s.data.toList i = false := by
  unfold digAt; rw [List.getElem?_eq_none (by simpa using h)]
set_option maxHeartbeats 1000000 in
theorem digit_c (s : ByteArray) (q i base : Nat) (w : World) (hq : w.cell? ⟨q, 0, none⟩ = some (.string s)) :
    Calls Try.prog 41 #[.int .i64 i, .int .i64 base, .pointer (some ⟨q, 0, none⟩)] w fun e w' => e = .returned (.bool (digAt base s.data.toList i)) ∧ w' = w := by
  by_cases h : i < s.size
  · rw [digAt_in s base i h]
    have d : (i : Int) < s.size := by omega
    have hd : dig base s[i] = decide ((val s[i] : Int) < (base : Int)) := by
      unfold dig; rw [Bool.eq_iff_iff]; simp
    rw [hd]
    clear hd
    go_enter Try.func41, Try.ntmps41
    go_wp2_with (go_at_call 42; refine (value_any s[i] _).mono ?_; rintro e w1 ⟨rfl, hw⟩; rw [hw]; clear hw w1)
    all_goals
      go_ret
      exact ⟨by first | rfl | exact ret_bool (by simp <;> omega), rfl⟩
  · rw [digAt_out s base i (by omega)]
    have d : ¬ (i : Int) < s.size := by omega
    go_enter Try.func41, Try.ntmps41
    go_wp2
    go_ret
    exact ⟨ret_bool rfl, rfl⟩
end Go.Proofs.Ytakbhbhikknhkaa

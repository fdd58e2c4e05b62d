/-
  Layer 10: contracts of tree.Check, has, end, End, kids, Kids, Up, Over.
-/
import Derived.Test.YtdlpminekojahaaE
namespace Go.Proofs.Ytdlpminekojahaa
open Go.ChangeShapes Go.WideShapes Go.ChangeAt Go.RowKit

/-- bounds on a list of nodes that came in -/
def KidsFit (l : List Nd) : Prop := ∀ x ∈ l, x.kids ≤ 9223372036854775807
def checkN (n : Int) (l : List Nd) : Int := if n < 0 ∨ 131072 < n then 1 else if treeB n l then 0 else 8
set_option maxHeartbeats 4000000 in
theorem check_any (N : Int) (w : World) (a : Option Addr) (n cap : Nat) (l : List Nd) (hl : Nodes w a n l) (hn : n ≤ 1099511627775) (hK : KidsFit l) :
    Calls Try.prog 8 #[.slice a n cap, .int .i64 N] w fun e w' => e = .returned (.int .i64 (checkN N l)) ∧ Below w.heap.size w w' := by
  by_cases h1 : N < 0 ∨ 131072 < N
  · rw [checkN, if_pos h1]
    rcases h1 with h1 | h1
    · go_enter Try.func8, Try.ntmps8
      go_wp2
      go_ret
      exact ⟨rfl, Below.refl _ _⟩
    · have h0 : ¬ N < 0 := by omega
      go_enter Try.func8, Try.ntmps8
      go_wp2
      go_ret
      exact ⟨rfl, Below.refl _ _⟩
  · have h2 : ¬ N < 0 := by omega
    have h3 : ¬ 131072 < N := by omega
    rw [checkN, if_neg h1]
    have ht := fun w hl => isTree_any N w a n cap l hl hn hK
    cases hq : treeB N l with
    | true =>
      rw [hq] at ht
      have HL := Lib.hid hl
      clear hl hq h1
      go_enter Try.func8, Try.ntmps8
      go_wp2_with (go_at_call 25; refine (ht _ HL.out).mono ?_; rintro e w1 ⟨rfl, hB⟩)
      go_ret
      exact ⟨rfl, hB⟩
    | false =>
      rw [hq] at ht
      have HL := Lib.hid hl
      clear hl hq h1
      go_enter Try.func8, Try.ntmps8
      go_wp2_with (go_at_call 25; refine (ht _ HL.out).mono ?_; rintro e w1 ⟨rfl, hB⟩)
      go_ret
      exact ⟨rfl, hB⟩
/-- has a tree of any tokens a node i? -/
def hasN (l : List Nd) (i : Int) : Bool := decide (0 ≤ i) && decide (i < l.length) && treeB 131072 l
set_option maxHeartbeats 4000000 in
theorem has_any (w : World) (a : Option Addr) (n cap : Nat) (l : List Nd) (hl : Nodes w a n l) (hn : n ≤ 1099511627775) (hK : KidsFit l) (i : Int) :
    Calls Try.prog 26 #[.slice a n cap, .int .i64 i] w fun e w' => e = .returned (.bool (hasN l i)) ∧ Below w.heap.size w w' := by
  have ht := fun w hl => isTree_any 131072 w a n cap l hl hn hK
  have hln := hl.1
  by_cases h1 : 0 ≤ i
  · by_cases h2 : i < n
    · have hq : hasN l i = treeB 131072 l := by
        unfold hasN; rw [decide_eq_true h1, decide_eq_true (by omega)]; simp
      rw [hq]
      generalize treeB 131072 l = q at ht ⊢
      have HL := Lib.hid hl
      clear hl hq hln
      go_enter Try.func26, Try.ntmps26
      go_wp2_with (go_at_call 25; refine (ht _ HL.out).mono ?_; rintro e w1 ⟨rfl, hB⟩)
      go_ret
      exact ⟨by simp, hB⟩
    · have hq : hasN l i = false := by
        unfold hasN; rw [decide_eq_false (p := i < l.length) (by omega)]; simp
      rw [hq]
      clear hl hq hln ht
      go_enter Try.func26, Try.ntmps26
      go_wp2
      go_ret
      exact ⟨rfl, Below.refl _ _⟩
  · have hq : hasN l i = false := by
      unfold hasN; rw [decide_eq_false (p := 0 ≤ i) (by omega)]; simp
    rw [hq]
    clear hl hq hln ht
    go_enter Try.func26, Try.ntmps26
    go_wp2
    go_ret
    exact ⟨rfl, Below.refl _ _⟩
theorem has_true {l : List Nd} {i : Int} (h : hasN l i = true) : ∃ k : Nat, i = k ∧ k < l.length ∧ treeB 131072 l = true := by
  unfold hasN at h
  simp only [Bool.and_eq_true, decide_eq_true_eq] at h
  exact ⟨i.toNat, by omega, by omega, h.2⟩
set_option maxHeartbeats 4000000 in
theorem tend_any (w : World) (a : Option Addr) (n cap : Nat) (l : List Nd) (hl : Nodes w a n l) (hn : n ≤ 1099511627775) (ht : wellB (kidsL l) = true) (i : Nat) (hi : i < n) :
    Calls Try.prog 27 #[.slice a n cap, .int .i64 i] w fun e w' => e = .returned (.int .i64 (endN (kidsL l) i)) ∧ w = w' := by
  have HLK : Hid ((kidsL l).length = n) := Lib.hid (by rw [kidsL_len]; exact hl.1)
  have hg := (end_goes (well_goes.1 ht) (Nat.zero_le i) (by rw [HLK.out]; exact hi))
  have HE := Lib.hid hg.1
  have he := hg.2.2
  rw [HLK.out] at he
  clear hg ht
  go_enter Try.func27, Try.ntmps27
  go_wp2
  go_loop [1, 5] (fun t v => ∃ k m : Nat, k ≤ endN (kidsL l) i ∧ t = .int .i64 k ∧ v = .int .i64 m ∧ m ≤ n ∧ Hid (Goes (kidsL l) k m (endN (kidsL l) i))) (fun t _ => endN (kidsL l) i - (intOf t).toNat)
  case atStart => exact ⟨i, 1, by have := goes_le HE.out; omega, rfl, rfl, by omega, HE⟩
  case round =>
    obtain ⟨k, m, hk, rfl, rfl, hm, HG⟩ := hrel
    cases m with
    | zero =>
      have hz := goes_fun HG.out (goes_zero _ _)
      have HZ := Lib.hid hz
      clear hz
      go_wp2
      go_ret
      exact ⟨ret_int (by rw [HZ.out]), rfl⟩
    | succ m =>
      have hkl := goes_le HG.out
      have hlt : k < n := by omega
      have hx := nodes_some hl hlt
      obtain ⟨g, off, rfl, c0, c1, c2, c3, c4⟩ := hl.2 k _ hx
      obtain ⟨y, hy, h0, HG2⟩ := goes_succ.1 HG.out
      rw [kidsL_at l k _ hx] at hy
      injection hy with hy
      rw [hy] at c1
      obtain ⟨q, rfl⟩ : ∃ q : Nat, y = q := ⟨y.toNat, by omega⟩
      have hq := goes_le HG2
      rw [Int.toNat_natCast] at hq HG2
      have HH := Lib.hid HG2
      have hqn : q + m ≤ n := by omega
      have hkk : k + 1 ≤ endN (kidsL l) i := by omega
      clear hx hl hy HG2 hq hkl c0 c2 c3 c4
      go_wp2
      go_round
      case rel => exact ⟨k + 1, m + q, hkk, by go_num, by first | go_num | (congr 1; omega), by omega, HH⟩
      case measure => simp [intOf]; omega
end Go.Proofs.Ytdlpminekojahaa

/-
  Layer 5: where a run ends, plain; contract of the document's Run.
-/
import Derived.Test.YtakbhbhikknhkaaB
import Derived.Test.YtakbhbhikknhkaaL
namespace Go.Proofs.Ytakbhbhikknhkaa
open Go.ChangeShapes Go.WideShapes Go.ChangeAt Go.RowKit

/-- does a number begin a text? -/
def starts : List UInt8 → Bool
  | [] => false
  | c :: t => dig 10 c || (decide (c = 46) && (match t with | [] => false | d :: _ => dig 10 d))
def power? (hex : Bool) (d : UInt8) : Bool := if hex then decide (d = 112) || decide (d = 80) else decide (d = 101) || decide (d = 69)
/-- does a run go on at a byte? -/
def goesOn (hex : Bool) (t : List UInt8) : Nat → Bool
  | 0 => match t[0]? with | some c => tail? c | none => false
  | j + 1 => match t[j + 1]?, t[j]? with | some c, some d => tail? c || ((decide (c = 43) || decide (c = 45)) && power? hex d) | _, _ => false
def runFrom (f : Nat → Bool) : Nat → Nat → Nat
  | 0, i => i
  | n + 1, i => if f i then runFrom f n (i + 1) else i
/-- how long the run is that begins a text -/
def runLen (t : List UInt8) : Nat := runFrom (goesOn (head? 120 88 t) t) t.length 0
theorem runFrom_le (f : Nat → Bool) : ∀ n i, runFrom f n i ≤ i + n
  | 0, i => Nat.le_refl _
  | n + 1, i => by
    unfold runFrom
    split
    · have := runFrom_le f n (i + 1); omega
    · omega
theorem runLen_le (t : List UInt8) : runLen t ≤ t.length := by
  have := runFrom_le (goesOn (head? 120 88 t) t) t.length 0
  unfold runLen; omega
theorem tail_cases {c : UInt8} (h : tail? c = true) : (48 ≤ c.toNat ∧ c.toNat ≤ 57) ∨ (97 ≤ c.toNat ∧ c.toNat ≤ 122) ∨ (65 ≤ c.toNat ∧ c.toNat ≤ 90) ∨ c.toNat = 95 ∨ c.toNat = 46 := by
  unfold tail? at h
  simp at h
  omega
theorem tail_no {c : UInt8} (h : tail? c = false) : (c.toNat < 48 ∨ 57 < c.toNat) ∧ (c.toNat < 97 ∨ 122 < c.toNat) ∧ (c.toNat < 65 ∨ 90 < c.toNat) ∧ c.toNat ≠ 95 ∧ c.toNat ≠ 46 := by
  unfold tail? at h
  simp at h
  omega
theorem dig_tail {c : UInt8} (h : dig 10 c = true) : tail? c = true := by
  unfold dig val at h
  rw [decide_eq_true_eq] at h
  unfold tail?
  simp
  split at h
  · omega
  · split at h
    · omega
    · split at h <;> omega
theorem starts_at (s : ByteArray) (a : Nat) (ha : a < s.size) : starts (s.data.toList.drop a) = (dig 10 s[a] || (decide (s[a] = 46) && (if h : a + 1 < s.size then dig 10 s[a + 1] else false))) := by
  have hl : s.data.toList.length = s.size := by simp
  rw [List.drop_eq_getElem_cons (by omega)]
  have e0 : s.data.toList[a]'(by omega) = s[a] := by simp [ByteArray.getElem_eq_getElem_data]
  rw [e0]
  by_cases h : a + 1 < s.size
  · rw [List.drop_eq_getElem_cons (i := a + 1) (by omega), dif_pos h]
    have e1 : s.data.toList[a + 1]'(by omega) = s[a + 1] := by simp [ByteArray.getElem_eq_getElem_data]
    rw [e1]; rfl
  · rw [List.drop_eq_nil_of_le (by omega), dif_neg h]; rfl

set_option maxHeartbeats 4000000 in
set_option maxRecDepth 100000 in
/-- no number begins there -/
theorem refRun_no (s : ByteArray) (hs : s.size ≤ 1048576) (at' : Int) (h0 : -9223372036854775808 ≤ at') (h1 : at' ≤ 9223372036854775807) (hst : 0 ≤ at' → starts (s.data.toList.drop at'.toNat) = false) (w : World) :
    Calls Try.prog 23 #[.string s, .int .i64 at'] w fun e w' => e = .returned (.int .i64 at') ∧ Below w.heap.size w w' := by
  have hA : Below w.heap.size w w := Below.refl _ _
  by_cases h2 : at' < 0
  · clear hst
    go_enter Try.func23, Try.ntmps23
    go_wp2
    go_ret
    exact ⟨ret_int rfl, hA⟩
  · obtain ⟨a, rfl⟩ : ∃ a : Nat, at' = (a : Int) := ⟨at'.toNat, by omega⟩
    by_cases h3 : (s.size : Int) ≤ a
    · clear hst
      go_enter Try.func23, Try.ntmps23
      go_wp2
      go_ret
      exact ⟨ret_int rfl, hA⟩
    · have hst := hst (by omega)
      have ia : a < s.size := by omega
      rw [show ((a : Int)).toNat = a by omega, starts_at s a ia, Bool.or_eq_false_iff] at hst
      obtain ⟨hd0, hst⟩ := hst
      have b0 := bytes_n s[a] 46 46 rfl
      have t1 : True := trivial
      by_cases h46 : s[a] = 46
      · have c0 : ((s[a].toNat : Int) != 46) = false := by rw [bne, b0]; simpa using h46
        rw [decide_eq_true h46, Bool.true_and] at hst
        by_cases h4 : a + 1 < s.size
        · rw [dif_pos h4] at hst
          have c1 : ((a : Int) + 1 == (s.size : Int)) = false := by rw [beq_eq_false_iff_ne]; omega
          clear h46 b0
          go_enter Try.func23, Try.ntmps23
          go_wp2_with (first
            | (go_at_call 33; clear t1; refine (digit_any s[a] 10 (by decide) _).mono ?_; rintro e w1 ⟨he, hB1⟩; rw [hd0] at he; subst he; replace hA := hA.trans (hB1.mono hA.size); clear hB1)
            | (go_at_call 33; refine (digit_any s[a + 1] 10 (by decide) _).mono ?_; rintro e w1 ⟨he, hB1⟩; rw [hst] at he; subst he; replace hA := hA.trans (hB1.mono hA.size); clear hB1))
          go_ret
          exact ⟨ret_int rfl, hA⟩
        · have c1 : ((a : Int) + 1 == (s.size : Int)) = true := by rw [beq_iff_eq]; omega
          clear h46 b0 hst
          go_enter Try.func23, Try.ntmps23
          go_wp2_with (go_at_call 33; refine (digit_any s[a] 10 (by decide) _).mono ?_; rintro e w1 ⟨he, hB1⟩; rw [hd0] at he; subst he; replace hA := hA.trans (hB1.mono hA.size); clear hB1)
          go_ret
          exact ⟨ret_int rfl, hA⟩
      · have c0 : ((s[a].toNat : Int) != 46) = true := by rw [bne, b0]; simpa using h46
        clear h46 b0 hst
        go_enter Try.func23, Try.ntmps23
        go_wp2_with (go_at_call 33; refine (digit_any s[a] 10 (by decide) _).mono ?_; rintro e w1 ⟨he, hB1⟩; rw [hd0] at he; subst he; replace hA := hA.trans (hB1.mono hA.size); clear hB1)
        go_ret
        exact ⟨ret_int rfl, hA⟩
end Go.Proofs.Ytakbhbhikknhkaa

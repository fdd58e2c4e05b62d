/-
  Layer 10, plain: the node above, how deep nodes stand; the stack that goes through a tree.
-/
import Derived.Test.YtdlpminekojahaaPd
namespace Go.Proofs.Ytdlpminekojahaa

theorem up_from (K : List Int) (i : Nat) : ∀ j, upFrom K i j = -1 ∨ (0 ≤ upFrom K i j ∧ upFrom K i j < j) := by
  intro j
  induction j with
  | zero => exact .inl rfl
  | succ j ih =>
    unfold upFrom
    split
    · exact .inr ⟨by omega, by omega⟩
    · rcases ih with h | h
      · exact .inl h
      · exact .inr ⟨h.1, by omega⟩
theorem up_lt (K : List Int) (i : Nat) : upN K i = -1 ∨ (0 ≤ upN K i ∧ upN K i < i) := up_from K i i
theorem up_is {K : List Int} {i j : Nat} : ∀ n, j < n → i < endN K j → (∀ k, j < k → k < n → endN K k ≤ i) → upFrom K i n = j := by
  intro n
  induction n with
  | zero => intro h; omega
  | succ n ih =>
    intro h h1 h2
    unfold upFrom
    by_cases hn : j = n
    · subst hn; rw [if_pos h1]
    · rw [if_neg (by have := h2 n (by omega) (by omega); omega)]
      exact ih (by omega) h1 (fun k a b => h2 k a (by omega))
/-- how many nodes stand from a node up to the root -/
inductive Chain (K : List Int) : Int → Nat → Prop
  | top : Chain K (-1) 0
  | up {i d : Nat} : Chain K (upN K i) d → Chain K i (d + 1)
theorem chain_fun {K : List Int} : ∀ {d e : Nat} {i : Int}, Chain K i d → Chain K i e → d = e := by
  intro d
  induction d with
  | zero =>
    intro e i h g
    cases h
    generalize hi : (-1 : Int) = i at g
    cases g with
    | top => rfl
    | up _ => omega
  | succ d ih =>
    intro e i h g
    cases h with
    | up h =>
      rename_i i
      generalize hj : (i : Int) = j at g
      cases g with
      | top => omega
      | up g =>
        obtain rfl : i = _ := Int.ofNat_inj.1 hj
        rw [ih h g]
theorem chain_any (K : List Int) : ∀ n i, i < n → ∃ d, Chain K (i : Nat) d ∧ 1 ≤ d ∧ d ≤ i + 1 := by
  intro n
  induction n with
  | zero => intro i h; omega
  | succ n ih =>
    intro i h
    rcases up_lt K i with e | ⟨a, b⟩
    · exact ⟨1, .up (by rw [e]; exact .top), by omega, by omega⟩
    · obtain ⟨d, hd, h1, h2⟩ := ih (upN K i).toNat (by omega)
      rw [show ((upN K i).toNat : Int) = upN K i by omega] at hd
      exact ⟨d + 1, .up hd, by omega, by omega⟩
theorem chain_pos {K : List Int} {i : Int} {d : Nat} (h : Chain K i d) (h0 : 0 ≤ i) : ∃ e, d = e + 1 ∧ Chain K (upN K i.toNat) e := by
  cases h with
  | top => omega
  | up h => exact ⟨_, rfl, h⟩
theorem chain_neg {K : List Int} {i : Int} {d : Nat} (h : Chain K i d) (h0 : i < 0) : d = 0 := by
  cases h with
  | top => rfl
  | up h => omega
noncomputable def depN (K : List Int) (i : Nat) : Nat := (chain_any K (i + 1) i (Nat.lt_succ_self i)).choose
theorem dep_chain (K : List Int) (i : Nat) : Chain K (i : Nat) (depN K i) := (chain_any K (i + 1) i (Nat.lt_succ_self i)).choose_spec.1
theorem dep_le (K : List Int) (i : Nat) : 1 ≤ depN K i ∧ depN K i ≤ i + 1 := (chain_any K (i + 1) i (Nat.lt_succ_self i)).choose_spec.2
theorem dep_is {K : List Int} {i d : Nat} (h : Chain K (i : Nat) d) : depN K i = d := chain_fun (dep_chain K i) h
/-- how deep nodes stand at most -/
noncomputable def mostN (K : List Int) : Nat → Nat
  | 0 => 0
  | i + 1 => max (mostN K i) (depN K i)
theorem most_le (K : List Int) : ∀ i, mostN K i ≤ i
  | 0 => Nat.le_refl _
  | i + 1 => by have := most_le K i; have := dep_le K i; unfold mostN; omega
/-- a row of the stack: a node, and how many of its kids are to come from a place on -/
def RowAt (K : List Int) (e j m : Nat) : Prop := ∃ t, Goes K (j + 1) t e ∧ t + m = (K.getD j 0).toNat ∧ j < K.length
def StkAt (K : List Int) : Nat → List (Nat × Nat) → Prop
  | e, [] => e = K.length
  | e, (j, m) :: st => RowAt K e j m ∧ Chain K (j : Nat) (st.length + 1) ∧ StkAt K (endN K j) st
theorem row_end {K : List Int} (hw : wellB K = true) {e j m : Nat} (h : RowAt K e j m) : Goes K e m (endN K j) := by
  obtain ⟨t, g, hm, hj⟩ := h
  obtain ⟨g0, g1, g2⟩ := end_goes (well_goes.1 hw) (Nat.zero_le j) hj
  obtain ⟨k, hk, h0, g3⟩ := (goes_succ (n := 0)).1 g0
  have hd : K.getD j 0 = k := by rw [List.getD, hk]; rfl
  rw [hd] at hm
  rw [Nat.zero_add, ← hm] at g3
  obtain ⟨x, a, b⟩ := goes_add.1 g3
  obtain rfl := goes_fun a g
  exact b
/-- rows with no kids to come are left -/
theorem stk_leave {K : List Int} (hw : wellB K = true) {e j : Nat} {st : List (Nat × Nat)} (h : StkAt K e ((j, 0) :: st)) : StkAt K e st := by
  obtain ⟨h1, h2, h3⟩ := h
  have := goes_fun (row_end hw h1) (goes_zero K e)
  rw [this] at h3; exact h3
/-- a node is gone into -/
theorem stk_enter {K : List Int} (hw : wellB K = true) {i j m : Nat} {st : List (Nat × Nat)} (h : StkAt K i ((j, m + 1) :: st)) :
    i < K.length ∧ Chain K (i : Nat) (st.length + 2) ∧ StkAt K (i + 1) ((i, (K.getD i 0).toNat) :: (j, m) :: st) := by
  obtain ⟨h1, h2, h3⟩ := h
  have hend := row_end hw h1
  have hend2 := hend
  rw [show m + 1 = 1 + m by omega] at hend
  obtain ⟨x, a, b⟩ := goes_add.1 hend
  have hi : i < K.length := by
    obtain ⟨k, hk, _⟩ := (goes_succ (n := 0)).1 a
    exact (List.getElem?_eq_some_iff.1 hk).1
  have hx := goes_end a
  obtain ⟨t, g, hm, hj⟩ := h1
  have gl := goes_le g
  have gl2 := goes_le hend2
  have hup : upN K i = (j : Nat) := up_is i (by omega) (by omega) (fun k a b => (end_goes g (by omega) b).2.2)
  have hc : Chain K (i : Nat) (st.length + 2) := .up (by rw [hup]; exact h2)
  refine ⟨hi, hc, ⟨0, goes_zero _ _, by omega, hi⟩, hc, ⟨t + 1, ?_, by omega, hj⟩, h2, h3⟩
  rw [hx]
  exact goes_add.2 ⟨i, g, a⟩
theorem stk_first {K : List Int} (hw : wellB K = true) : 0 < K.length ∧ Chain K (0 : Nat) 1 ∧ StkAt K 1 [(0, (K.getD 0 0).toNat)] := by
  have g := well_goes.1 hw
  have h0 : 0 < K.length := by have := goes_le g; omega
  have hc : Chain K (0 : Nat) 1 := .up .top
  refine ⟨h0, hc, ⟨0, goes_zero _ _, by omega, h0⟩, hc, ?_⟩
  rw [goes_end g]; exact rfl
theorem stk_some {K : List Int} {e : Nat} {st : List (Nat × Nat)} (h : StkAt K e st) (he : e < K.length) : st ≠ [] := by
  rintro rfl
  have : e = K.length := h
  omega
theorem stk_len {K : List Int} : ∀ {st : List (Nat × Nat)} {e : Nat}, StkAt K e st → st = [] ∨ ∃ j m s, st = (j, m) :: s ∧ depN K j = s.length + 1
  | [], _, _ => .inl rfl
  | (j, m) :: s, _, h => .inr ⟨j, m, s, rfl, dep_is h.2.1⟩
end Go.Proofs.Ytdlpminekojahaa

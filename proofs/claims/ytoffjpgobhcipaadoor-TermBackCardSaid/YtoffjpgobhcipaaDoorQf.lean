/-
  Texts T U V of an earlier seat, under this one's numbers.
-/
import Derived.Test.YtoffjpgobhcipaaDoorQe
set_option maxRecDepth 100000
/-
  Layer 6: the document's escape, the other cases.
-/
namespace Go.Proofs.YtoffjpgobhcipaaDoor
open Go.ChangeShapes Go.WideShapes Go.ChangeAt Go.RowKit

theorem isChar_small {n : Nat} (h : n ≤ 255) : isChar (n : Int) = true := by
  unfold isChar; simp; omega
theorem say_small {N : Nat} (h : N ≤ 255) (m : UInt8) : sayOf N m true = some (smallOf N m) := by
  unfold sayOf smallOf
  by_cases hm : m = 34
  · rw [if_pos ⟨rfl, hm⟩, if_pos hm]
  · rw [if_neg (fun h => hm h.2), if_neg hm, if_neg (by omega), if_pos (isChar_small h)]
theorem say_big (N : Nat) (m : UInt8) : sayOf N m false = if isChar (N : Int) = true then some (form N) else none := by
  unfold sayOf
  rw [if_neg (by simp)]
  by_cases h : 1114111 < N
  · have : isChar (N : Int) = false := by unfold isChar; simp; omega
    rw [if_pos h, this]; rfl
  · rw [if_neg h]
theorem esc_x (m : UInt8) (t : List UInt8) : escOf m 1 (120 :: t) = (numOf 16 2 0 t).map fun nr => (smallOf nr.1 m, 4) := by
  rw [escOf_cons, if_pos (by decide)]
  show (numOf 16 2 0 t).bind (fun nr => (sayOf nr.1 m true).map fun L => (L, 4)) = _
  cases h : numOf 16 2 0 t with
  | none => rfl
  | some nr =>
    have h1 := numOf_lt 16 (by decide) _ _ _ _ _ h
    have : (16 : Nat) ^ 2 = 256 := by decide
    show (sayOf nr.1 m true).map _ = some _
    rw [say_small (by omega)]; rfl
theorem esc_u (m : UInt8) (c : UInt8) (hc : c = 117 ∨ c = 85) (t : List UInt8) : escOf m 1 (c :: t) = (numOf 16 (digitsOf c) 0 t).bind fun nr => if isChar nr.1 = true then some (form nr.1, 2 + digitsOf c) else none := by
  rw [escOf_cons, if_pos (by rcases hc with rfl | rfl <;> decide)]
  have : decide (c = 120) = false := by rcases hc with rfl | rfl <;> rfl
  rw [this]
  congr 1
  funext nr
  rw [say_big]
  split <;> rfl
theorem numOf_bad {base d : Nat} {c : UInt8} {t : List UInt8} (h : ¬ (0 ≤ hexOf c.toNat ∧ hexOf c.toNat < base)) : numOf base (d + 1) 0 (c :: t) = none := numOf_stop h
theorem hex_oct (c : UInt8) : (0 ≤ hexOf c.toNat ∧ hexOf c.toNat < (8 : Nat)) ↔ (48 ≤ c.toNat ∧ c.toNat ≤ 55) := by
  unfold hexOf
  split
  · omega
  · split
    · omega
    · split <;> omega
theorem esc_rest (m : UInt8) (c : UInt8) (t : List UInt8) (h1 : ¬ (c = 85 ∨ c = 117 ∨ c = 120)) (hm : c ≠ m) (hn : named c = none) : escOf m 1 (c :: t) = (numOf 8 3 0 (c :: t)).bind fun nr => if nr.1 ≤ 255 then some (smallOf nr.1 m, 4) else none := by
  rw [escOf_cons, if_neg h1]
  by_cases ho : 48 ≤ c.toNat ∧ c.toNat ≤ 55
  · rw [if_pos ho]
    congr 1
    funext nr
    by_cases h : nr.1 ≤ 255
    · rw [if_pos h, if_pos h, say_small h]; rfl
    · rw [if_neg h, if_neg h]
  · rw [if_neg ho, numOf_bad (fun h => ho ((hex_oct c).1 h)), if_neg hm, hn]
    split <;> rfl
theorem named_ix (c : UInt8) : (∃ (j : Nat) (hj : j < 8) (x : UInt8), (⟨#[97, 98, 102, 110, 114, 116, 118, 92]⟩ : ByteArray)[j]'hj = c ∧ (#[7, 8, 12, 10, 13, 9, 11, 92] : Array UInt8)[j]? = some x ∧ named c = some x) ∨ (NoName c ∧ named c = none) := by
  by_cases h0 : c = 97
  · exact .inl ⟨0, by decide, 7, h0.symm, rfl, by rw [h0]; rfl⟩
  by_cases h1 : c = 98
  · exact .inl ⟨1, by decide, 8, h1.symm, rfl, by rw [h1]; rfl⟩
  by_cases h2 : c = 102
  · exact .inl ⟨2, by decide, 12, h2.symm, rfl, by rw [h2]; rfl⟩
  by_cases h3 : c = 110
  · exact .inl ⟨3, by decide, 10, h3.symm, rfl, by rw [h3]; rfl⟩
  by_cases h4 : c = 114
  · exact .inl ⟨4, by decide, 13, h4.symm, rfl, by rw [h4]; rfl⟩
  by_cases h5 : c = 116
  · exact .inl ⟨5, by decide, 9, h5.symm, rfl, by rw [h5]; rfl⟩
  by_cases h6 : c = 118
  · exact .inl ⟨6, by decide, 11, h6.symm, rfl, by rw [h6]; rfl⟩
  by_cases h7 : c = 92
  · exact .inl ⟨7, by decide, 92, h7.symm, rfl, by rw [h7]; rfl⟩
  right
  refine ⟨?_, ?_⟩
  · intro n hn
    match n, hn with
    | 0, _ => exact fun e => h0 e.symm
    | 1, _ => exact fun e => h1 e.symm
    | 2, _ => exact fun e => h2 e.symm
    | 3, _ => exact fun e => h3 e.symm
    | 4, _ => exact fun e => h4 e.symm
    | 5, _ => exact fun e => h5 e.symm
    | 6, _ => exact fun e => h6 e.symm
    | 7, _ => exact fun e => h7 e.symm
    | n + 8, h => exact absurd h (by show ¬ n + 8 < 8; omega)
  · unfold named
    rw [if_neg h0, if_neg h1, if_neg h2, if_neg h3, if_neg h4, if_neg h5, if_neg h6, if_neg h7]
end Go.Proofs.YtoffjpgobhcipaaDoor

/-
  Layer 6: the document's item.
-/
namespace Go.Proofs.YtoffjpgobhcipaaDoor
open Go.ChangeShapes Go.WideShapes Go.ChangeAt Go.RowKit

/-- an item at a place: what it says, how many bytes it has -/
def docItem (m c : UInt8) (t : List UInt8) : Option (List UInt8 × Nat) :=
  if c = 92 then escOf m 1 t else if c = 10 then none else if m = 34 then some ([c], 1) else if wide (c :: t) = 0 then none else some ((c :: t).take (wide (c :: t)), wide (c :: t))
theorem fresh_row (w : World) (o : Obj) : (w.alloc o).heap[w.heap.size]? = some o := by
  show (w.heap.push _)[w.heap.size]? = _; simp
end Go.Proofs.YtoffjpgobhcipaaDoor

/-
  Layer 6: the document's Begun: raw strings.
-/
namespace Go.Proofs.YtoffjpgobhcipaaDoor
open Go.ChangeShapes Go.WideShapes Go.ChangeAt Go.RowKit

/-- what Begun answers -/
def begAns : Option (Nat × List UInt8 × Nat) → Value
  | some (K, L, k') => .tuple #[.int .u8 K, .int .i64 k', .string ⟨L.toArray⟩, .int .i64 0]
  | none => .tuple #[.int .u8 0, .int .i64 0, .string ⟨#[]⟩, .int .i64 4]
theorem conv_drewN {w : World} {base : Nat} {v : Value} {l : List UInt8} (h : w.ownsRow base 5 1 v l.length (bvals l)) (m : Nat) :
    (convert 40 9 v).run Tryd.prog (w.drewN m) = .ok (.string ⟨l.toArray⟩) (w.drewN m) := conv_own (w := w.drewN m) (base := base) h
theorem results_tmp4 {fn : Func} {t u v x : Tmp} (h : fn.results = #[.tmp t, .tmp u, .tmp v, .tmp x]) (tmps : Array Value) (P : Program) (w : World) :
    (results fn tmps).run P w = .ok (.tuple #[tmps.getD t undef, tmps.getD u undef, tmps.getD v undef, tmps.getD x undef]) w := by
  simp [results, h]
end Go.Proofs.YtoffjpgobhcipaaDoor

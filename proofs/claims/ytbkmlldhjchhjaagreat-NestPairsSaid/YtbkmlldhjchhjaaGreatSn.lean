/-
  Layer 7: contracts of scan.One and of the document's One.
-/
import Derived.Test.YtbkmlldhjchhjaaGreatSm
namespace Go.Proofs.YtbkmlldhjchhjaaGreat
open Go.ChangeShapes Go.WideShapes Go.ChangeAt Go.RowKit

theorem cleanAt_ge (l : List UInt8) : ∀ f p, cleanAt l f p = -1 ∨ 0 ≤ cleanAt l f p
  | 0, p => .inl rfl
  | f + 1, p => by
    unfold cleanAt
    split
    · split
      · exact .inr (by omega)
      · exact cleanAt_ge l f _
    · exact .inl rfl
/-- a clean text is clean from each of its characters on -/
theorem clean_sub (l : List UInt8) : ∀ f pos p g, cleanAt l f pos = -1 → l.length - pos ≤ f → pos ≤ p → (l.length ≤ p ∨ wide (l.drop p) ≠ 0) → l.length - p ≤ g → cleanAt l g p = -1
  | 0, pos, p, g, _, hf, hp, _, _ => cleanAt_end l g p (by omega)
  | f + 1, pos, p, g, hc, hf, hp, hw, hg => by
    by_cases hpl : l.length ≤ p
    · exact cleanAt_end l g p (by omega)
    · have hw' := hw.resolve_left hpl
      by_cases he : p = pos
      · subst he
        rw [← cleanAt_fuel l (f + 1) g p hf hg]; exact hc
      · obtain ⟨h1, _, _, h4⟩ := clean_step hc (by omega)
        by_cases hlt : p < pos + wide (l.drop pos)
        · have h0 := within_none h1 (j := p - pos) (by omega) (by omega)
          rw [List.drop_drop, show pos + (p - pos) = p by omega] at h0
          exact absurd h0 hw'
        · exact clean_sub l f _ p g h4 (by omega) (by omega) hw hg
def zeroTok : Array Value := #[.int .u8 0, .int .i64 0, .int .i64 0]
theorem tokRow_size (a : Nat) (p : Nat × Nat) : (tokRow a p).size = 3 := by unfold tokRow; split <;> rfl
theorem tokRow_all (a : Nat) (p : Nat × Nat) : (tokRow a p).all (·.oneCell') = true := by unfold tokRow; split <;> simp [Value.oneCell']
/-- the lexeme at a place, and the error, in the document's words -/
def oneAns (l : List UInt8) (x : Int) : Array Value × Int :=
  if x < 0 ∨ (l.length : Int) ≤ x then (zeroTok, 1)
  else if wide (l.drop x.toNat) = 0 ∨ 0 ≤ cleanAt l l.length 0 then (zeroTok, 3)
  else (tokRow x.toNat (lexV l x.toNat), tokErr (lexV l x.toNat))
def oneV (p : Array Value × Int) : Value := .tuple #[.agg p.1, .int .i64 p.2]
end Go.Proofs.YtbkmlldhjchhjaaGreat

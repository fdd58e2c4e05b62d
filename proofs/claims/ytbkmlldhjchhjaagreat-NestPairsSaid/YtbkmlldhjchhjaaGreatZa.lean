/-
  Layer 8, plain: a line's end behind a token, as the document says it (for the law SemiPuts).
-/
import Derived.Test.YtbkmlldhjchhjaaGreatTi
namespace Go.Proofs.YtbkmlldhjchhjaaGreat

/-- does a line end behind a token? -/
def endedB (l : List UInt8) : List (Nat × Nat × Nat) → Bool
  | [] => true
  | x :: T => if silentB x.1 = true then (if (textAt l x).contains 10 = true then true else endedB l T) else false
theorem sems_ended (l : List UInt8) (z : Nat) : ∀ T, sems l (some z) T = if endedB l T = true then (9, z, z) :: sems l none T else sems l none T
  | [] => rfl
  | x :: T => by
    cases hk : silentB x.1 with
    | false =>
      rw [sems_loud l (some z) x T hk, sems_loud l none x T hk]
      have : endedB l (x :: T) = false := by unfold endedB; rw [if_neg (by rw [hk]; decide)]
      rw [this, if_neg (show ¬ (false = true) by decide)]
    | true =>
      have e1 : ∀ o, sems l o (x :: T) = if (textAt l x).contains 10 = true then semiO o ++ sems l none T else sems l o T := by
        intro o
        conv => lhs; unfold sems
        rw [if_pos hk]
      have e2 : endedB l (x :: T) = if (textAt l x).contains 10 = true then true else endedB l T := by
        conv => lhs; unfold endedB
        rw [if_pos hk]
      rw [e1, e1, e2]
      by_cases hx : (textAt l x).contains 10 = true
      · rw [if_pos hx, if_pos hx, if_pos hx, if_pos rfl]; rfl
      · rw [if_neg hx, if_neg hx, if_neg hx]
        exact sems_ended l z T
/-- what a token adds -/
def addsB (l : List UInt8) (x : Nat × Nat × Nat) (T : List (Nat × Nat × Nat)) : List (Nat × Nat × Nat) := if endsB x.1 (textAt l x) = true ∧ endedB l T = true then [x, (9, x.2.2, x.2.2)] else [x]
theorem sems_adds (l : List UInt8) (x : Nat × Nat × Nat) (T : List (Nat × Nat × Nat)) (h : silentB x.1 = false) : sems l none (x :: T) = addsB l x T ++ sems l none T := by
  rw [sems_loud l none x T h]
  unfold addsB
  by_cases he : endsB x.1 (textAt l x) = true
  · rw [if_pos he, sems_ended]
    by_cases hd : endedB l T = true
    · rw [if_pos hd, if_pos ⟨he, hd⟩]; rfl
    · rw [if_neg hd, if_neg (fun e => hd e.2)]; rfl
  · rw [if_neg he, if_neg (fun e => he e.1)]; rfl
theorem ended_silent {l : List UInt8} {T : List (Nat × Nat × Nat)} {k : Nat} {x : Nat × Nat × Nat} (hx : T[k]? = some x) (h : silentB x.1 = true) : endedB l (T.drop k) = if (textAt l x).contains 10 = true then true else endedB l (T.drop (k + 1)) := by
  obtain ⟨h1, h2⟩ := List.getElem?_eq_some_iff.1 hx
  rw [List.drop_eq_getElem_cons h1, h2]
  conv => lhs; unfold endedB
  rw [if_pos h]
theorem ended_loud {l : List UInt8} {T : List (Nat × Nat × Nat)} {k : Nat} {x : Nat × Nat × Nat} (hx : T[k]? = some x) (h : silentB x.1 = false) : endedB l (T.drop k) = false := by
  obtain ⟨h1, h2⟩ := List.getElem?_eq_some_iff.1 hx
  rw [List.drop_eq_getElem_cons h1, h2]
  unfold endedB
  rw [if_neg (by rw [h]; decide)]
theorem ended_all {l : List UInt8} {T : List (Nat × Nat × Nat)} : endedB l (T.drop T.length) = true := by rw [List.drop_length]; rfl
/-- a byte 10 in a stretch, looked for byte by byte -/
def tenB (l : List UInt8) (b z : Nat) : Bool := ((l.drop b).take (z - b)).contains 10
theorem ten_end (l : List UInt8) (z : Nat) : tenB l z z = false := by unfold tenB; rw [Nat.sub_self]; rfl
theorem ten_step {l : List UInt8} {b z : Nat} {c : UInt8} (h : b < z) (hc : l[b]? = some c) : tenB l b z = ((c == 10) || tenB l (b + 1) z) := by
  obtain ⟨h1, h2⟩ := List.getElem?_eq_some_iff.1 hc
  unfold tenB
  obtain ⟨n, hn⟩ : ∃ n, z - b = n + 1 := ⟨z - b - 1, by omega⟩
  rw [hn, List.drop_eq_getElem_cons h1, h2, List.take_succ_cons, List.contains_cons, show z - (b + 1) = n by omega]
  congr 1
  exact Bool.eq_iff_iff.2 ⟨fun e => by rw [beq_iff_eq] at *; exact e.symm, fun e => by rw [beq_iff_eq] at *; exact e.symm⟩
end Go.Proofs.YtbkmlldhjchhjaaGreat

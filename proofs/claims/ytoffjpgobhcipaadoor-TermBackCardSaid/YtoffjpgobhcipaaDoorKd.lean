/-
  Layer 11: plain texts of a swap; term.behind (texts Jd Jh).
-/
import Derived.Test.YtoffjpgobhcipaaDoorPz
import Derived.Test.YtoffjpgobhcipaaDoorIb
namespace Go.Proofs.YtoffjpgobhcipaaDoor.Trm

/-- the number behind n trees from a place on, ahead of an end -/
def toF (K : List Int) (last : Nat) : Nat → Nat → Option Nat
  | 0, p => some p
  | n + 1, p => if p < last then toF K last n (endN K p) else none
theorem toF_le {K : List Int} {last lo : Nat} (hE : ∀ p, lo ≤ p → p < last → p < endN K p ∧ endN K p ≤ last) : ∀ (n p q : Nat), toF K last n p = some q → lo ≤ p → p ≤ last → p + n ≤ q ∧ q ≤ last
  | 0, p, q, h, _, hp => by
    injection h with h
    subst h
    exact ⟨by omega, hp⟩
  | n + 1, p, q, h, hlo, hp => by
    unfold toF at h
    split at h
    · rename_i hlt
      have h1 := hE p hlo hlt
      have := toF_le hE n _ q h (by omega) h1.2
      omega
    · cases h
theorem up_spec {K : List Int} (hw : wellB K = true) {i : Nat} (h0 : 0 < i) (hi : i < K.length) : ∃ u : Nat, upN K i = u ∧ u < i ∧ i < endN K u := by
  have h1 : ∀ j, j ≤ i → upFrom K i j = -1 ∨ ∃ u : Nat, upFrom K i j = u ∧ u < j ∧ i < endN K u := by
    intro j
    induction j with
    | zero => intro _; exact .inl rfl
    | succ j ih =>
      intro hj
      by_cases h : i < endN K j
      · exact .inr ⟨j, up_yes h, by omega, h⟩
      · rw [up_not (by omega)]
        rcases ih (by omega) with h2 | ⟨u, h2, h3, h4⟩
        · exact .inl h2
        · exact .inr ⟨u, h2, by omega, h4⟩
  have h2 : ∀ j, 0 < j → upFrom K i j ≠ -1 := by
    intro j
    induction j with
    | zero => intro h; omega
    | succ j ih =>
      intro _
      by_cases h : i < endN K j
      · rw [up_yes h]; omega
      · rw [up_not (by omega)]
        apply ih
        rcases Nat.eq_zero_or_pos j with rfl | hj
        · exfalso
          apply h
          rw [goes_end (well_goes.1 hw)]
          exact hi
        · exact hj
  rcases h1 i (Nat.le_refl _) with h | ⟨u, h, h3, h4⟩
  · exact absurd h (h2 i h0)
  · exact ⟨u, h, h3, h4⟩
theorem end_well {K : List Int} (hw : wellB K = true) {i : Nat} (hi : i < K.length) : Goes K i 1 (endN K i) ∧ i < endN K i ∧ endN K i ≤ K.length :=
  end_goes (well_goes.1 hw) (Nat.zero_le i) hi
/-- within what stands up to the end of a part all ends lie there -/
theorem end_in {K : List Int} (hw : wellB K = true) {u : Nat} (hu : u < K.length) {p : Nat} (hp : u ≤ p) (h : p < endN K u) : p < endN K p ∧ endN K p ≤ endN K u :=
  (end_goes (end_well hw hu).1 hp h).2
theorem kids_le {K : List Int} (hw : wellB K = true) {u : Nat} {k : Int} (hk : K[u]? = some k) : 0 ≤ k ∧ k ≤ K.length := by
  have hu := (List.getElem?_eq_some_iff.1 hk).1
  have h := (end_well hw hu).1
  obtain ⟨k', h1, h2, h3⟩ := goes_succ.1 h
  rw [hk] at h1
  injection h1 with h1
  subst h1
  have := goes_le h3
  omega
/-- what comes of it -/
def swapL (l b : List Pt) (u i to : Nat) (d : Int) : List Pt := (l.take i).modify u (fun p => { p with kids := p.kids + d }) ++ (b ++ l.drop to)
noncomputable def swapP (l b : List Pt) (i n : Int) : List Pt × Int :=
  if wellB (kidsP l) = false ∨ treesZ (kidsP b) < 0 then ([], 8)
  else if i < 0 ∨ (l.length : Int) ≤ i ∨ n < 0 ∨ (i = 0 ∧ (n ≠ 1 ∨ treesZ (kidsP b) ≠ 1)) then ([], 1)
  else if i = 0 then (b, 0)
  else match toF (kidsP l) (endN (kidsP l) (upN (kidsP l) i.toNat).toNat) n.toNat i.toNat with
    | none => ([], 1)
    | some to => (swapL l b (upN (kidsP l) i.toNat).toNat i.toNat to (treesZ (kidsP b) - n), 0)
theorem modify_left {α : Type} (f : α → α) : ∀ (a b : List α) (u : Nat), u < a.length → (a ++ b).modify u f = a.modify u f ++ b
  | [], b, u, h => by simp at h
  | x :: a, b, 0, h => rfl
  | x :: a, b, u + 1, h => by
    rw [List.cons_append, List.modify_succ_cons, List.modify_succ_cons, List.cons_append, modify_left f a b u (by simpa using h)]
theorem swapL_whole (l b : List Pt) (u i to : Nat) (d : Int) (hu : u < i) (hi : i ≤ l.length) : swapL l b u i to d = (l.take i ++ (b ++ l.drop to)).modify u (fun p => { p with kids := p.kids + d }) := by
  unfold swapL
  rw [modify_left _ _ _ _ (by rw [List.length_take]; omega)]
end Go.Proofs.YtoffjpgobhcipaaDoor.Trm

namespace Go.Proofs.YtoffjpgobhcipaaDoor.Trm
open Go.ChangeShapes Go.WideShapes Go.ChangeAt Go.RowKit

/-- what behind answers -/
def BehindIs (o : Option Nat) (e : Ending) : Prop :=
  (∀ q, o = some q → e = .returned (.tuple #[.int .i64 (q : Int), .bool true])) ∧ (o = none → ∃ z, e = .returned (.tuple #[.int .i64 z, .bool false]))
set_option maxHeartbeats 4000000 in
theorem behind_zero (w : World) (a : Option Addr) (n cap : Nat) :
    Calls Tryd.prog 26 #[.slice a n cap, .int .i64 0, .int .i64 1] w fun e w' => e = .returned (.tuple #[.int .i64 (n : Int), .bool true]) ∧ w = w' := by
  go_enter Tryd.func26, Tryd.ntmps26
  go_wp2
  go_ret2
  exact ⟨rfl, rfl⟩
set_option maxHeartbeats 4000000 in
theorem behind_any (w : World) (a : Option Addr) (n cap : Nat) (l : List Pt) (hl : Parts w a n l) (hn : n ≤ 4398046511104) (hW : wellB (kidsP l) = true) (i u m : Nat) (h0 : 0 < i) (hi : i < n) (hm : m ≤ 9223372036854775807)
    (hu : upN (kidsP l) i = u) (hui : u < i) (hue : i < endN (kidsP l) u) :
    Calls Tryd.prog 26 #[.slice a n cap, .int .i64 (i : Int), .int .i64 (m : Int)] w fun e w' => BehindIs (toF (kidsP l) (endN (kidsP l) u) m i) e ∧ w = w' := by
  have hlk : (kidsP l).length = n := by rw [kidsP_len]; exact hl.1
  have hup := up_any w a n cap l hl hn hW i hi
  rw [hu] at hup
  have hen := fun j (hj : j < n) => wend_any w a n cap l hl hn j _ (end_well hW (by rw [hlk]; exact hj)).1
  have HEW := Lib.hid (fun j (hj : j < n) => (end_well hW (i := j) (by rw [hlk]; exact hj)).2)
  have heu := hen u (by omega)
  obtain ⟨last, hlast⟩ : ∃ last, last = endN (kidsP l) u := ⟨_, rfl⟩
  have HIN := Lib.hid (fun p (h1 : u ≤ p) (h2 : p < endN (kidsP l) u) => end_in hW (u := u) (by rw [hlk]; omega) h1 h2)
  have hln : last ≤ n := by rw [hlast, ← hlk]; exact (end_well hW (i := u) (by rw [hlk]; omega)).2.2
  rw [← hlast] at heu HIN hue ⊢
  obtain ⟨A, hA⟩ : ∃ A, A = toF (kidsP l) last m i := ⟨_, rfl⟩
  rw [← hA]
  have HA := Lib.hid hA
  have HEN := Lib.hid hen
  have d0 : ((i : Int) == 0) = false := by simp; omega
  clear hA hlast hl hlk hW hu hen
  go_enter Tryd.func26, Tryd.ntmps26
  go_wp2_with (first
    | (go_at_call 28; refine hup.mono ?_; rintro e w2 ⟨rfl, rfl⟩)
    | (go_at_call 30; refine heu.mono ?_; rintro e w3 ⟨rfl, rfl⟩))
  go_loopw [8, 9] (fun t8 t9 wr => ∃ (r p : Nat), r ≤ m ∧ u ≤ p ∧ p ≤ last ∧ t8 = .int .i64 (r : Int) ∧ t9 = .int .i64 (p : Int) ∧ wr = w ∧ Hid (A = toF (kidsP l) last r p)) (fun _ t9 _ => last - (intOf t9).toNat)
  case atStart => exact ⟨m, i, Nat.le_refl _, by omega, by omega, rfl, rfl, rfl, HA⟩
  case round =>
    obtain ⟨r, p, hrm, hup2, hpl, rfl, rfl, rfl, HT⟩ := hrel
    cases r with
    | zero =>
      have HR : Hid (BehindIs A (.returned (.tuple #[.int .i64 (p : Int), .bool true]))) := Lib.hid (by
        rw [HT.out]
        exact ⟨fun q hq => by unfold toF at hq; injection hq with hq; rw [hq], fun h => by unfold toF at h; cases h⟩)
      go_wp2
      go_ret2
      exact ⟨HR.out, rfl⟩
    | succ r =>
      by_cases hlt : p < last
      · obtain ⟨h1, h2⟩ := HIN.out p hup2 hlt
        have hc := HEN.out p (by omega)
        have HT2 : Hid (A = toF (kidsP l) last r (endN (kidsP l) p)) := Lib.hid (by
          have := HT.out
          unfold toF at this
          rw [if_pos hlt] at this
          exact this)
        generalize endN (kidsP l) p = q at h1 h2 hc HT2
        go_wp2_with (go_at_call 30; refine hc.mono ?_; rintro e w3 ⟨rfl, rfl⟩)
        go_roundw
        case rel => exact ⟨r, q, by omega, by omega, h2, by go_num, rfl, (by first | rfl | trivial), HT2⟩
        case measure => simp [intOf]; omega
      · have HR : Hid (∀ z, BehindIs A (.returned (.tuple #[.int .i64 z, .bool false]))) := Lib.hid (fun z => by
          have := HT.out
          unfold toF at this
          rw [if_neg hlt] at this
          rw [this]
          exact ⟨(fun q hq => by cases hq), fun _ => ⟨z, rfl⟩⟩)
        go_wp2
        go_ret2
        exact ⟨HR.out _, rfl⟩
end Go.Proofs.YtoffjpgobhcipaaDoor.Trm

/-
  Layer 11: parts as they lie in memory; contracts of woods.End, Trees, and of the document's End, Trees, Well.
-/
import Derived.Test.YtoffjpgobhcipaaGreatDoorRows
import Derived.Test.YtoffjpgobhcipaaGreatDoorPz
import Derived.WalkKit
import Derived.ProofKit
import Derived.OpenShut
import Derived.LoopTactic
import Derived.Lib.Hide
import Derived.Outline
import Derived.Deep.QuietTactic
import Derived.BigQuiet
import Derived.WalkSmall
import Derived.Below
import Derived.Laws.Rows
namespace Go.Proofs.YtoffjpgobhcipaaGreatDoor.Trm
open Go.ChangeShapes Go.WideShapes Go.ChangeAt Go.RowKit
theorem ret_bool {a b : Bool} (h : a = b) : Ending.returned (.bool a) = .returned (.bool b) := by rw [h]
theorem ret_int {k : IntKind} {a b : Int} (h : a = b) : Ending.returned (.int k a) = .returned (.int k b) := by rw [h]
theorem below_chain {a b c : World} (h : Below a.heap.size a b) (k : Below b.heap.size b c) : Below a.heap.size a c := h.trans (k.mono h.size)
theorem cell_lt {w : World} {a : Addr} {v : Value} (h : w.cell? a = some v) : a.block < w.heap.size := by
  unfold World.cell? at h
  cases hb : w.heap[a.block]? with
  | none => rw [hb] at h; cases h
  | some o => exact (Array.getElem?_eq_some_iff.1 hb).1

/-- a slice that reads as parts -/
def Parts (w : World) (a : Option Addr) (n : Nat) (l : List Pt) : Prop :=
  l.length = n ∧ ∀ k x, l[k]? = some x → ∃ g off, a = some ⟨g, off, none⟩ ∧ w.cell? ⟨g, off + k * 3, none⟩ = some (.int .u8 x.kind) ∧ w.cell? ⟨g, off + k * 3 + 1, none⟩ = some (.int .i64 x.kids) ∧
    w.cell? ⟨g, off + k * 3 + 2, none⟩ = some (.string x.word)
theorem parts_below {w w' : World} {a : Option Addr} {n : Nat} {l : List Pt} (h : Parts w a n l) (hB : Below w.heap.size w w') : Parts w' a n l := by
  refine ⟨h.1, fun k x hk => ?_⟩
  obtain ⟨g, off, e, c0, c1, c2⟩ := h.2 k x hk
  exact ⟨g, off, e, (hB.cell (p := ⟨g, _, none⟩) (cell_lt c0)).trans c0, (hB.cell (p := ⟨g, _, none⟩) (cell_lt c1)).trans c1, (hB.cell (p := ⟨g, _, none⟩) (cell_lt c2)).trans c2⟩
theorem parts_some {w : World} {a : Option Addr} {n : Nat} {l : List Pt} (h : Parts w a n l) {k : Nat} (hk : k < n) : l[k]? = some (l.getD k pt0) := by
  have : k < l.length := by rw [h.1]; exact hk
  rw [List.getElem?_eq_getElem this]; simp [List.getD, List.getElem?_eq_getElem this]
/-- bounds on a list of parts that came in -/
def KidsFit (l : List Pt) : Prop := ∀ x ∈ l, -9223372036854775808 ≤ x.kids ∧ x.kids ≤ 9223372036854775807
set_option maxHeartbeats 2000000 in
theorem rend_any (w : World) (a : Option Addr) (n cap : Nat) (l : List Pt) (hl : Parts w a n l) (hn : n ≤ 2000) (i : Nat) (hi : i ≤ n) :
    Calls Tryz.prog 18 #[.slice a n cap, .int .i64 i] w fun e w' => e = .returned (.int .i64 (endZ (kidsP l) i)) ∧ w = w' := by
  have HLN := Lib.hid hl.1
  have HLK : Hid ((kidsP l).length = n) := Lib.hid (by rw [kidsP_len]; exact hl.1)
  go_enter Tryz.func18, Tryz.ntmps18
  go_wp2
  go_loop [1, 5] (fun t v => ∃ k m : Nat, k ≤ n ∧ t = .int .i64 k ∧ v = .int .i64 m ∧ m ≤ 1 + k * 2000 ∧ Hid (∀ e, Goes (kidsP l) i 1 e ↔ Goes (kidsP l) k m e)) (fun t _ => n - (intOf t).toNat)
  case atStart => exact ⟨i, 1, hi, rfl, rfl, by omega, Lib.hid (fun e => Iff.rfl)⟩
  case round =>
    obtain ⟨k, m, hk, rfl, rfl, hm, HG⟩ := hrel
    cases m with
    | zero =>
      go_wp2
      go_ret
      exact ⟨ret_int (endZ_stop HG.out rfl).symm, rfl⟩
    | succ m =>
      by_cases hlt : k < n
      · have hx := parts_some hl hlt
        obtain ⟨g, off, rfl, c0, c1, c2⟩ := hl.2 k _ hx
        have HK := Lib.hid (kidsP_at hx)
        generalize l.getD k pt0 = x at c0 c1 c2 HK
        clear hx hl
        by_cases h1 : x.kids < 0
        · go_wp2
          go_ret
          exact ⟨ret_int (endZ_fail HG.out (.inr ⟨_, HK.out, .inl h1⟩)).symm, rfl⟩
        · by_cases h2 : (n : Int) < x.kids
          · go_wp2
            go_ret
            exact ⟨ret_int (endZ_fail HG.out (.inr ⟨_, HK.out, .inr (by rw [HLK.out]; exact h2)⟩)).symm, rfl⟩
          · obtain ⟨q, hq⟩ : ∃ q : Nat, x.kids = q := ⟨x.kids.toNat, by omega⟩
            rw [hq] at c1
            have HS := Lib.hid (endZ_step HG.out HK.out (by omega))
            have hq2 : q ≤ n := by omega
            have HQ := Lib.hid hq
            clear h1 h2 hq
            go_wp2
            go_round
            case rel => exact ⟨k + 1, m + q, by omega, by go_num, by go_num, by omega, Lib.hid (by have := HS.out; rw [HQ.out] at this; exact this)⟩
            case measure => simp [intOf]; omega
      · go_wp2
        go_ret
        exact ⟨ret_int (endZ_fail HG.out (.inl (by rw [HLK.out]; omega))).symm, rfl⟩
set_option maxHeartbeats 2000000 in
theorem rwell_any (w : World) (a : Option Addr) (n cap : Nat) (l : List Pt) (hl : Parts w a n l) (hn : n ≤ 2000) :
    Calls Tryz.prog 12 #[.slice a n cap] w fun e w' => e = .returned (.bool (wellB (kidsP l))) ∧ w = w' := by
  have hre := rend_any w a n cap l hl hn 0 (Nat.zero_le _)
  have hlk : (kidsP l).length = n := by rw [kidsP_len]; exact hl.1
  by_cases h0 : 0 < n
  · have hw : wellB (kidsP l) = (endZ (kidsP l) 0 == (n : Int)) := by
      rw [Bool.eq_iff_iff, well_goes, beq_iff_eq, hlk]
      rcases endZ_cases (kidsP l) 0 with ⟨e, h1, g, _⟩ | ⟨h1, g⟩
      · rw [h1]
        constructor
        · intro h; rw [goes_fun g h]
        · intro h; obtain rfl : e = n := by omega
          exact g
      · rw [h1]
        constructor
        · intro h; exact absurd h (g _)
        · intro h; omega
    rw [hw]
    generalize endZ (kidsP l) 0 = z at hre
    clear hw hl hlk
    go_enter Tryz.func12, Tryz.ntmps12
    go_wp2_with (go_at_call 18; refine hre.mono ?_; rintro e w1 ⟨rfl, rfl⟩)
    go_ret
    exact ⟨by simp, rfl⟩
  · obtain rfl : n = 0 := by omega
    have hw : wellB (kidsP l) = false := by
      cases hb : wellB (kidsP l) with
      | false => rfl
      | true => have := goes_le (well_goes.1 hb); omega
    rw [hw]
    clear hw hl hlk hre
    go_enter Tryz.func12, Tryz.ntmps12
    go_wp2
    go_ret
    exact ⟨rfl, rfl⟩
set_option maxHeartbeats 2000000 in
theorem rtrees_any (w : World) (a : Option Addr) (n cap : Nat) (l : List Pt) (hl : Parts w a n l) (hn : n ≤ 2000) :
    Calls Tryz.prog 51 #[.slice a n cap] w fun e w' => e = .returned (.int .i64 (treesZ (kidsP l))) ∧ w = w' := by
  have HLK : Hid ((kidsP l).length = n) := Lib.hid (by rw [kidsP_len]; exact hl.1)
  have hre := fun i hi => rend_any w a n cap l hl hn i hi
  clear hl
  go_enter Tryz.func51, Tryz.ntmps51
  go_wp2
  go_loop [3, 4] (fun v t => ∃ k m : Nat, k ≤ n ∧ m ≤ k ∧ v = .int .i64 m ∧ t = .int .i64 k ∧ Hid (Goes (kidsP l) 0 m k)) (fun _ t => n - (intOf t).toNat)
  case atStart => exact ⟨0, 0, Nat.zero_le _, Nat.le_refl _, rfl, rfl, Lib.hid (goes_zero _ _)⟩
  case round =>
    obtain ⟨k, m, hk, hm, rfl, rfl, HG⟩ := hrel
    by_cases hlt : k < n
    · have hr := hre k hk
      rcases endZ_cases (kidsP l) k with ⟨e, h1, g, h2, h3⟩ | ⟨h1, g⟩
      · rw [h1] at hr
        rw [HLK.out] at h3
        have HG2 := Lib.hid (goes_add.2 ⟨k, HG.out, g⟩)
        have q1 : ¬ (e : Int) < 0 := by omega
        clear h1 g hre
        go_wp2_with (go_at_call 18; refine hr.mono ?_; rintro e w1 ⟨rfl, rfl⟩)
        go_round
        case rel => exact ⟨e, m + 1, h3, by omega, by go_num, rfl, HG2⟩
        case measure => simp [intOf]; omega
      · rw [h1] at hr
        have HT := Lib.hid (trees_stop HG.out (by rw [HLK.out]; exact hlt) g)
        clear h1 g hre
        go_wp2_with (go_at_call 18; refine hr.mono ?_; rintro e w1 ⟨rfl, rfl⟩)
        go_ret
        exact ⟨ret_int HT.out.symm, rfl⟩
    · obtain rfl : k = n := by omega
      have HT : Hid (treesZ (kidsP l) = m) := Lib.hid (trees_is (by rw [HLK.out]; exact HG.out))
      clear hre
      go_wp2
      go_ret
      exact ⟨ret_int HT.out.symm, rfl⟩
end Go.Proofs.YtoffjpgobhcipaaGreatDoor.Trm

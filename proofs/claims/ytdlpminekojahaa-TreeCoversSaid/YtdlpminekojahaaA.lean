/-
  Layer 10: nodes as they lie in memory; contract of the document's End.
-/
import Derived.Test.YtdlpminekojahaaRows
import Derived.Test.YtdlpminekojahaaPf
import Derived.WalkKit
import Derived.ProofKit
import Derived.OpenShut
import Derived.LoopTactic
import Derived.Lib.Hide
import Derived.Outline
import Derived.Deep.QuietTactic
import Derived.BigQuiet
import Derived.WalkSmall
import Derived.Below
namespace Go.Proofs.Ytdlpminekojahaa
open Go.ChangeShapes Go.WideShapes Go.ChangeAt Go.RowKit
theorem ret_bool {a b : Bool} (h : a = b) : Ending.returned (.bool a) = .returned (.bool b) := by rw [h]
theorem ret_int {k : IntKind} {a b : Int} (h : a = b) : Ending.returned (.int k a) = .returned (.int k b) := by rw [h]
theorem below_chain {a b c : World} (h : Below a.heap.size a b) (k : Below b.heap.size b c) : Below a.heap.size a c := h.trans (k.mono h.size)
theorem cell_lt {w : World} {a : Addr} {v : Value} (h : w.cell? a = some v) : a.block < w.heap.size := by
  unfold World.cell? at h
  cases hb : w.heap[a.block]? with
  | none => rw [hb] at h; cases h
  | some o => exact (Array.getElem?_eq_some_iff.1 hb).1

/-- a slice that reads as nodes -/
def Nodes (w : World) (a : Option Addr) (n : Nat) (l : List Nd) : Prop :=
  l.length = n ∧ ∀ k x, l[k]? = some x → ∃ g off, a = some ⟨g, off, none⟩ ∧ w.cell? ⟨g, off + k * 5, none⟩ = some (.int .u8 x.kind) ∧ w.cell? ⟨g, off + k * 5 + 1, none⟩ = some (.int .i64 x.kids) ∧
    w.cell? ⟨g, off + k * 5 + 2, none⟩ = some (.int .i64 x.word) ∧ w.cell? ⟨g, off + k * 5 + 3, none⟩ = some (.int .i64 x.lo) ∧ w.cell? ⟨g, off + k * 5 + 4, none⟩ = some (.int .i64 x.hi)
theorem nodes_below {w w' : World} {a : Option Addr} {n : Nat} {l : List Nd} (h : Nodes w a n l) (hB : Below w.heap.size w w') : Nodes w' a n l := by
  refine ⟨h.1, fun k x hk => ?_⟩
  obtain ⟨g, off, e, c0, c1, c2, c3, c4⟩ := h.2 k x hk
  exact ⟨g, off, e, (hB.cell (p := ⟨g, _, none⟩) (cell_lt c0)).trans c0, (hB.cell (p := ⟨g, _, none⟩) (cell_lt c1)).trans c1, (hB.cell (p := ⟨g, _, none⟩) (cell_lt c2)).trans c2,
    (hB.cell (p := ⟨g, _, none⟩) (cell_lt c3)).trans c3, (hB.cell (p := ⟨g, _, none⟩) (cell_lt c4)).trans c4⟩
theorem nodes_some {w : World} {a : Option Addr} {n : Nat} {l : List Nd} (h : Nodes w a n l) {k : Nat} (hk : k < n) : l[k]? = some (l.getD k nd0) := by
  have : k < l.length := by rw [h.1]; exact hk
  rw [List.getElem?_eq_getElem this]; simp [List.getD, List.getElem?_eq_getElem this]
theorem kidsL_getD {l : List Nd} {k : Nat} (hk : k < l.length) : (kidsL l)[k]? = some (l.getD k nd0).kids := by
  have h1 : l[k]? = some (l.getD k nd0) := by rw [List.getElem?_eq_getElem hk]; simp [List.getD, List.getElem?_eq_getElem hk]
  exact kidsL_at l k _ h1

theorem endZ_stop {K : List Int} {i k : Nat} {m : Nat} (h : ∀ e, Goes K i 1 e ↔ Goes K k m e) (hm : m = 0) : endZ K i = k := by
  subst hm
  rcases endZ_cases K i with ⟨e, h1, g, _⟩ | ⟨_, g⟩
  · rw [h1, goes_fun ((h e).1 g) (goes_zero K k)]
  · exact absurd ((h k).2 (goes_zero K k)) (g k)
theorem endZ_fail {K : List Int} {i k : Nat} {m : Nat} (h : ∀ e, Goes K i 1 e ↔ Goes K k (m + 1) e) (hk : K.length ≤ k ∨ ∃ x, K[k]? = some x ∧ (x < 0 ∨ (K.length : Int) < x)) : endZ K i = -1 := by
  rcases endZ_cases K i with ⟨e, h1, g, _⟩ | ⟨h1, _⟩
  · exfalso
    have g1 := (h e).1 g
    obtain ⟨x, hx, h0, g2⟩ := goes_succ.1 g1
    rcases hk with hk | ⟨y, hy, hk⟩
    · have := (List.getElem?_eq_some_iff.1 hx).1; omega
    · rw [hy] at hx; injection hx with hx; subst hx
      have h3 := goes_len g1
      have := goes_le g2
      omega
  · exact h1
theorem endZ_step {K : List Int} {i k m : Nat} {x : Int} (h : ∀ e, Goes K i 1 e ↔ Goes K k (m + 1) e) (hx : K[k]? = some x) (h0 : 0 ≤ x) : ∀ e, Goes K i 1 e ↔ Goes K (k + 1) (m + x.toNat) e := by
  intro e
  rw [h, goes_succ]
  constructor
  · rintro ⟨y, hy, _, g⟩
    rw [hx] at hy; injection hy with hy; subst hy; exact g
  · intro g; exact ⟨x, hx, h0, g⟩
set_option maxHeartbeats 2000000 in
theorem rend_any (w : World) (a : Option Addr) (n cap : Nat) (l : List Nd) (hl : Nodes w a n l) (hn : n ≤ 2000) (i : Nat) (hi : i ≤ n) :
    Calls Try.prog 20 #[.slice a n cap, .int .i64 i] w fun e w' => e = .returned (.int .i64 (endZ (kidsL l) i)) ∧ w = w' := by
  have HLN := Lib.hid hl.1
  have HLK : Hid ((kidsL l).length = n) := Lib.hid (by rw [kidsL_len]; exact hl.1)
  go_enter Try.func20, Try.ntmps20
  go_wp2
  go_loop [1, 5] (fun t v => ∃ k m : Nat, k ≤ n ∧ t = .int .i64 k ∧ v = .int .i64 m ∧ m ≤ 1 + k * 2000 ∧ Hid (∀ e, Goes (kidsL l) i 1 e ↔ Goes (kidsL l) k m e)) (fun t _ => n - (intOf t).toNat)
  case atStart => exact ⟨i, 1, hi, rfl, rfl, by omega, Lib.hid (fun e => Iff.rfl)⟩
  case round =>
    obtain ⟨k, m, hk, rfl, rfl, hm, HG⟩ := hrel
    cases m with
    | zero =>
      go_wp2
      go_ret
      exact ⟨ret_int (endZ_stop HG.out rfl).symm, rfl⟩
    | succ m =>
      by_cases hlt : k < n
      · have hx := nodes_some hl hlt
        obtain ⟨g, off, rfl, c0, c1, c2, c3, c4⟩ := hl.2 k _ hx
        have HK := Lib.hid (kidsL_at l k _ hx)
        generalize l.getD k nd0 = x at c0 c1 c2 c3 c4 HK
        clear hx hl
        by_cases h1 : x.kids < 0
        · go_wp2
          go_ret
          exact ⟨ret_int (endZ_fail HG.out (.inr ⟨_, HK.out, .inl h1⟩)).symm, rfl⟩
        · by_cases h2 : (n : Int) < x.kids
          · go_wp2
            go_ret
            exact ⟨ret_int (endZ_fail HG.out (.inr ⟨_, HK.out, .inr (by rw [HLK.out]; exact h2)⟩)).symm, rfl⟩
          · obtain ⟨q, hq⟩ : ∃ q : Nat, x.kids = q := ⟨x.kids.toNat, by omega⟩
            rw [hq] at c1
            have HS := Lib.hid (endZ_step HG.out HK.out (by omega))
            have hq2 : q ≤ n := by omega
            have HQ := Lib.hid hq
            clear h1 h2 hq
            go_wp2
            go_round
            case rel => exact ⟨k + 1, m + q, by omega, by go_num, by go_num, by omega, Lib.hid (by have := HS.out; rw [HQ.out] at this; exact this)⟩
            case measure => simp [intOf]; omega
      · go_wp2
        go_ret
        exact ⟨ret_int (endZ_fail HG.out (.inl (by rw [HLK.out]; omega))).symm, rfl⟩
end Go.Proofs.Ytdlpminekojahaa

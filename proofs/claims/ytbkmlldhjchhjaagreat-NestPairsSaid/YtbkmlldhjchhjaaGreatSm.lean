/-
  Layer 7: contracts of scan.lexeme: a token as a result.
-/
import Derived.Test.YtbkmlldhjchhjaaGreatSk
import Derived.Laws.ResultCell
namespace Go.Proofs.YtbkmlldhjchhjaaGreat
open Go.ChangeShapes Go.WideShapes Go.ChangeAt Go.RowKit

theorem results_row_tmp {fn : Func} {p u : Tmp} {ty : TypeId} {P : Program} (h : fn.results = #[.cell p ty, .tmp u]) (tmps : Array Value) (w : World) (g : Nat) (cs : Array Value) (e : Value)
    (hp : tmps.getD p undef = .pointer (some ⟨g, 0, none⟩)) (he : tmps.getD u undef = e) (hl : (loadVar ty ⟨g, 0, none⟩).run P w = .ok (.agg cs) w) :
    (results fn tmps).run P w = .ok (.tuple #[.agg cs, e]) w := by
  rw [results_cell_tmp h, hp, ← he]
  simp [asAddr, Result.andThen, hl]
theorem info26 : (Tryz.prog.info? 40).map (·.size) = some 3 := by kernel_rfl
/-- a lexeme as the program hands it back -/
def tokRow (a : Nat) (p : Nat × Nat) : Array Value := if p.1 = 0 then #[.int .u8 0, .int .i64 0, .int .i64 0] else #[.int .u8 p.1, .int .i64 a, .int .i64 p.2]
def tokErr (p : Nat × Nat) : Int := if p.1 = 0 then 4 else 0
theorem Mx.alloc {w : World} (h : Mx w) (o : Obj) : Mx (w.alloc o) := h.below ((Below.refl w.heap.size w).alloc (Nat.le_refl _) o) h.lt
set_option maxHeartbeats 4000000 in
theorem plexeme_any (s : ByteArray) (hs : s.size ≤ 4294967280) (a : Nat) (ha : a < s.size) (g0 : Nat) (hg0 : s.size ≤ a + g0) (hcl : cleanAt s.data.toList g0 a = -1) (w : World) (hM : Mx w) :
    Calls Tryz.prog 26 #[.string s, .int .i64 a] w fun e w' => e = .returned (.tuple #[.agg (tokRow a (lexV s.data.toList a)), .int .i64 (tokErr (lexV s.data.toList a))]) ∧ Below w.heap.size w w' := by
  have hct : ∀ w, Mx w → _ := fun w hM => cut_any s hs a ha g0 hg0 hcl w hM
  obtain ⟨p, hp⟩ : ∃ p, p = lexV s.data.toList a := ⟨_, rfl⟩
  rw [← hp] at hct ⊢
  clear hp
  obtain ⟨k, z⟩ := p
  unfold lexAns at hct
  have HM := Lib.hid (hM.alloc (.cells #[.int .u8 0, .int .i64 0, .int .i64 0] 40))
  have hB0 : Below w.heap.size w (w.alloc (.cells #[.int .u8 0, .int .i64 0, .int .i64 0] 40)) := (Below.refl _ _).alloc (Nat.le_refl _) _
  have hh0 : (w.alloc (.cells #[.int .u8 0, .int .i64 0, .int .i64 0] 40)).heap[w.heap.size]? = some (.cells #[.int .u8 0, .int .i64 0, .int .i64 0] 40) := by
    show (w.heap.push _)[w.heap.size]? = _
    simp
  have hz0 : (w.alloc (.cells #[.int .u8 0, .int .i64 0, .int .i64 0] 40)).heap.size = w.heap.size + 1 := by simp
  have HB0 := Lib.hid hB0
  have HH0 := Lib.hid hh0
  have HZ0 := Lib.hid hz0
  clear hM hB0 hh0 hz0
  by_cases hk : k = 0
  · have q : ((k : Int) == 0) = true := by rw [hk]; rfl
    rw [show tokRow a (k, z) = #[.int .u8 0, .int .i64 0, .int .i64 0] by unfold tokRow; rw [if_pos hk], show tokErr (k, z) = 4 by unfold tokErr; rw [if_pos hk]]
    clear hk
    go_enter Tryz.func26, Tryz.ntmps26
    go_wp2_with (first
      | (go_at_call 34; refine (hct _ HM.out).mono ?_; rintro e w2 ⟨rfl, hB⟩; have hz1 := hB.size; have HH1 := Lib.hid ((hB.block w.heap.size (by rw [HZ0.out]; omega)).trans HH0.out); have hBw := HB0.out.trans (hB.mono (by rw [HZ0.out]; omega)); rw [HZ0.out] at hz1; clear hB)
      | (refine wpList_store_rowTo rfl 40 (.tmp 4) (.tmp 16) rfl rfl w.heap.size #[.int .u8 0, .int .i64 0, .int .i64 0] rfl rfl 40 #[.int .u8 0, .int .i64 0, .int .i64 0] HH1.out info26 rfl (by simp [Value.oneCell']) ?_))
    (try simp only [Exit.inBlock, Exit.then])
    refine bodyPost_ret (v := .tuple #[.agg #[.int .u8 0, .int .i64 0, .int .i64 0], .int .i64 4]) (results_row_tmp rfl _ _ w.heap.size #[.int .u8 0, .int .i64 0, .int .i64 0] (.int .i64 4) rfl rfl (run_loadVar_row _ w.heap.size 40 40 #[.int .u8 0, .int .i64 0, .int .i64 0] (0, 0) _ (setRow_heap _ _ _ _ _ _ HH1.out) Tryz.underlying40 rfl info26)) rfl ⟨rfl, below_setRow hBw (Nat.le_refl _) _⟩
  · have q : ((k : Int) == 0) = false := by simpa using hk
    rw [show tokRow a (k, z) = #[.int .u8 k, .int .i64 a, .int .i64 z] by unfold tokRow; rw [if_neg hk], show tokErr (k, z) = 0 by unfold tokErr; rw [if_neg hk]]
    clear hk
    go_enter Tryz.func26, Tryz.ntmps26
    go_wp2_with (first
      | (go_at_call 34; refine (hct _ HM.out).mono ?_; rintro e w2 ⟨rfl, hB⟩; have hz1 := hB.size; have HH1 := Lib.hid ((hB.block w.heap.size (by rw [HZ0.out]; omega)).trans HH0.out); have hBw := HB0.out.trans (hB.mono (by rw [HZ0.out]; omega)); rw [HZ0.out] at hz1; clear hB)
      | (refine wpList_store_rowTo rfl 40 (.tmp 4) (.tmp 20) rfl rfl w.heap.size #[.int .u8 k, .int .i64 a, .int .i64 z] rfl rfl 40 #[.int .u8 0, .int .i64 0, .int .i64 0] HH1.out info26 rfl (by simp [Value.oneCell']) ?_))
    (try simp only [Exit.inBlock, Exit.then])
    refine bodyPost_ret (v := .tuple #[.agg #[.int .u8 k, .int .i64 a, .int .i64 z], .int .i64 0]) (results_row_tmp rfl _ _ w.heap.size #[.int .u8 k, .int .i64 a, .int .i64 z] (.int .i64 0) rfl rfl (run_loadVar_row _ w.heap.size 40 40 #[.int .u8 k, .int .i64 a, .int .i64 z] (0, 0) _ (setRow_heap _ _ _ _ _ _ HH1.out) Tryz.underlying40 rfl info26)) rfl ⟨rfl, below_setRow hBw (Nat.le_refl _) _⟩
end Go.Proofs.YtbkmlldhjchhjaaGreat

/-
  Layer 11: contracts of the law's great, of the document's Same.
-/
import Derived.Test.YtoffjpgobhcipaaDoorIc
namespace Go.Proofs.YtoffjpgobhcipaaDoor.Trm
open Go.ChangeShapes Go.WideShapes Go.ChangeAt Go.RowKit

/-- how many bytes the words have -/
def totW : List Pt → Nat
  | [] => 0
  | x :: l => x.word.size + totW l
theorem totW_app : ∀ (a b : List Pt), totW (a ++ b) = totW a + totW b
  | [], b => by simp [totW]
  | x :: a, b => by simp [totW, totW_app a b]; omega
theorem totW_take {l : List Pt} {k : Nat} {x : Pt} (h : l[k]? = some x) : totW (l.take (k + 1)) = totW (l.take k) + x.word.size := by
  rw [List.take_add_one, h, totW_app]; simp [totW]
theorem totW_mem : ∀ {l : List Pt} {x : Pt}, x ∈ l → x.word.size ≤ totW l
  | y :: l, x, h => by
    rcases List.mem_cons.1 h with rfl | h
    · simp [totW]
    · have := totW_mem h; simp [totW]; omega
/-- a bool of which something is known -/
def RetB (P : Bool → Prop) (e : Ending) : Prop := ∃ b, e = .returned (.bool b) ∧ P b
def ptV (x : Pt) : Array Value := #[.int .u8 x.kind, .int .i64 x.kids, .string x.word]
theorem part_neq (x y : Pt) (w : World) : (binOp .neq 33 (.agg (ptV x)) (.agg (ptV y))).run Tryd.prog w = .ok (.bool (!(((x.kind : Int) == y.kind) && (x.kids == y.kids) && (x.word.toList == y.word.toList)))) w := by
  have ht : Tryd.prog.underlying 33 = some (.struct (Tryd.prog.fieldsOf 33)) := by kernel_rfl
  have hp : Tryd.prog.stoodInHeld 33 = false := by kernel_rfl
  have hf : (Tryd.prog.fieldsOf 33).toList.map (fun f => (f.name, f.type, f.offset)) = [("Kind", 5, 0), ("Kids", 3, 1), ("Word", 9, 2)] := by kernel_rfl
  unfold ptV
  rw [run_neq_struct, run_equalIn_agg _ 9999 33 _ _ ht hp]
  generalize (Tryd.prog.fieldsOf 33).toList = l at hf
  rcases l with _ | ⟨f1, _ | ⟨f2, _ | ⟨f3, _ | ⟨f4, l⟩⟩⟩⟩ <;> simp at hf
  obtain ⟨⟨n1, t1, o1⟩, ⟨n2, t2, o2⟩, n3, t3, o3⟩ := hf
  have u3 : Tryd.prog.underlying 3 = some (.int .i64) := by kernel_rfl
  have u5 : Tryd.prog.underlying 5 = some (.int .u8) := by kernel_rfl
  have u9 : Tryd.prog.underlying 9 = some .string := by kernel_rfl
  by_cases h1 : ((x.kind : Int) == y.kind) = true
  · by_cases h2 : (x.kids == y.kids) = true
    · simp [go_sem, n1, t1, o1, n2, t2, o2, n3, t3, o3, u3, u5, u9, h1, h2]
      by_cases h3 : x.word.toList = y.word.toList
      · rw [if_pos h3]; simp [h3]
      · rw [if_neg h3]; simp [h3]
    · simp [go_sem, n1, t1, o1, n2, t2, o2, n3, t3, o3, u3, u5, u9, h1, h2]
  · simp [go_sem, n1, t1, o1, n2, t2, o2, n3, t3, o3, u3, u5, u9, h1]
theorem part_guard (u v : Operand) (xs ys : Array Value) (w : World) : (eqGuard .neq 33 u v (.agg xs) (.agg ys)).run Tryd.prog w = .ok () w :=
  run_eqGuard_agg w .neq 33 u v xs ys (by kernel_rfl)
theorem pt_eq (x y : Pt) : (((x.kind : Int) == y.kind) && (x.kids == y.kids) && (x.word.toList == y.word.toList)) = true ↔ x = y := by
  obtain ⟨a, b, c⟩ := x
  obtain ⟨a', b', c'⟩ := y
  simp only [Bool.and_eq_true, beq_iff_eq, Pt.mk.injEq, ByteArray.toList_eq]
  constructor
  · rintro ⟨⟨h1, h2⟩, h3⟩; exact ⟨by omega, h2, Go.WideShapes.bytes_inj h3⟩
  · rintro ⟨rfl, rfl, rfl⟩; exact ⟨⟨rfl, rfl⟩, rfl⟩
set_option maxRecDepth 100000 in
set_option maxHeartbeats 8000000 in
theorem rsame_any (w : World) (a b : Option Addr) (n m ca cb : Nat) (l q : List Pt) (hl : Parts w a n l) (hq : Parts w b m q) (hn : n ≤ 4398046511104) :
    Calls Tryd.prog 9 #[.slice a n ca, .slice b m cb] w fun e w' => RetB (fun r => r = true ↔ l = q) e ∧ Below w.heap.size w w' := by
  have hln := hl.1
  have hqn := hq.1
  by_cases hnm : n = m
  · subst hnm
    have q1 : ((n : Int) != n) = false := by simp
    have HLN := Lib.hid hln
    have HQN := Lib.hid hqn
    have HL := Lib.hid hl
    have HQ := Lib.hid hq
    clear hln hqn hl hq
    go_enter Tryd.func9, Tryd.ntmps9
    go_wp2
    go_loopw [5] (fun t wr => ∃ k : Nat, k ≤ n ∧ t = .int .i64 k ∧ Hid (l.take k = q.take k) ∧ Hid (Below w.heap.size w wr)) (fun t _ => n - (intOf t).toNat)
    case atStart => exact ⟨0, Nat.zero_le _, rfl, Lib.hid rfl, Lib.hid (Below.refl _ _)⟩
    case round =>
      obtain ⟨k, hk, rfl, HT, HB⟩ := hrel
      by_cases hlt : k < n
      · have hx := parts_some (parts_below HL.out HB.out) hlt
        obtain ⟨g, off, rfl, c0, c1, c2⟩ := (parts_below HL.out HB.out).2 k _ hx
        have hy := parts_some (parts_below HQ.out HB.out) hlt
        obtain ⟨g', off', rfl, d0, d1, d2⟩ := (parts_below HQ.out HB.out).2 k _ hy
        have HX := Lib.hid hx
        have HY := Lib.hid hy
        generalize l.getD k pt0 = x at c0 c1 c2 HX
        generalize q.getD k pt0 = y at d0 d1 d2 HY
        have j0 : (0 : Int) ≤ k := by omega
        have j1 : (k : Int) < n := by omega
        clear hx hy
        have hne := fun w => part_neq x y w
        have hgd := fun u v w => part_guard u v (ptV x) (ptV y) w
        have HE := Lib.hid (pt_eq x y)
        generalize (((x.kind : Int) == y.kind) && (x.kids == y.kids) && (x.word.toList == y.word.toList)) = r at hne HE
        unfold ptV at hne hgd
        cases r with
        | false =>
          have HN : Hid (¬ l = q) := Lib.hid (fun e => by
            have h1 := HX.out
            rw [e, HY.out] at h1
            injection h1 with h1
            have := HE.out.2 h1.symm
            cases this)
          go_wp2
          first | go_quiet (fail) | fail
          go_wp2
          go_ret
          exact ⟨⟨false, rfl, (fun h => by simp at h), fun h => absurd h HN.out⟩, below_drewN HB.out _⟩
        | true =>
          have HT2 : Hid (l.take (k + 1) = q.take (k + 1)) := Lib.hid (by
            rw [List.take_add_one, List.take_add_one, HT.out, HX.out, HY.out, HE.out.1 rfl])
          go_wp2
          first | go_quiet (fail) | fail
          go_wp2
          go_roundw
          case rel => exact ⟨k + 1, hlt, by go_num, HT2, Lib.hid (below_drewN HB.out _)⟩
          case measure => simp [intOf]; omega
      · obtain rfl : k = n := by omega
        have HE : Hid (l = q) := Lib.hid (by
          have h := HT.out
          rwa [show l.take k = l by rw [← HLN.out, List.take_length], show q.take k = q by rw [← HQN.out, List.take_length]] at h)
        go_wp2
        go_ret
        exact ⟨⟨true, rfl, fun _ => HE.out, fun _ => rfl⟩, HB.out⟩
  · have q1 : ((n : Int) != m) = true := by simp; omega
    have HN : Hid (¬ l = q) := Lib.hid (fun e => hnm (by rw [← hln, ← hqn, e]))
    clear hln hqn hl hq
    go_enter Tryd.func9, Tryd.ntmps9
    go_wp2
    go_ret
    exact ⟨⟨false, rfl, (fun h => by simp at h), fun h => absurd h HN.out⟩, Below.refl _ _⟩
end Go.Proofs.YtoffjpgobhcipaaDoor.Trm

/-
  Layer 10: contracts of tree.Depth, and of the document's Ends.
-/
import Derived.Test.YtdlpminekojahaaK
namespace Go.Proofs.Ytdlpminekojahaa
open Go.ChangeShapes Go.WideShapes Go.ChangeAt Go.RowKit

set_option maxHeartbeats 4000000 in
theorem Depth_any (w : World) (a : Option Addr) (n cap : Nat) (l : List Nd) (hl : Nodes w a n l) (hn : n ≤ 1099511627775) (hK : KidsFit l) :
    Calls Try.prog 14 #[.slice a n cap] w fun e w' => e = .returned (.int .i64 (depthI l)) ∧ Below w.heap.size w w' := by
  cases hq : treeB 131072 l with
  | true =>
    have hE : depthI l = mostN (kidsL l) n := by rw [depthI, if_pos hq, hl.1]
    rw [hE]
    exact depth_yes w a n cap l hl hn hK hq
  | false =>
    have hh := isTree_any 131072 w a n cap l hl hn hK
    rw [hq] at hh
    have hE : depthI l = 0 := by rw [depthI, if_neg (by rw [hq]; decide)]
    rw [hE]
    clear hl hq hE
    go_enter Try.func14, Try.ntmps14
    go_wp2_with (go_at_call 25; refine hh.mono ?_; rintro e w1 ⟨rfl, hB⟩)
    go_ret
    exact ⟨rfl, hB⟩
theorem made_zero (n : Nat) : madeCells #[Value.int .i64 0] n = ((List.replicate n (0 : Int)).map (Value.int .i64)).toArray := by
  apply Array.toList_inj.1
  rw [toList_madeCells_one]; simp
theorem make_ints (n : Nat) (hn : n ≤ 1048576) : ∃ Z : Array Value, Z = ((List.replicate n (0 : Int)).map (Value.int .i64)).toArray ∧ ∀ u : World, (Instr.makeSlice 30 (.int .i64 (n : Int)) (.int .i64 (n : Int))).run Try.prog u = .ok (.slice (some ⟨u.heap.size, 0, none⟩) n n) (u.alloc (.cells Z 3)) := by
  obtain ⟨i0, hi, hz0, hz1, hz2⟩ := info_parts info3
  refine ⟨_, rfl, fun u => ?_⟩
  rw [← made_zero]
  have h := run_make (P := Try.prog) u 30 3 i0 (.int .i64 0) Try.underlying30 hi hz0 .i64 .i64 (n : Int) (n : Int) (by omega) (Int.le_refl _) (by rw [hz2]; omega) (by omega)
  simpa [hz1, Value.cells] using h
/-- a block of numbers -/
def Prs (w : World) (b : Nat) (pr : List Int) : Prop := w.heap[b]? = some (.cells (pr.map (Value.int .i64)).toArray 3 (0, 0))
theorem Prs.set {w : World} {b : Nat} {pr : List Int} (h : Prs w b pr) (k : Nat) (x : Int) : Prs (w.setCell ⟨b, k, none⟩ (.int .i64 x)) b (pr.set k x) := by
  unfold Prs
  rw [heap_setCell_same w b k _ 3 _ h, List.map_set]; simp
theorem Prs.cell {w : World} {b : Nat} {pr : List Int} (h : Prs w b pr) {k : Nat} {x : Int} (hk : pr[k]? = some x) : w.cell? ⟨b, k, none⟩ = some (.int .i64 x) := by
  rw [cell_of_row w b k _ 3 (0, 0) h]; simp [hk]
theorem Prs.ints {w : World} {b : Nat} {pr : List Int} (h : Prs w b pr) : IntsAt w (some ⟨b, 0, none⟩) pr := fun _ _ hk => ⟨b, rfl, h.cell hk⟩
/-- the numbers behind the trees -/
def endsL (K : List Int) : List Int := (List.range K.length).map fun (i : Nat) => (endN K i : Int)
theorem endsL_at {K : List Int} {i : Nat} (h : i < K.length) : (endsL K)[i]? = some (endN K i : Int) := by
  unfold endsL
  rw [List.getElem?_map, List.getElem?_range h]; rfl
set_option maxHeartbeats 8000000 in
theorem rends_any (w : World) (a : Option Addr) (n cap : Nat) (l : List Nd) (hl : Nodes w a n l) (hn : n ≤ 2000) (ht : wellB (kidsL l) = true) :
    Calls Try.prog 32 #[.slice a n cap] w fun e w' => (∃ b, e = .returned (.tuple #[.slice (some ⟨b, 0, none⟩) n n, .bool true]) ∧ IntsAt w' (some ⟨b, 0, none⟩) (endsL (kidsL l))) ∧ Below w.heap.size w w' := by
  have HLK : Hid ((kidsL l).length = n) := Lib.hid (by rw [kidsL_len]; exact hl.1)
  have hg := well_goes.1 ht
  have hpos : 0 < n := by have := goes_le hg; have := HLK.out; omega
  have hre := rend_any w a n cap l hl hn 0 (Nat.zero_le _)
  have he0 : endZ (kidsL l) 0 = n := by
    rcases endZ_cases (kidsL l) 0 with ⟨e, h1, g, _⟩ | ⟨_, g⟩
    · rw [h1, goes_fun g hg, HLK.out]
    · exact absurd hg (g _)
  rw [he0] at hre
  have HW := Lib.hid ht
  have HL := Lib.hid hl
  have hn0 : ¬ (n : Int) = 0 := by omega
  have q0 : ((n : Int) == 0) = false := by simp; omega
  have q1 : ((n : Int) != n) = false := by simp
  obtain ⟨Z, hZ, hmk⟩ := make_ints n (by omega)
  have HZ := Lib.hid hZ
  clear hl ht hg he0 hZ
  go_enter Try.func32, Try.ntmps32
  go_wp2_with (go_at_call 20; refine hre.mono ?_; rintro e w1 ⟨rfl, rfl⟩)
  go_loopw [5, 6, 7] (fun t _ _ wr => ∃ (j : Nat) (pr : List Int), j ≤ n ∧ t = .int .i64 ((j : Int) - 1) ∧ pr.length = n ∧ Hid (Prs wr w.heap.size pr) ∧ Hid (∀ i, j ≤ i → i < n → pr[i]? = some (endN (kidsL l) i : Int)) ∧ Hid (Below w.heap.size w wr)) (fun t _ _ _ => (intOf t + 1).toNat)
  case atStart => exact ⟨n, List.replicate n 0, Nat.le_refl _, rfl, by simp, Lib.hid (by unfold Prs; rw [← HZ.out]; exact heap_alloc_new _ _), Lib.hid (fun i h1 h2 => by omega), Lib.hid ((Below.refl _ w).alloc (Nat.le_refl _) _)⟩
  case round =>
    obtain ⟨j, pr, hj, rfl, hpl, HP, HE, HB⟩ := hrel
    cases j with
    | zero =>
      go_wp2
      go_ret2
      refine ⟨⟨_, rfl, ?_⟩, HB.out⟩
      have hpe : pr = endsL (kidsL l) := by
        apply List.ext_getElem?
        intro i
        by_cases hi : i < n
        · rw [HE.out i (Nat.zero_le _) hi, endsL_at (by rw [HLK.out]; exact hi)]
        · rw [List.getElem?_eq_none (by omega), List.getElem?_eq_none (by unfold endsL; rw [List.length_map, List.length_range, HLK.out]; omega)]
      rw [← hpe]
      exact HP.out.ints
    | succ j =>
      have e1 : ((j + 1 : Nat) : Int) - 1 = (j : Int) := by omega
      rw [e1]
      clear e1
      have hjn : j < n := hj
      obtain ⟨x, hx⟩ : ∃ x, l[j]? = some x := ⟨_, nodes_some HL.out hjn⟩
      obtain ⟨g, off, rfl, c0, c1, c2, c3, c4⟩ := (nodes_below HL.out HB.out).2 j x hx
      have hend := end_goes (well_goes.1 HW.out) (Nat.zero_le j) (by rw [HLK.out]; exact hjn)
      obtain ⟨y, hy, h0, hG⟩ := (goes_succ (n := 0)).1 hend.1
      rw [kidsL_at l j x hx] at hy
      injection hy with hy
      rw [hy] at c1
      obtain ⟨m, rfl⟩ : ∃ m : Nat, y = m := ⟨y.toNat, by omega⟩
      rw [Nat.zero_add, Int.toNat_natCast] at hG
      have HG := Lib.hid hG
      have hle := goes_le hG
      have hm2 : m ≤ 2000 := by have := hend.2.2; have := HLK.out; omega
      have hen : endN (kidsL l) j ≤ n := by have := hend.2.2; have := HLK.out; omega
      obtain ⟨wo, rfl⟩ : ∃ wo : World, wo = wr := ⟨_, rfl⟩
      clear hx hend hy h0 hG c0 c2 c3 c4 hle
      go_wp2
      go_loop [6, 7] (fun t v => ∃ (p q : Nat), j < p ∧ p ≤ n ∧ q ≤ m ∧ t = .int .i64 p ∧ v = .int .i64 q ∧ Hid (Goes (kidsL l) p (m - q) (endN (kidsL l) j))) (fun _ v => m - (intOf v).toNat)
      case atStart => exact ⟨j + 1, 0, by omega, by omega, Nat.zero_le _, by go_num, rfl, Lib.hid (by rw [Nat.sub_zero]; exact HG.out)⟩
      case round =>
        obtain ⟨p, q, hp1, hp2, hqm, rfl, rfl, HQ⟩ := hrel
        by_cases hlt : q < m
        · obtain ⟨d, hd⟩ : ∃ d, m - q = d + 1 := ⟨m - q - 1, by omega⟩
          have hQ := HQ.out
          rw [hd] at hQ
          obtain ⟨g1, g2, g3⟩ := kids_end hQ
          rw [HLK.out] at g3
          have hc := HP.out.cell (HE.out p (by omega) g3)
          have HQ2 : Hid (Goes (kidsL l) (endN (kidsL l) p) (m - (q + 1)) (endN (kidsL l) j)) := Lib.hid (by rw [show m - (q + 1) = d by omega]; exact g2)
          have hlp := goes_le g1
          have hlq := goes_le g2
          have hp3 : j < endN (kidsL l) p := by omega
          have hp4 : endN (kidsL l) p ≤ n := by omega
          have j0 : (0 : Int) ≤ p := by omega
          have j1 : (p : Int) < n := by omega
          clear hQ g1 g2 hlp hlq hd
          go_wp2
          go_round
          case rel => exact ⟨endN (kidsL l) p, q + 1, hp3, hp4, by omega, rfl, by go_num, HQ2⟩
          case measure => simp [intOf]; omega
        · have hQ := HQ.out
          rw [show m - q = 0 by omega] at hQ
          have hpe := goes_fun hQ (goes_zero _ _)
          have HPE := Lib.hid hpe
          have hcj : ∃ z, wo.cell? ⟨w.heap.size, j, none⟩ = some (.int .i64 z) := ⟨_, HP.out.cell (List.getElem?_eq_getElem (by omega))⟩
          obtain ⟨z, hcj⟩ := hcj
          have hfj := frozen_of_row wo w.heap.size j _ 3 HP.out
          clear hQ hpe
          go_wp2
          go_roundw
          case rel =>
            refine ⟨j, pr.set j (p : Int), by omega, by first | rfl | go_num, by simp [hpl], Lib.hid (HP.out.set j _), Lib.hid (fun i h1 h2 => ?_), Lib.hid (HB.out.setCell (p := ⟨w.heap.size, j, none⟩) (Nat.le_refl _) _)⟩
            by_cases hij : j = i
            · subst hij
              rw [List.getElem?_set_self (by omega), HPE.out]
            · rw [List.getElem?_set_ne hij]
              exact HE.out i (by omega) h2
          case measure => simp [intOf]
end Go.Proofs.Ytdlpminekojahaa

/-
  Layer 11: term.Swap (texts Ji Jl).
-/
import Derived.Test.YtoffjpgobhcipaaDoorKc
import Derived.Test.YtoffjpgobhcipaaDoorKd
import Derived.Deep.CutRange
import Derived.Deep.RegionHeld3
import Derived.Deep.RegionWith
namespace Go.Proofs.YtoffjpgobhcipaaDoor.Trm
open Go.ChangeShapes Go.WideShapes Go.ChangeAt Go.RowKit

def SwapIs (B : Nat) (X : List Pt × Int) (e : Ending) (w' : World) : Prop := ∃ v : Value, e = .returned (.tuple #[v, .int .i64 X.2]) ∧ MineP w' B v X.1
theorem swap_nil (B : Nat) (X : List Pt × Int) (c : Int) (h : X = ([], c)) (w' : World) : SwapIs B X (.returned (.tuple #[.slice none 0 0, .int .i64 c])) w' := by
  subst h
  exact ⟨_, rfl, mineP_nil _ _⟩
theorem make_parts (N : Nat) (hN : N ≤ 1048576) : ∃ Z : List Value, Z.length = N * 3 ∧ ∀ u : World, (Instr.makeSlice 22 (.int .i64 (N : Int)) (.int .i64 (N : Int))).run Tryd.prog u = .ok (.slice (some ⟨u.heap.size, 0, none⟩) N N) (u.alloc (.cells Z.toArray 33)) := by
  obtain ⟨i0, hi, hz0, hz1, hz2⟩ := info_parts info28z
  refine ⟨(madeCells #[.int .u8 0, .int .i64 0, .string ⟨#[]⟩] (N * 3)).toList, by simp [size_madeCells], fun u => ?_⟩
  have h := run_make (P := Tryd.prog) u 22 33 i0 (.agg #[.int .u8 0, .int .i64 0, .string ⟨#[]⟩]) Tryd.underlying22 hi hz0 .i64 .i64 (N : Int) (N : Int) (by omega) (Int.le_refl _) (by rw [hz2]; omega) (by omega)
  simpa [hz1, Value.cells] using h
set_option maxRecDepth 100000 in
set_option maxHeartbeats 8000000 in
theorem swap_err (w : World) (a : Option Addr) (n cap : Nat) (l : List Pt) (hl : Parts w a n l) (hn : n ≤ 2000) (b : Option Addr) (m cb : Nat) (l2 : List Pt) (hb : Parts w b m l2) (hm : m ≤ 2000) (i k : Int)
    (h : wellB (kidsP l) = false ∨ treesZ (kidsP l2) < 0) :
    Calls Tryd.prog 11 #[.slice a n cap, .int .i64 i, .int .i64 k, .slice b m cb] w fun e w' => SwapIs w.heap.size (swapP l l2 i k) e w' ∧ Below w.heap.size w w' := by
  have ht := trees_any w b m cb l2 hb (by omega)
  have hw := fun w (hl : Parts w a n l) => well_any w a n cap l hl (by omega)
  have HL := Lib.hid hl
  have HR := Lib.hid (swap_nil w.heap.size (swapP l l2 i k) 8 (by unfold swapP; rw [if_pos h]))
  cases hq : wellB (kidsP l) with
  | false =>
    rw [hq] at hw
    clear h hq hl hb
    go_enter Tryd.func11, Tryd.ntmps11
    go_wp2_with (first
      | (go_at_call 25; refine ht.mono ?_; rintro e w2 ⟨rfl, hB2⟩)
      | (go_at_call 10; refine (hw _ (parts_below HL.out hB2)).mono ?_; rintro e w3 ⟨rfl, hB3⟩))
    go_ret2
    exact ⟨HR.out _, hB2.trans (hB3.mono hB2.size)⟩
  | true =>
    rw [hq] at hw
    have h2 : treesZ (kidsP l2) < 0 := by
      rcases h with h | h
      · rw [hq] at h; cases h
      · exact h
    have d1 : decide (treesZ (kidsP l2) < 0) = true := decide_eq_true h2
    clear h hq hl hb
    go_enter Tryd.func11, Tryd.ntmps11
    go_wp2_with (first
      | (go_at_call 25; refine ht.mono ?_; rintro e w2 ⟨rfl, hB2⟩)
      | (go_at_call 10; refine (hw _ (parts_below HL.out hB2)).mono ?_; rintro e w3 ⟨rfl, hB3⟩))
    go_ret2
    exact ⟨HR.out _, hB2.trans (hB3.mono hB2.size)⟩
set_option maxRecDepth 100000 in
set_option maxHeartbeats 8000000 in
theorem swap_arg (w : World) (a : Option Addr) (n cap : Nat) (l : List Pt) (hl : Parts w a n l) (hn : n ≤ 2000) (b : Option Addr) (m cb : Nat) (l2 : List Pt) (hb : Parts w b m l2) (hm : m ≤ 2000) (i k : Int)
    (hq : wellB (kidsP l) = true) (h2 : ¬ treesZ (kidsP l2) < 0) (h : i < 0 ∨ (l.length : Int) ≤ i ∨ k < 0 ∨ (i = 0 ∧ (k ≠ 1 ∨ treesZ (kidsP l2) ≠ 1))) :
    Calls Tryd.prog 11 #[.slice a n cap, .int .i64 i, .int .i64 k, .slice b m cb] w fun e w' => SwapIs w.heap.size (swapP l l2 i k) e w' ∧ Below w.heap.size w w' := by
  have ht := trees_any w b m cb l2 hb (by omega)
  have hw := fun w (hl : Parts w a n l) => well_any w a n cap l hl (by omega)
  have HL := Lib.hid hl
  have HR := Lib.hid (swap_nil w.heap.size (swapP l l2 i k) 1 (by
    unfold swapP
    rw [if_neg (fun x => by rcases x with x | x; · rw [hq] at x; cases x
                            · exact h2 x), if_pos h]))
  rw [hq] at hw
  rw [hl.1] at h
  have d1 : decide (treesZ (kidsP l2) < 0) = false := decide_eq_false h2
  clear hq hl hb
  have hc : decide (i < 0) = true ∨ (¬ i < 0 ∧ decide ((n : Int) ≤ i) = true) ∨ (¬ i < 0 ∧ ¬ (n : Int) ≤ i ∧ decide (k < 0) = true) ∨ (i = 0 ∧ ¬ (n : Int) ≤ 0 ∧ k = 1 ∧ (treesZ (kidsP l2) != 1) = true) ∨ (i = 0 ∧ ¬ (n : Int) ≤ 0 ∧ ¬ k < 0 ∧ (k != 1) = true) := by
    by_cases h3 : i < 0
    · exact .inl (decide_eq_true h3)
    · by_cases h4 : (n : Int) ≤ i
      · exact .inr (.inl ⟨h3, decide_eq_true h4⟩)
      · by_cases h5 : k < 0
        · exact .inr (.inr (.inl ⟨h3, h4, decide_eq_true h5⟩))
        · rcases h with h | h | h | ⟨rfl, h6⟩
          · exact absurd h h3
          · exact absurd h h4
          · exact absurd h h5
          · by_cases h7 : k = 1
            · refine .inr (.inr (.inr (.inl ⟨rfl, h4, h7, ?_⟩)))
              rcases h6 with h6 | h6
              · exact absurd h7 h6
              · simpa using h6
            · exact .inr (.inr (.inr (.inr ⟨rfl, h4, h5, by simpa using h7⟩)))
  clear h h2
  rcases hc with e3 | ⟨e3, e4⟩ | ⟨e3, e4, e5⟩ | ⟨rfl, e4, rfl, e5⟩ | ⟨rfl, e4, e5, e6⟩
  all_goals
    go_enter Tryd.func11, Tryd.ntmps11
    go_wp2_with (first
      | (go_at_call 25; refine ht.mono ?_; rintro e w2 ⟨rfl, hB2⟩)
      | (go_at_call 10; refine (hw _ (parts_below HL.out hB2)).mono ?_; rintro e w3 ⟨rfl, hB3⟩))
    go_ret2
    exact ⟨HR.out _, hB2.trans (hB3.mono hB2.size)⟩
set_option linter.unusedSimpArgs false in
set_option maxRecDepth 100000 in
set_option maxHeartbeats 16000000 in
theorem swap_main (w : World) (a : Option Addr) (n cap : Nat) (l : List Pt) (hl : Parts w a n l) (hn : n ≤ 2000) (hnc : n ≤ cap) (b : Option Addr) (m cb : Nat) (l2 : List Pt) (hb : Parts w b m l2) (hm : m ≤ 2000) (i k T : Nat) (hk : (k : Int) ≤ 9223372036854775807)
    (hq : wellB (kidsP l) = true) (hT : treesZ (kidsP l2) = T) (hi0 : 0 < i) (hin : i < n) :
    Calls Tryd.prog 11 #[.slice a n cap, .int .i64 (i : Int), .int .i64 (k : Int), .slice b m cb] w fun e w' => SwapIs w.heap.size (swapP l l2 i k) e w' ∧ Below w.heap.size w w' := by
  have hlk : (kidsP l).length = n := by rw [kidsP_len]; exact hl.1
  have hlb : (kidsP l2).length = m := by rw [kidsP_len]; exact hb.1
  obtain ⟨u, hu, hui, hue⟩ := up_spec hq hi0 (by rw [hlk]; exact hin)
  have hTm : T ≤ m := by have := (trees_le (kidsP l2)).2; rw [hT, hlb] at this; omega
  have ht := trees_any w b m cb l2 hb (by omega)
  rw [hT] at ht
  have hw := fun w (hl : Parts w a n l) => well_any w a n cap l hl (by omega)
  rw [hq] at hw
  have hbh := fun w (hl : Parts w a n l) => behind_any w a n cap l hl (by omega) hq i u k hi0 hin (by omega) hu hui hue
  have hup := fun w (hl : Parts w a n l) => up_any w a n cap l hl (by omega) hq i hin
  rw [hu] at hup
  have HL := Lib.hid hl
  have HBL := Lib.hid hb
  obtain ⟨A, hA⟩ : ∃ A, A = toF (kidsP l) (endN (kidsP l) u) k i := ⟨_, rfl⟩
  rw [← hA] at hbh
  have hX : (A = none → swapP l l2 i k = ([], 1)) ∧ ∀ z, A = some z → swapP l l2 i k = (swapL l l2 u i z ((T : Int) - k), 0) := by
    have h9 : swapP l l2 i k = (match toF (kidsP l) (endN (kidsP l) u) k i with | none => ([], 1) | some z => (swapL l l2 u i z ((T : Int) - k), 0)) := by
      unfold swapP
      rw [if_neg (fun x => by
        rcases x with x | x
        · rw [hq] at x; cases x
        · rw [hT] at x; omega), if_neg (by rw [hl.1]; omega), if_neg (by omega)]
      simp only [Int.toNat_natCast, hu, hT]
      rfl
    rw [← hA] at h9
    exact ⟨fun e => by rw [h9, e], fun z e => by rw [h9, e]⟩
  have HX := Lib.hid hX
  have HAQ : Hid (∀ q, A = some q → i + k ≤ q ∧ q ≤ n) := Lib.hid (fun q h => by
    rw [hA] at h
    have h1 := toF_le (lo := i) (fun p h1 h2 => end_in hq (u := u) (by rw [hlk]; omega) (by omega) h2) k i q h (Nat.le_refl _) (by omega)
    have h2 := (end_well hq (i := u) (by rw [hlk]; omega)).2.2
    rw [hlk] at h2
    omega)
  obtain ⟨x, hx⟩ : ∃ x, l[u]? = some x := ⟨_, List.getElem?_eq_getElem (by rw [hl.1]; omega)⟩
  have hxk := kids_le hq (kidsP_at hx)
  obtain ⟨ga, off, rfl, _, _, _⟩ := hl.2 u x hx
  rw [hlk] at hxk
  have HXU := Lib.hid hx
  have HAI : Hid (k = 0 → A = some i) := Lib.hid (fun h => by rw [hA, h]; rfl)
  have d1 : decide ((T : Int) < 0) = false := decide_eq_false (by omega)
  have d2 : decide ((i : Int) < 0) = false := decide_eq_false (by omega)
  have d3 : decide ((n : Int) ≤ i) = false := decide_eq_false (by omega)
  have d4 : decide ((k : Int) < 0) = false := decide_eq_false (by omega)
  have d5 : ((i : Int) == 0) = false := by simp; omega
  have hln := hl.1
  have hbn := hb.1
  clear hl hb hu hue hA hx hlk hlb hT hq hX
  go_enter Tryd.func11, Tryd.ntmps11
  go_upto_if 51 with (first
    | (go_at_call 25; refine ht.mono ?_; rintro e w2 ⟨rfl, hB2⟩; have HB2 := Lib.hid hB2; clear hB2)
    | (go_at_call 10; refine (hw _ (parts_below HL.out HB2.out)).mono ?_; rintro e w3 ⟨rfl, hB3⟩; have HB3 := Lib.hid (HB2.out.trans (hB3.mono HB2.out.size)); clear hB3))
  go_cut [11, 12] from 16 to 100 (fun tv ov wx => (∀ q, A = some q → tv = .int .i64 (q : Int) ∧ ov = .bool true) ∧ (A = none → ov = .bool false) ∧ Hid (Below w.heap.size w wx))
  case first =>
    by_cases hk0 : k = 0
    · have d6 : ¬ (0 : Int) < k := by omega
      have hAi := HAI.out hk0
      clear hk0
      go_wp2_with fail
      go_meet
      exact ⟨(fun q h => by rw [hAi] at h; injection h with h; rw [h]; exact ⟨rfl, rfl⟩), (fun h => by rw [hAi] at h; cases h), HB3⟩
    · have d6 : (0 : Int) < k := by omega
      cases A with
      | none =>
        go_wp2_with (go_at_call 26; refine (hbh _ (parts_below HL.out HB3.out)).mono ?_; rintro e w4 ⟨h1, rfl⟩; obtain ⟨z, rfl⟩ := h1.2 rfl)
        go_meet
        exact ⟨(fun q h => by cases h), fun _ => rfl, HB3⟩
      | some q =>
        go_wp2_with (go_at_call 26; refine (hbh _ (parts_below HL.out HB3.out)).mono ?_; rintro e w4 ⟨h1, rfl⟩; obtain rfl := h1.1 q rfl)
        go_meet
        exact ⟨(fun q' h => by injection h with h; rw [h]; exact ⟨rfl, rfl⟩), (fun h => by cases h), HB3⟩
  case rest =>
    obtain ⟨hc1, hc2, HBc⟩ := hcut
    cases A with
    | none =>
      obtain rfl := hc2 rfl
      have HR := Lib.hid (swap_nil w.heap.size (swapP l l2 i k) 1 (HX.out.1 rfl))
      clear hc1 hc2
      go_wp2
      go_ret2
      exact ⟨HR.out _, HBc.out⟩
    | some q =>
      obtain ⟨rfl, rfl⟩ := hc1 q rfl
      obtain ⟨hq1, hq2⟩ := HAQ.out q rfl
      clear hc1 hc2 HAQ HAI
      obtain ⟨N, hN⟩ : ∃ N, N = n - (q - i) + m := ⟨_, rfl⟩
      obtain ⟨Z, hZ, hmk⟩ := make_parts N (by omega)
      rw [show (N : Int) = (n : Int) - ((q : Int) - i) + (m : Int) by omega] at hmk
      have hN1 : i + m + (n - q) = N := by omega
      have hst0 := Lib.hid (put_new wc N Z hZ)
      have hBz := (((HBc.out.alloc HBc.out.size (.cells Z.toArray 33)).alloc (by have := HBc.out.size; simp; omega) (.cells #[.slice (some ⟨wc.heap.size, 0, none⟩) N N] 22)).alloc (by have := HBc.out.size; simp; omega) (.cells #[.int .i64 0] 3))
      have HBz := Lib.hid hBz
      have hzz : (((wc.alloc (.cells Z.toArray 33)).alloc (.cells #[.slice (some ⟨wc.heap.size, 0, none⟩) N N] 22)).alloc (.cells #[.int .i64 0] 3)).heap.size = wc.heap.size + 3 := by simp
      have hwc := HBc.out.size
      have hmx : N ≤ maxLen := by unfold maxLen; omega
      have hN4 : N ≤ 4000 := by omega
      clear hN hZ hBz
      have hp1 := put_step _ _ _ _ N [] (l.take i) hst0.out (by omega) (by omega) (by omega) (by omega) (some ⟨ga, off, none⟩) i cap (by rw [List.length_take]; omega) (by simp; omega) (fun _ => ⟨_, rfl, fun j v h => parts_cells (parts_below HL.out HBz.out) j v (cellsP_take l i j v h)⟩)
      rw [List.nil_append] at hp1
      have hmu : (l.take i)[u]? = some x := by rw [List.getElem?_take, if_pos hui]; exact HXU.out
      have hD3 : ((l.take i ++ l2) ++ l.drop q)[u]? = some x := by rw [List.append_assoc, List.getElem?_append_left (by rw [List.length_take]; omega)]; exact hmu
      have hD3l : ((l.take i ++ l2) ++ l.drop q).length = N := by simp only [List.length_append, List.length_take, List.length_drop]; omega
      have HRX : Hid (((l.take i ++ l2) ++ l.drop q).modify u (fun p => { p with kids := x.kids + ((T : Int) - k) }) = swapL l l2 u i q ((T : Int) - k)) := Lib.hid (by
        unfold swapL
        rw [List.append_assoc, modify_left _ _ _ _ (by rw [List.length_take]; omega)]
        congr 1
        apply List.ext_getElem?
        intro j
        rw [List.getElem?_modify, List.getElem?_modify]
        by_cases hju : u = j
        · subst hju; rw [hmu]; simp
        · simp [hju])
      have d7 : (0 : Int) < i := by omega
      have HD3 := Lib.hid (And.intro hD3 hD3l)
      clear hmu hD3 hD3l
      go_upto_region 18 with (first
        | (go_at_call 27; (with_reducible refine hp1.mono ?_); rintro e w4 ⟨rfl, hS4, _, hb4, hz4⟩; have HB4 := Lib.hid (HBz.out.trans (hb4 w.heap.size (by omega) (by omega))); have HS4 := Lib.hid hS4; have hp2 := put_step w4 _ _ _ N (l.take i) l2 hS4 (by omega) (by omega) (by omega) (by omega) b m cb hbn (by rw [List.length_take]; omega) (fun hm0 => by
            obtain ⟨y, hy⟩ : ∃ y, l2[0]? = some y := ⟨_, List.getElem?_eq_getElem (by omega)⟩
            obtain ⟨gb, ob, rfl, _, _, _⟩ := HBL.out.2 0 y hy
            exact ⟨_, rfl, parts_cells (parts_below HBL.out HB4.out)⟩); clear hS4 hb4)
        | (go_at_call 27; (with_reducible refine hp2.mono ?_); rintro e w5 ⟨rfl, hS5, _, hb5, hz5⟩; have HB5 := Lib.hid (HB4.out.trans (hb5 w.heap.size (by omega) (by omega))); have hp3 := fun a c hs => put_step w5 _ _ _ N (l.take i ++ l2) (l.drop q) hS5 (by omega) (by omega) (by omega) (by omega) a (n - q) c (by rw [List.length_drop, hln]) (by rw [List.length_append, List.length_take]; omega) hs; clear hb5)
        | (go_at_call 27; refine (hp3 _ _ (fun hm0 => ⟨⟨ga, off + q * 3, none⟩, by first | rfl | (rw [if_neg (by omega)]), fun j v h => by
            rw [cellsP_drop l q (by omega) j] at h
            have h1 := parts_cells (parts_below HL.out HB5.out) (q * 3 + j) v h
            have ha : ∀ (o z : Nat), (⟨ga, o, none⟩ : Addr).add z = ⟨ga, o + z, none⟩ := fun o z => by
              unfold Addr.add
              by_cases hz : z = 0
              · subst hz; rfl
              · simp [hz]
            rw [ha] at h1 ⊢
            rw [Nat.add_assoc]; exact h1⟩)).mono ?_; rintro e w6 ⟨rfl, hS6, _, hb6, hz6⟩; have HB6 := Lib.hid (HB5.out.trans (hb6 w.heap.size (by omega) (by omega))); clear hb6))
      have HS6 := Lib.hid hS6
      obtain ⟨ck, fk⟩ := put_kids hS6 HD3.out.1
      have co : w6.cell? ⟨wc.heap.size + 1, 0, none⟩ = some (.slice (some ⟨wc.heap.size, 0, none⟩) N N) := (cell_of_row _ _ 0 _ 22 (0, 0) hS6.2.2).trans rfl
      have x1 : IntKind.i64.wrap ((T : Int) - k) = (T : Int) - k := by rw [IntKind.wrap_i64]; omega
      have x2 : IntKind.i64.wrap (x.kids + ((T : Int) - k)) = x.kids + ((T : Int) - k) := by rw [IntKind.wrap_i64]; omega
      have hupd : Calls Tryd.prog 28 #[.slice (some ⟨ga, off, none⟩) n cap, .int .i64 (i : Int)] w6.drew fun e w' => e = .returned (.int .i64 (u : Int)) ∧ w' = w6.drew := (hup w6.drew (parts_below HL.out (HB6.out.drew))).mono (fun e w' ⟨h1, h2⟩ => ⟨h1, h2.symm⟩)
      have u1 : (0 : Int) ≤ u := by omega
      have u2 : (u : Int) < N := by omega
      clear hp1 hp2 hp3 hS6 hS5
      have HW7 : Hid (∀ w7, w7 = w6.drew → PutSt w7 wc.heap.size (wc.heap.size + 1 + 1) (wc.heap.size + 1) N (l.take i ++ l2 ++ l.drop q) ∧ Below w.heap.size w w7) := Lib.hid (fun w7 e => by subst e; exact ⟨HS6.out, HB6.out.drew⟩)
      refine wp_region_held_drew (S := fun w' => w'.cell? ⟨wc.heap.size + 1, 0, none⟩ = some (.slice (some ⟨wc.heap.size, 0, none⟩) N N)) (by kernel_rfl) ?_ (fun hHeld => ?_)
      · exact co
      refine wpAnyH_take (i := 0) (v := ?_) rfl (by kernel_rfl) (by kernel_rfl) (by kernel_rfl) (fun _ _ _ h => h) (Or.inl ⟨by rfl, ?_⟩) (by assumption) ?_
      rotate_left
      · intro w hSw; (try dsimp only at hSw); go_simp; try with_reducible rfl
      (try simp only [List.getElem_toArray, List.getElem_cons_zero, List.getElem_cons_succ, Act.put, List.setIfInBounds_toArray, List.set_cons_zero, List.set_cons_succ])
      refine wpAnyH_take (i := 1) (v := ?_) rfl (by kernel_rfl) (by kernel_rfl) (by kernel_rfl) (fun _ _ _ h => h) (Or.inl ⟨by rfl, ?_⟩) (by assumption) ?_
      rotate_left
      · intro w hSw; (try dsimp only at hSw); go_simp; try with_reducible rfl
      (try simp only [List.getElem_toArray, List.getElem_cons_zero, List.getElem_cons_succ, Act.put, List.setIfInBounds_toArray, List.set_cons_zero, List.set_cons_succ])
      refine wpAnyH_take (i := 2) (v := ?_) rfl (by kernel_rfl) (by kernel_rfl) (by kernel_rfl) (fun _ _ _ h => h) (Or.inl ⟨by rfl, ?_⟩) (by assumption) ?_
      rotate_left
      · intro w hSw; (try dsimp only at hSw); go_simp; try with_reducible rfl
      (try simp only [List.getElem_toArray, List.getElem_cons_zero, List.getElem_cons_succ, Act.put, List.setIfInBounds_toArray, List.set_cons_zero, List.set_cons_succ])
      refine wpAnyH_take (i := 7) (v := ?_) rfl (by kernel_rfl) (by kernel_rfl) (by kernel_rfl) (fun _ _ _ h => h) (Or.inl ⟨by rfl, ?_⟩) (by assumption) ?_
      rotate_left
      · intro w hSw; (try dsimp only at hSw); go_simp; try with_reducible rfl
      (try simp only [List.getElem_toArray, List.getElem_cons_zero, List.getElem_cons_succ, Act.put, List.setIfInBounds_toArray, List.set_cons_zero, List.set_cons_succ])
      refine wpAnyH_take (i := 8) (v := ?_) rfl (by kernel_rfl) (by kernel_rfl) (by kernel_rfl) (fun _ _ _ h => h) (Or.inl ⟨by rfl, ?_⟩) (by assumption) ?_
      rotate_left
      · intro w hSw; (try dsimp only at hSw); go_simp; try with_reducible rfl
      (try simp only [List.getElem_toArray, List.getElem_cons_zero, List.getElem_cons_succ, Act.put, List.setIfInBounds_toArray, List.set_cons_zero, List.set_cons_succ])
      refine wpAnyH_take (i := 9) (v := ?_) rfl (by kernel_rfl) (by kernel_rfl) (by kernel_rfl) (fun _ _ _ h => h) (Or.inl ⟨by rfl, ?_⟩) (by assumption) ?_
      rotate_left
      · intro w hSw; (try dsimp only at hSw); go_simp; try with_reducible rfl
      (try simp only [List.getElem_toArray, List.getElem_cons_zero, List.getElem_cons_succ, Act.put, List.setIfInBounds_toArray, List.set_cons_zero, List.set_cons_succ])
      refine wpAnyH_ready (rs := [3]) (by kernel_rfl) (by simp) ?_
      refine AllReadyH.cons rfl (fun K hK => ?_) AllReadyH.nil
      go_simp
      (go_at_call 28; refine hupd.mono ?_; rintro e w7 ⟨rfl, hw7⟩; obtain ⟨hS7, hB7⟩ := HW7.out w7 hw7; clear hw7; have HS7 := Lib.hid hS7; have HB7 := Lib.hid hB7; obtain ⟨ck7, fk7⟩ := put_kids hS7 HD3.out.1; have E1 : w7.cell? ⟨wc.heap.size + 1, 0, none⟩ = some (.slice (some ⟨wc.heap.size, 0, none⟩) N N) := (cell_of_row _ _ 0 _ 22 (0, 0) hS7.2.2).trans rfl; clear hS7 hB7)
      refine hK.out _ _ ?_ (fun hHeld2 => ?_)
      · exact E1
      clear hK K hHeld
      (try simp only [List.getElem_toArray, List.getElem_cons_zero, List.getElem_cons_succ, Act.put, List.setIfInBounds_toArray, List.set_cons_zero, List.set_cons_succ])
      refine wpAnyH_take (i := 4) (v := ?_) rfl (by kernel_rfl) (by kernel_rfl) (by kernel_rfl) (fun _ _ _ h => h) (Or.inl ⟨by rfl, ?_⟩) (by assumption) ?_
      rotate_left
      · intro w hSw; (try dsimp only at hSw); go_simp; try with_reducible rfl
      (try simp only [List.getElem_toArray, List.getElem_cons_zero, List.getElem_cons_succ, Act.put, List.setIfInBounds_toArray, List.set_cons_zero, List.set_cons_succ])
      refine wpAnyH_take (i := 5) (v := ?_) rfl (by kernel_rfl) (by kernel_rfl) (by kernel_rfl) (fun _ _ _ h => h) (Or.inl ⟨by rfl, ?_⟩) (by assumption) ?_
      rotate_left
      · intro w hSw; (try dsimp only at hSw); go_simp; try with_reducible rfl
      (try simp only [List.getElem_toArray, List.getElem_cons_zero, List.getElem_cons_succ, Act.put, List.setIfInBounds_toArray, List.set_cons_zero, List.set_cons_succ])
      refine wpAnyH_ready (rs := [6]) (by kernel_rfl) (by simp) ?_
      refine AllReadyH.cons rfl (fun K hK => ?_) AllReadyH.nil
      go_simp
      refine hK.out _ _ ?_ (fun hHeld2 => ?_)
      · exact E1
      clear hK K
      (try simp only [List.getElem_toArray, List.getElem_cons_zero, List.getElem_cons_succ, Act.put, List.setIfInBounds_toArray, List.set_cons_zero, List.set_cons_succ])
      refine wpAnyH_take (i := 10) (v := ?_) rfl (by kernel_rfl) (by kernel_rfl) (by kernel_rfl) (fun _ _ _ h => h) (Or.inl ⟨by rfl, ?_⟩) (by assumption) ?_
      rotate_left
      · intro w hSw; (try dsimp only at hSw); go_simp; try with_reducible rfl
      (try simp only [List.getElem_toArray, List.getElem_cons_zero, List.getElem_cons_succ, Act.put, List.setIfInBounds_toArray, List.set_cons_zero, List.set_cons_succ])
      refine wpAnyH_take (i := 11) (v := ?_) rfl (by kernel_rfl) (by kernel_rfl) (by kernel_rfl) (fun _ _ _ h => h) (Or.inl ⟨by rfl, ?_⟩) (by assumption) ?_
      rotate_left
      · intro w hSw; (try dsimp only at hSw); go_simp; try with_reducible rfl
      (try simp only [List.getElem_toArray, List.getElem_cons_zero, List.getElem_cons_succ, Act.put, List.setIfInBounds_toArray, List.set_cons_zero, List.set_cons_succ])
      refine wpAnyH_take (i := 12) (v := ?_) rfl (by kernel_rfl) (by kernel_rfl) (by kernel_rfl) (fun _ _ _ h => h) (Or.inl ⟨by rfl, ?_⟩) (by assumption) ?_
      rotate_left
      · intro w hSw; (try dsimp only at hSw); go_simp; try with_reducible rfl
      (try simp only [List.getElem_toArray, List.getElem_cons_zero, List.getElem_cons_succ, Act.put, List.setIfInBounds_toArray, List.set_cons_zero, List.set_cons_succ])
      refine wpAnyH_ready (rs := [13]) (by kernel_rfl) (by simp) ?_
      refine AllReadyH.cons rfl (fun K hK => ?_) AllReadyH.nil
      go_simp
      refine hK.out _ _ ?_ (fun hHeld2 => ?_)
      · exact (World.cell?_of_block (a := ⟨wc.heap.size + 1, 0, none⟩) (heap_setCell_other _ _ _ _ (by show wc.heap.size + 1 ≠ wc.heap.size; omega))).trans E1
      clear hK K
      (try simp only [List.getElem_toArray, List.getElem_cons_zero, List.getElem_cons_succ, Act.put, List.setIfInBounds_toArray, List.set_cons_zero, List.set_cons_succ])
      refine wpAnyH_done (by kernel_rfl) ?_ _
      have HM8 : Hid (MineP (w7.setCell ⟨wc.heap.size, u * 3 + 1, none⟩ (.int .i64 (x.kids + ((T : Int) - k)))) w.heap.size (.slice (some ⟨wc.heap.size, 0, none⟩) N N) (swapL l l2 u i q ((T : Int) - k))) := Lib.hid (by
        rw [← HRX.out]
        exact mineP_set _ HD3.out.1 (put_mine HS7.out HD3.out.2 hmx hwc))
      have HB8 := Lib.hid (HB7.out.setCell (p := ⟨wc.heap.size, u * 3 + 1, none⟩) (by show w.heap.size ≤ wc.heap.size; exact hwc) (.int .i64 (x.kids + ((T : Int) - k))))
      clear ck7 fk7 E1
      go_wp2
      all_goals
        go_ret2
        refine ⟨⟨.slice (some ⟨wc.heap.size, 0, none⟩) N N, ?_, ?_⟩, HB8.out⟩
        · rw [HX.out.2 q rfl]; rfl
        · rw [HX.out.2 q rfl]; exact HM8.out
end Go.Proofs.YtoffjpgobhcipaaDoor.Trm

namespace Go.Proofs.YtoffjpgobhcipaaDoor.Trm
open Go.ChangeShapes Go.WideShapes Go.ChangeAt Go.RowKit

set_option maxRecDepth 100000 in
set_option maxHeartbeats 8000000 in
theorem swap_root (w : World) (a : Option Addr) (n cap : Nat) (l : List Pt) (hl : Parts w a n l) (hn : n ≤ 2000) (hnc : n ≤ cap) (b : Option Addr) (m cb : Nat) (l2 : List Pt) (hb : Parts w b m l2) (hm : m ≤ 2000)
    (hq : wellB (kidsP l) = true) (hT : treesZ (kidsP l2) = 1) (hin : 0 < n) :
    Calls Tryd.prog 11 #[.slice a n cap, .int .i64 0, .int .i64 1, .slice b m cb] w fun e w' => SwapIs w.heap.size (swapP l l2 0 1) e w' ∧ Below w.heap.size w w' := by
  have ht := trees_any w b m cb l2 hb (by omega)
  rw [hT] at ht
  have hw := fun w (hl : Parts w a n l) => well_any w a n cap l hl (by omega)
  rw [hq] at hw
  have hbh := fun w => behind_zero w a n cap
  have HL := Lib.hid hl
  have HBL := Lib.hid hb
  have HX : Hid (swapP l l2 0 1 = (l2, 0)) := Lib.hid (by
    unfold swapP
    rw [if_neg (fun x => by
      rcases x with x | x
      · rw [hq] at x; cases x
      · rw [hT] at x; omega), if_neg (by rw [hl.1, hT]; omega), if_pos rfl])
  obtain ⟨x, hx⟩ : ∃ x, l[0]? = some x := ⟨_, List.getElem?_eq_getElem (by rw [hl.1]; omega)⟩
  obtain ⟨ga, off, rfl, _, _, _⟩ := hl.2 0 x hx
  have hln := hl.1
  have hbn := hb.1
  obtain ⟨Z, hZ, hmk⟩ := make_parts m (by omega)
  have hst0 := Lib.hid (fun w => put_new w m Z hZ)
  have hmx : m ≤ maxLen := by unfold maxLen; omega
  have d3 : ¬ (n : Int) ≤ 0 := by omega
  clear hl hb hx hT hq hZ
  go_enter Tryd.func11, Tryd.ntmps11
  go_upto_region 14 with (first
    | (go_at_call 25; refine ht.mono ?_; rintro e w2 ⟨rfl, hB2⟩; have HB2 := Lib.hid hB2; clear hB2)
    | (go_at_call 10; refine (hw _ (parts_below HL.out HB2.out)).mono ?_; rintro e w3 ⟨rfl, hB3⟩; have HB3 := Lib.hid (HB2.out.trans (hB3.mono HB2.out.size)); clear hB3)
    | (go_at_call 26; refine (hbh _).mono ?_; rintro e w4 ⟨rfl, rfl⟩))
  have hwc := HB3.out.size
  have HBz := Lib.hid (((HB3.out.alloc HB3.out.size (.cells Z.toArray 33)).alloc (by simp; omega) (.cells #[.slice (some ⟨w3.heap.size, 0, none⟩) m m] 22)).alloc (by simp; omega) (.cells #[.int .i64 0] 3))
  have hp1 := put_step _ _ _ _ m [] [] (hst0.out w3) (by omega) (by omega) (by omega) (by omega) (some ⟨ga, off, none⟩) 0 cap rfl (by simp) (fun h => by omega)
  rw [List.nil_append] at hp1
  go_wp2_with (first
    | (go_at_call 27; (with_reducible refine hp1.mono ?_); rintro e w4 ⟨rfl, hS4, _, hb4, hz4⟩; have HB4 := Lib.hid (HBz.out.trans (hb4 w.heap.size (by omega) (by omega))); have hp2 := put_step w4 _ _ _ m [] l2 hS4 (by omega) (by omega) (by omega) (by omega) b m cb hbn (by simp) (fun hm0 => by
        obtain ⟨y, hy⟩ : ∃ y, l2[0]? = some y := ⟨_, List.getElem?_eq_getElem (by omega)⟩
        obtain ⟨gb, ob, rfl, _, _, _⟩ := HBL.out.2 0 y hy
        exact ⟨_, rfl, parts_cells (parts_below HBL.out HB4.out)⟩); rw [List.nil_append] at hp2; clear hS4 hb4)
    | (go_at_call 27; (with_reducible refine hp2.mono ?_); rintro e w5 ⟨rfl, hS5, _, hb5, hz5⟩; have HB5 := Lib.hid (HB4.out.trans (hb5 w.heap.size (by omega) (by omega))); have hp3 := fun a c hs => put_step w5 _ _ _ m l2 [] hS5 (by omega) (by omega) (by omega) (by omega) a 0 c rfl (by omega) hs; clear hb5)
    | (go_at_call 27; refine (hp3 _ _ (fun hm0 => by omega)).mono ?_; rintro e w6 ⟨rfl, hS6, _, hb6, hz6⟩; have HB6 := Lib.hid (HB5.out.trans (hb6 w.heap.size (by omega) (by omega))); have HS6 := Lib.hid hS6; have co : w6.cell? ⟨w3.heap.size + 1, 0, none⟩ = some (.slice (some ⟨w3.heap.size, 0, none⟩) m m) := (cell_of_row _ _ 0 _ 22 (0, 0) hS6.2.2).trans rfl; clear hb6 hS6))
  all_goals
    go_ret2
    have h1 := HS6.out
    rw [List.append_nil] at h1
    refine ⟨⟨.slice (some ⟨w3.heap.size, 0, none⟩) m m, ?_, ?_⟩, HB6.out⟩
    · rw [HX.out]; rfl
    · rw [HX.out]; exact put_mine h1 hbn hmx hwc
/-- term.Swap of lists that are not too long -/
theorem swap_any (w : World) (a : Option Addr) (n cap : Nat) (l : List Pt) (hl : Parts w a n l) (hn : n ≤ 2000) (hnc : n ≤ cap) (b : Option Addr) (m cb : Nat) (l2 : List Pt) (hb : Parts w b m l2) (hm : m ≤ 2000) (i k : Int) (hk : k ≤ 9223372036854775807) :
    Calls Tryd.prog 11 #[.slice a n cap, .int .i64 i, .int .i64 k, .slice b m cb] w fun e w' => SwapIs w.heap.size (swapP l l2 i k) e w' ∧ Below w.heap.size w w' := by
  by_cases h1 : wellB (kidsP l) = false ∨ treesZ (kidsP l2) < 0
  · exact swap_err w a n cap l hl hn b m cb l2 hb hm i k h1
  · have hq : wellB (kidsP l) = true := by
      cases h : wellB (kidsP l) with
      | true => rfl
      | false => exact absurd (.inl h) h1
    have ht : ¬ treesZ (kidsP l2) < 0 := fun h => h1 (.inr h)
    by_cases h2 : i < 0 ∨ (l.length : Int) ≤ i ∨ k < 0 ∨ (i = 0 ∧ (k ≠ 1 ∨ treesZ (kidsP l2) ≠ 1))
    · exact swap_arg w a n cap l hl hn b m cb l2 hb hm i k hq ht h2
    · have hln := hl.1
      by_cases h0 : i = 0
      · subst h0
        have hk1 : k = 1 := Classical.byContradiction fun h => h2 (.inr (.inr (.inr ⟨rfl, .inl h⟩)))
        have hT1 : treesZ (kidsP l2) = 1 := Classical.byContradiction fun h => h2 (.inr (.inr (.inr ⟨rfl, .inr h⟩)))
        subst hk1
        exact swap_root w a n cap l hl hn hnc b m cb l2 hb hm hq hT1 (by omega)
      · obtain ⟨I, rfl⟩ : ∃ I : Nat, i = I := ⟨i.toNat, by omega⟩
        obtain ⟨K, rfl⟩ : ∃ K : Nat, k = K := ⟨k.toNat, by omega⟩
        obtain ⟨T, hT⟩ : ∃ T : Nat, treesZ (kidsP l2) = T := ⟨(treesZ (kidsP l2)).toNat, by omega⟩
        exact swap_main w a n cap l hl hn hnc b m cb l2 hb hm I K T hk hq hT (by omega) (by omega)
end Go.Proofs.YtoffjpgobhcipaaDoor.Trm

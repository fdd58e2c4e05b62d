/-
  Layer 11: contract of the document's Swap.
-/
import Derived.Test.YtoffjpgobhcipaaGreatDoorKe
import Derived.Laws.AppendOwnNone
import Derived.Deep.LoopGhost
namespace Go.Proofs.YtoffjpgobhcipaaGreatDoor.Trm
open Go.ChangeShapes Go.WideShapes Go.ChangeAt Go.RowKit

set_option maxRecDepth 100000 in
/-- append of parts, whatever they lie in -/
theorem wpList_append_parts {w : World} {ops : Array Oper} {rest : List Oper} {o : Oper} {a : Act} {Q : Exit → Act → World → Prop} (hgd : o.guard = none) (s x : Operand)
    (ho : o.op = .call { callee := .builtin .append, args := #[s, x], argTypes := #[22, 22] }) (base : Nat) (v : Value) (l : List Pt) (hs : a.eval s = v) (hown : MineP w base v l)
    (b : Option Addr) (m c : Nat) (L : List Pt) (hx : a.eval x = .slice b m c) (hL : L.length = m) (hb : b = none → c = 0) (hsrc : 0 < m → ∃ ad, b = some ad ∧ ∀ j u, (cellsP L)[j]? = some u → w.cell? (ad.add j) = some u)
    (h63 : l.length + m ≤ 1000000) (hbase : base ≤ w.heap.size)
    (h : ∀ v' w', MineP w' base v' (l ++ L) → Keeps (fun t => t ≠ 28) w w' → Below base w w' → wpList Tryz.prog ops Q rest (a.put o.dst v') w') : wpList Tryz.prog ops Q (o :: rest) a w := by
  obtain ⟨i1, hi1, hy0, hy1, hy2⟩ := info_parts info28z
  cases b with
  | none =>
    have hm0 : m = 0 := by
      rcases Nat.eq_zero_or_pos m with h | h
      · exact h
      · obtain ⟨_, h2, _⟩ := hsrc h; cases h2
    have hc0 := hb rfl
    subst hm0 hc0
    have hLn := List.eq_nil_of_length_eq_zero hL
    subst hLn
    rw [List.append_nil] at h
    exact wpList_append_own_none hgd s x 22 ho base 28 i1 3 Tryz.underlying22 hi1 v _ _ hs hown hx (h v w hown (Keeps.refl _ _) (Below.refl _ _))
  | some ad =>
    have hcs : ∀ j u, (cellsP L)[j]? = some u → w.cell? (ad.add j) = some u := by
      rcases Nat.eq_zero_or_pos m with h0 | h0
      · rw [h0] at hL
        rw [List.eq_nil_of_length_eq_zero hL]
        intro j u hu
        simp [cellsP] at hu
      · obtain ⟨ad', h2, h3⟩ := hsrc h0
        injection h2 with h2
        subst h2
        exact h3
    refine wpList_append_own w hgd s x 22 ho base 28 i1 (.agg #[.int .u8 0, .int .i64 0, .string ⟨#[]⟩]) 3 32 Tryz.underlying22 hi1 hy0 hy1 hy2 rfl (by decide) v _ _ hs hown ad m c (cellsP L) hx (by rw [cellsP_len, hL]) hcs (cells_one L) (by unfold maxLen; omega) (by omega) hbase ?_
    intro v' w' h1 h2 _
    refine h v' w' (mineP_app (by rw [hL]; exact h1)) (keeps_grownF hown h2) ((Below.refl _ w).grown h2 hbase (fun q hq => (hown.lt q hq).1))
theorem parts_src {w : World} {b : Option Addr} {m : Nat} {l : List Pt} (h : Parts w b m l) : 0 < m → ∃ ad, b = some ad ∧ ∀ j u, (cellsP l)[j]? = some u → w.cell? (ad.add j) = some u := by
  intro hm
  obtain ⟨y, hy⟩ : ∃ y, l[0]? = some y := ⟨_, List.getElem?_eq_getElem (by rw [h.1]; exact hm)⟩
  obtain ⟨gb, ob, rfl, _, _, _⟩ := h.2 0 y hy
  exact ⟨_, rfl, parts_cells h⟩
theorem drop_src {w : World} {ga off cap n q : Nat} {l : List Pt} (h : Parts w (some ⟨ga, off, none⟩) n l) (hq : q ≤ n) (hc : n ≤ cap) : 0 < n - q → ∃ ad, (if cap = q then some (⟨ga, off, none⟩ : Addr) else some ⟨ga, off + q * 3, none⟩) = some ad ∧ ∀ j u, (cellsP (l.drop q))[j]? = some u → w.cell? (ad.add j) = some u := by
  intro hm
  refine ⟨⟨ga, off + q * 3, none⟩, by rw [if_neg (by omega)], fun j v hv => ?_⟩
  rw [cellsP_drop l q (by rw [h.1]; exact hq) j] at hv
  have h1 := parts_cells h (q * 3 + j) v hv
  have ha : ∀ (o z : Nat), (⟨ga, o, none⟩ : Addr).add z = ⟨ga, o + z, none⟩ := fun o z => by
    unfold Addr.add
    by_cases hz : z = 0
    · subst hz; rfl
    · simp [hz]
  rw [ha] at h1 ⊢
  rw [Nat.add_assoc]; exact h1
theorem mineP_lit {w : World} {B : Nat} (hB : B ≤ w.heap.size) : MineP (w.alloc (.cells #[] 28)) B (.slice (some ⟨w.heap.size, 0, none⟩) 0 0) [] := World.ownsRow_lit w #[] 0 hB (by unfold maxLen; omega) rfl
set_option maxRecDepth 100000 in
set_option maxHeartbeats 8000000 in
theorem rswap_err (w : World) (a : Option Addr) (n cap : Nat) (l : List Pt) (hl : Parts w a n l) (hn : n ≤ 2000) (b : Option Addr) (m cb : Nat) (l2 : List Pt) (hb : Parts w b m l2) (hm : m ≤ 2000) (i k : Int)
    (h : wellB (kidsP l) = false ∨ treesZ (kidsP l2) < 0) :
    Calls Tryz.prog 28 #[.slice a n cap, .int .i64 i, .int .i64 k, .slice b m cb] w fun e w' => SwapIs w.heap.size (swapP l l2 i k) e w' ∧ Below w.heap.size w w' := by
  have ht := rtrees_any w b m cb l2 hb hm
  have hw := rwell_any w a n cap l hl hn
  have HR := Lib.hid (swap_nil w.heap.size (swapP l l2 i k) 8 (by unfold swapP; rw [if_pos h]))
  cases hq : wellB (kidsP l) with
  | false =>
    rw [hq] at hw
    clear h hq hl hb
    go_enter Tryz.func28, Tryz.ntmps28
    go_wp2_with (first
      | (go_at_call 51; refine ht.mono ?_; rintro e w2 ⟨rfl, rfl⟩)
      | (go_at_call 12; refine hw.mono ?_; rintro e w3 ⟨rfl, rfl⟩))
    go_ret2
    exact ⟨HR.out _, Below.refl _ _⟩
  | true =>
    rw [hq] at hw
    have h2 : treesZ (kidsP l2) < 0 := by
      rcases h with h | h
      · rw [hq] at h; cases h
      · exact h
    have d1 : decide (treesZ (kidsP l2) < 0) = true := decide_eq_true h2
    clear h hq hl hb
    go_enter Tryz.func28, Tryz.ntmps28
    go_wp2_with (first
      | (go_at_call 51; refine ht.mono ?_; rintro e w2 ⟨rfl, rfl⟩)
      | (go_at_call 12; refine hw.mono ?_; rintro e w3 ⟨rfl, rfl⟩))
    go_ret2
    exact ⟨HR.out _, Below.refl _ _⟩
set_option maxRecDepth 100000 in
set_option maxHeartbeats 8000000 in
theorem rswap_arg (w : World) (a : Option Addr) (n cap : Nat) (l : List Pt) (hl : Parts w a n l) (hn : n ≤ 2000) (b : Option Addr) (m cb : Nat) (l2 : List Pt) (hb : Parts w b m l2) (hm : m ≤ 2000) (i k : Int)
    (hq : wellB (kidsP l) = true) (h2 : ¬ treesZ (kidsP l2) < 0) (h : i < 0 ∨ (l.length : Int) ≤ i ∨ k < 0 ∨ (i = 0 ∧ (k ≠ 1 ∨ treesZ (kidsP l2) ≠ 1))) :
    Calls Tryz.prog 28 #[.slice a n cap, .int .i64 i, .int .i64 k, .slice b m cb] w fun e w' => SwapIs w.heap.size (swapP l l2 i k) e w' ∧ Below w.heap.size w w' := by
  have ht := rtrees_any w b m cb l2 hb hm
  have hw := rwell_any w a n cap l hl hn
  have HR := Lib.hid (swap_nil w.heap.size (swapP l l2 i k) 1 (by
    unfold swapP
    rw [if_neg (fun x => by rcases x with x | x; · rw [hq] at x; cases x
                            · exact h2 x), if_pos h]))
  rw [hq] at hw
  rw [hl.1] at h
  have d1 : decide (treesZ (kidsP l2) < 0) = false := decide_eq_false h2
  clear hq hl hb
  have hc : decide (i < 0) = true ∨ (¬ i < 0 ∧ decide ((n : Int) ≤ i) = true) ∨ (¬ i < 0 ∧ ¬ (n : Int) ≤ i ∧ decide (k < 0) = true) ∨ (i = 0 ∧ ¬ (n : Int) ≤ 0 ∧ k = 1 ∧ (treesZ (kidsP l2) != 1) = true) ∨ (i = 0 ∧ ¬ (n : Int) ≤ 0 ∧ ¬ k < 0 ∧ (k != 1) = true) := by
    by_cases h3 : i < 0
    · exact .inl (decide_eq_true h3)
    · by_cases h4 : (n : Int) ≤ i
      · exact .inr (.inl ⟨h3, decide_eq_true h4⟩)
      · by_cases h5 : k < 0
        · exact .inr (.inr (.inl ⟨h3, h4, decide_eq_true h5⟩))
        · rcases h with h | h | h | ⟨rfl, h6⟩
          · exact absurd h h3
          · exact absurd h h4
          · exact absurd h h5
          · by_cases h7 : k = 1
            · refine .inr (.inr (.inr (.inl ⟨rfl, h4, h7, ?_⟩)))
              rcases h6 with h6 | h6
              · exact absurd h7 h6
              · simpa using h6
            · exact .inr (.inr (.inr (.inr ⟨rfl, h4, h5, by simpa using h7⟩)))
  clear h h2
  rcases hc with e3 | ⟨e3, e4⟩ | ⟨e3, e4, e5⟩ | ⟨rfl, e4, rfl, e5⟩ | ⟨rfl, e4, e5, e6⟩
  all_goals
    go_enter Tryz.func28, Tryz.ntmps28
    go_wp2_with (first
      | (go_at_call 51; refine ht.mono ?_; rintro e w2 ⟨rfl, rfl⟩)
      | (go_at_call 12; refine hw.mono ?_; rintro e w3 ⟨rfl, rfl⟩))
    go_ret2
    exact ⟨HR.out _, Below.refl _ _⟩
set_option maxRecDepth 100000 in
set_option maxHeartbeats 8000000 in
theorem rswap_root (w : World) (a : Option Addr) (n cap : Nat) (l : List Pt) (hl : Parts w a n l) (hn : n ≤ 2000) (b : Option Addr) (m cb : Nat) (hbc : b = none → cb = 0) (l2 : List Pt) (hb : Parts w b m l2) (hm : m ≤ 2000)
    (hq : wellB (kidsP l) = true) (hT : treesZ (kidsP l2) = 1) (hin : 0 < n) :
    Calls Tryz.prog 28 #[.slice a n cap, .int .i64 0, .int .i64 1, .slice b m cb] w fun e w' => SwapIs w.heap.size (swapP l l2 0 1) e w' ∧ Below w.heap.size w w' := by
  have ht := rtrees_any w b m cb l2 hb hm
  rw [hT] at ht
  have hw := rwell_any w a n cap l hl hn
  rw [hq] at hw
  have HX : Hid (swapP l l2 0 1 = (l2, 0)) := Lib.hid (by
    unfold swapP
    rw [if_neg (fun x => by
      rcases x with x | x
      · rw [hq] at x; cases x
      · rw [hT] at x; omega), if_neg (by rw [hl.1, hT]; omega), if_pos rfl])
  have HBL := Lib.hid hb
  have hbn := hb.1
  have d3 : ¬ (n : Int) ≤ 0 := by omega
  have HB0 : Hid (Below w.heap.size w (w.alloc (.cells #[] 28))) := Lib.hid ((Below.refl _ w).alloc (Nat.le_refl _) _)
  clear hl hb hT hq
  go_enter Tryz.func28, Tryz.ntmps28
  go_wp2_with (first
    | (go_at_call 51; refine ht.mono ?_; rintro e w2 ⟨rfl, rfl⟩)
    | (go_at_call 12; refine hw.mono ?_; rintro e w3 ⟨rfl, rfl⟩)
    | (at_builtin; refine wpList_append_parts rfl _ _ rfl _ _ [] rfl (mineP_lit (Nat.le_refl _)) _ _ _ l2 rfl hbn hbc (parts_src (parts_below HBL.out HB0.out)) (by simp; omega) (by simp) ?_))
  intro v2 w2 hM2 _ hB2
  have HM2 := Lib.hid hM2
  have HB2 := Lib.hid (HB0.out.trans hB2)
  clear hM2 hB2
  go_wp2
  go_ret2
  refine ⟨⟨v2, ?_, ?_⟩, HB2.out⟩
  · rw [HX.out]; rfl
  · rw [HX.out]; exact HM2.out
set_option maxRecDepth 100000 in
set_option maxHeartbeats 16000000 in
theorem rswap_main (w : World) (a : Option Addr) (n cap : Nat) (l : List Pt) (hl : Parts w a n l) (hn : n ≤ 2000) (hnc : n ≤ cap) (b : Option Addr) (m cb : Nat) (hbc : b = none → cb = 0) (l2 : List Pt) (hb : Parts w b m l2) (hm : m ≤ 2000) (i k T : Nat) (hk : (k : Int) ≤ 9223372036854775807)
    (hq : wellB (kidsP l) = true) (hT : treesZ (kidsP l2) = T) (hi0 : 0 < i) (hin : i < n) :
    Calls Tryz.prog 28 #[.slice a n cap, .int .i64 (i : Int), .int .i64 (k : Int), .slice b m cb] w fun e w' => SwapIs w.heap.size (swapP l l2 i k) e w' ∧ Below w.heap.size w w' := by
  have hlk : (kidsP l).length = n := by rw [kidsP_len]; exact hl.1
  have hlb : (kidsP l2).length = m := by rw [kidsP_len]; exact hb.1
  obtain ⟨u, hu, hui, hue⟩ := up_spec hq hi0 (by rw [hlk]; exact hin)
  have hTm : T ≤ m := by have := (trees_le (kidsP l2)).2; rw [hT, hlb] at this; omega
  have ht := rtrees_any w b m cb l2 hb hm
  rw [hT] at ht
  have hw := rwell_any w a n cap l hl hn
  rw [hq] at hw
  have hup := rup_any w a n cap l hl hn hq i hin
  rw [hu] at hup
  have hen : ∀ p, p < n → Calls Tryz.prog 18 #[.slice a n cap, .int .i64 (p : Int)] w fun e w' => e = .returned (.int .i64 ((endN (kidsP l) p : Nat) : Int)) ∧ w = w' := fun p hp => by
    have h := rend_any w a n cap l hl hn p (by omega)
    rw [endZ_well hq (by rw [hlk]; exact hp)] at h
    exact h
  have heu := hen u (by omega)
  have HL := Lib.hid hl
  have HBL := Lib.hid hb
  obtain ⟨last, hlast⟩ : ∃ last, last = endN (kidsP l) u := ⟨_, rfl⟩
  obtain ⟨A, hA⟩ : ∃ A, A = toF (kidsP l) last k i := ⟨_, rfl⟩
  have hX : (A = none → swapP l l2 i k = ([], 1)) ∧ ∀ z, A = some z → swapP l l2 i k = (swapL l l2 u i z ((T : Int) - k), 0) := by
    have h9 : swapP l l2 i k = (match toF (kidsP l) (endN (kidsP l) u) k i with | none => ([], 1) | some z => (swapL l l2 u i z ((T : Int) - k), 0)) := by
      unfold swapP
      rw [if_neg (fun x => by
        rcases x with x | x
        · rw [hq] at x; cases x
        · rw [hT] at x; omega), if_neg (by rw [hl.1]; omega), if_neg (by omega)]
      simp only [Int.toNat_natCast, hu, hT]
      rfl
    rw [← hlast, ← hA] at h9
    exact ⟨fun e => by rw [h9, e], fun z e => by rw [h9, e]⟩
  have HX := Lib.hid hX
  have hln2 : last ≤ n := by rw [hlast, ← hlk]; exact (end_well hq (i := u) (by rw [hlk]; omega)).2.2
  have HIN := Lib.hid (fun p (h1 : u ≤ p) (h2 : p < endN (kidsP l) u) => end_in hq (u := u) (by rw [hlk]; omega) h1 h2)
  have HAQ : Hid (∀ q, A = some q → i + k ≤ q ∧ q ≤ n) := Lib.hid (fun q h => by
    rw [hA, hlast] at h
    have h1 := toF_le (lo := i) (fun p h1 h2 => end_in hq (u := u) (by rw [hlk]; omega) (by omega) h2) k i q h (Nat.le_refl _) (by omega)
    omega)
  rw [← hlast] at heu HIN hue
  obtain ⟨x, hx⟩ : ∃ x, l[u]? = some x := ⟨_, List.getElem?_eq_getElem (by rw [hl.1]; omega)⟩
  have hxk := kids_le hq (kidsP_at hx)
  rw [hlk] at hxk
  obtain ⟨ga, off, rfl, _, _, _⟩ := hl.2 u x hx
  have HXU := Lib.hid hx
  have HA := Lib.hid hA
  have HEN := Lib.hid hen
  have d1 : decide ((T : Int) < 0) = false := decide_eq_false (by omega)
  have d2 : decide ((i : Int) < 0) = false := decide_eq_false (by omega)
  have d3 : decide ((n : Int) ≤ i) = false := decide_eq_false (by omega)
  have d4 : decide ((k : Int) < 0) = false := decide_eq_false (by omega)
  have d5 : ((i : Int) == 0) = false := by simp; omega
  have hln := hl.1
  have hbn := hb.1
  clear hl hb hu hA hx hlk hlb hT hq hX hlast hen
  go_enter Tryz.func28, Tryz.ntmps28
  go_wp2_with (first
    | (go_at_call 51; refine ht.mono ?_; rintro e w2 ⟨rfl, rfl⟩)
    | (go_at_call 12; refine hw.mono ?_; rintro e w3 ⟨rfl, rfl⟩)
    | (go_at_call 19; refine hup.mono ?_; rintro e w4 ⟨rfl, rfl⟩))
  go_loopw [12, 13] (fun tv jv wr => ∃ (j p : Nat), j ≤ k ∧ u ≤ p ∧ p ≤ last ∧ tv = .int .i64 (p : Int) ∧ jv = .int .i64 (j : Int) ∧ wr = w ∧ Hid (A = toF (kidsP l) last (k - j) p)) (fun tv _ _ => last - (intOf tv).toNat)
  case atStart => exact ⟨0, i, Nat.zero_le _, by omega, by omega, rfl, rfl, rfl, HA⟩
  case round =>
    obtain ⟨j, p, hjk, hup2, hpl, rfl, rfl, hwr, HT⟩ := hrel
    rw [hwr]
    clear hwr
    by_cases hlt : j < k
    · have hkj : k - j = (k - j - 1) + 1 := by omega
      by_cases hpl2 : p < last
      · obtain ⟨h1, h2⟩ := HIN.out p hup2 hpl2
        have hc := HEN.out p (by omega)
        have HT2 : Hid (A = toF (kidsP l) last (k - (j + 1)) (endN (kidsP l) p)) := Lib.hid (by
          have := HT.out
          rw [hkj] at this
          unfold toF at this
          rw [if_pos hpl2] at this
          rw [show k - (j + 1) = k - j - 1 by omega]
          exact this)
        generalize endN (kidsP l) p = q at h1 h2 hc HT2
        clear hkj
        have d7 : ¬ (last : Int) ≤ p := by omega
        go_wp2_with (first
          | (go_at_call 18; (with_reducible refine heu.mono ?_); rintro e w3 ⟨rfl, rfl⟩)
          | (go_at_call 18; (with_reducible refine hc.mono ?_); rintro e w3 ⟨rfl, rfl⟩))
        go_roundw
        case rel => exact ⟨j + 1, q, by omega, by omega, h2, rfl, by go_num, (by first | rfl | trivial), HT2⟩
        case measure => simp [intOf]; omega
      · have hAn : A = none := by
          have := HT.out
          rw [hkj] at this
          unfold toF at this
          rw [if_neg hpl2] at this
          exact this
        have HR := Lib.hid (swap_nil w.heap.size (swapP l l2 i k) 1 (HX.out.1 hAn))
        have d7 : (last : Int) ≤ p := by omega
        clear hkj hAn
        go_wp2_with (go_at_call 18; (with_reducible refine heu.mono ?_); rintro e w3 ⟨rfl, rfl⟩)
        go_ret2
        exact ⟨HR.out _, Below.refl _ _⟩
    · have hAp : A = some p := by
        have := HT.out
        rw [show k - j = 0 by omega] at this
        exact this
      obtain ⟨hq1, hq2⟩ := HAQ.out p hAp
      have hti : (l.take i).length = i := by rw [List.length_take]; omega
      have hmu : (l.take i)[u]? = some x := by rw [List.getElem?_take, if_pos hui]; exact HXU.out
      have HRX : Hid (((l.take i).modify u (fun y => { y with kids := x.kids + (T : Int) - k }) ++ (l2 ++ l.drop p)) = swapL l l2 u i p ((T : Int) - k)) := Lib.hid (by
        unfold swapL
        congr 1
        apply List.ext_getElem?
        intro z
        rw [List.getElem?_modify, List.getElem?_modify]
        by_cases hju : u = z
        · subst hju; rw [hmu]; simp; omega
        · simp [hju])
      have HSX : Hid (swapP l l2 i k = (swapL l l2 u i p ((T : Int) - k), 0)) := Lib.hid (HX.out.2 p hAp)
      have HB0 : Hid (Below w.heap.size w (w.alloc (.cells #[] 28))) := Lib.hid ((Below.refl _ w).alloc (Nat.le_refl _) _)
      have hdl : (l.drop p).length = n - p := by rw [List.length_drop, hln]
      have x1 : IntKind.i64.wrap (x.kids + (T : Int)) = x.kids + T := by rw [IntKind.wrap_i64]; omega
      have x2 : IntKind.i64.wrap (x.kids + (T : Int) - k) = x.kids + T - k := by rw [IntKind.wrap_i64]; omega
      have u1 : (0 : Int) ≤ u := by omega
      have u2 : (u : Int) < i := by omega
      have u3 : (p : Int) ≤ n := by omega
      have HMU := Lib.hid hmu
      clear hAp hmu HX HAQ HT HA
      go_wp2_with (at_builtin; refine wpList_append_parts rfl _ _ rfl _ _ [] rfl (mineP_lit (Nat.le_refl _)) _ _ _ (l.take i) rfl hti (fun h => by cases h) (fun _ => ⟨_, rfl, fun j v h => parts_cells (parts_below HL.out HB0.out) j v (cellsP_take l i j v h)⟩) (by simp; omega) (by simp) ?_)
      intro v2 w2 hM2 _ hB2
      obtain ⟨g2, c2, cur2, rfl, hg2, hg2l, hh2, hc2, hcm2, _, hkid⟩ := mineP_some hM2 (fun e => by rw [e] at hti; simp at hti; omega)
      have ck := hkid u x HMU.out
      have fk : w2.frozen? ⟨g2, u * 3 + 1, none⟩ = false := by simp [World.frozen?, hh2]
      have HB2 := Lib.hid (HB0.out.trans hB2)
      have hM3 := mineP_set (x.kids + (T : Int) - k) HMU.out hM2
      have hB3 := HB2.out.setCell (p := ⟨g2, u * 3 + 1, none⟩) (by show w.heap.size ≤ g2; exact hg2) (.int .i64 (x.kids + (T : Int) - k))
      rw [hti] at hM3 ⊢
      have HM3 := Lib.hid hM3
      have HB3 := Lib.hid hB3
      clear hM2 hB2 hM3 hB3 hkid hh2
      go_wp2_with (at_builtin; refine wpList_append_parts rfl _ _ rfl _ _ _ rfl HM3.out _ _ _ l2 rfl hbn hbc (parts_src (parts_below HBL.out HB3.out)) (by rw [List.length_modify]; omega) (by have := HB3.out.size; exact this) ?_)
      intro v4 w4 hM4 _ hB4
      have HM4 := Lib.hid hM4
      have HB4 := Lib.hid (HB3.out.trans hB4)
      clear hM4 hB4
      go_wp2_with (at_builtin; refine wpList_append_parts rfl _ _ rfl _ _ _ rfl HM4.out _ _ _ (l.drop p) rfl hdl (fun h => by first | (cases h; done) | (split at h <;> cases h)) (by first | exact drop_src (parts_below HL.out HB4.out) hq2 hnc | (intro h0; exact absurd h0 (by omega))) (by rw [List.length_append, List.length_modify]; omega) (by have := HB4.out.size; exact this) ?_)
      all_goals
        intro v5 w5 hM5 _ hB5
        rw [HRX.out] at hM5
        have HM5 := Lib.hid hM5
        have HB5 := Lib.hid (HB4.out.trans hB5)
        clear hM5 hB5
        go_wp2
        go_ret2
        refine ⟨⟨v5, ?_, ?_⟩, HB5.out⟩
        · rw [HSX.out]; rfl
        · rw [HSX.out]; exact HM5.out
/-- the document's Swap of lists that are not too long -/
theorem rswap_any (w : World) (a : Option Addr) (n cap : Nat) (l : List Pt) (hl : Parts w a n l) (hn : n ≤ 2000) (hnc : n ≤ cap) (b : Option Addr) (m cb : Nat) (hbc : b = none → cb = 0) (l2 : List Pt) (hb : Parts w b m l2) (hm : m ≤ 2000) (i k : Int) (hk : k ≤ 9223372036854775807) :
    Calls Tryz.prog 28 #[.slice a n cap, .int .i64 i, .int .i64 k, .slice b m cb] w fun e w' => SwapIs w.heap.size (swapP l l2 i k) e w' ∧ Below w.heap.size w w' := by
  by_cases h1 : wellB (kidsP l) = false ∨ treesZ (kidsP l2) < 0
  · exact rswap_err w a n cap l hl hn b m cb l2 hb hm i k h1
  · have hq : wellB (kidsP l) = true := by
      cases h : wellB (kidsP l) with
      | true => rfl
      | false => exact absurd (.inl h) h1
    have ht : ¬ treesZ (kidsP l2) < 0 := fun h => h1 (.inr h)
    by_cases h2 : i < 0 ∨ (l.length : Int) ≤ i ∨ k < 0 ∨ (i = 0 ∧ (k ≠ 1 ∨ treesZ (kidsP l2) ≠ 1))
    · exact rswap_arg w a n cap l hl hn b m cb l2 hb hm i k hq ht h2
    · have hln := hl.1
      by_cases h0 : i = 0
      · subst h0
        have hk1 : k = 1 := Classical.byContradiction fun h => h2 (.inr (.inr (.inr ⟨rfl, .inl h⟩)))
        have hT1 : treesZ (kidsP l2) = 1 := Classical.byContradiction fun h => h2 (.inr (.inr (.inr ⟨rfl, .inr h⟩)))
        subst hk1
        exact rswap_root w a n cap l hl hn b m cb hbc l2 hb hm hq hT1 (by omega)
      · obtain ⟨I, rfl⟩ : ∃ I : Nat, i = I := ⟨i.toNat, by omega⟩
        obtain ⟨K, rfl⟩ : ∃ K : Nat, k = K := ⟨k.toNat, by omega⟩
        obtain ⟨T, hT⟩ : ∃ T : Nat, treesZ (kidsP l2) = T := ⟨(treesZ (kidsP l2)).toNat, by omega⟩
        exact rswap_main w a n cap l hl hn hnc b m cb hbc l2 hb hm I K T hk hq hT (by omega) (by omega)
end Go.Proofs.YtoffjpgobhcipaaGreatDoor.Trm

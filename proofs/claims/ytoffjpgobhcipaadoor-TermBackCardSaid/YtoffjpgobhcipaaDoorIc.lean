/-
  Layer 11: lists of numbers; contracts of the document's Up, Kids, Ints; of term.Kids.
-/
import Derived.Test.YtoffjpgobhcipaaDoorIb
import Derived.Lib.MapLaws
namespace Go.Proofs.YtoffjpgobhcipaaDoor.Trm
open Go.ChangeShapes Go.WideShapes Go.ChangeAt Go.RowKit

theorem info3 : (Tryd.prog.info? 3).map (fun i => (i.zero, i.size, i.bytes)) = some (some (.int .i64 0), 1, 8) := by kernel_rfl
/-- a list of numbers of a call's own -/
def MineI (w : World) (base : Nat) (v : Value) (xs : List Int) : Prop := w.ownsRow base 3 1 v xs.length (xs.map (Value.int .i64))
theorem mineI_below {w w' : World} {base : Nat} {v : Value} {xs : List Int} (h : MineI w base v xs) (hB : Below w.heap.size w w') : MineI w' base v xs :=
  h.kept (w := w) (w' := w') (row := none) ⟨hB.os, hB.tape, hB.output, hB.size, fun k hk _ => hB.block k hk⟩ (by cases v.ownBlock <;> simp)
/-- a slice that reads as numbers -/
def IntsAt (w : World) (a : Option Addr) (xs : List Int) : Prop := ∀ (k : Nat) (x : Int), xs[k]? = some x → ∃ g, a = some ⟨g, 0, none⟩ ∧ w.cell? ⟨g, k, none⟩ = some (.int .i64 x)
theorem IntsAt.below {w w' : World} {a : Option Addr} {xs : List Int} (h : IntsAt w a xs) (hB : Below w.heap.size w w') : IntsAt w' a xs := by
  intro k x hk
  obtain ⟨g, e, c⟩ := h k x hk
  exact ⟨g, e, (hB.cell (p := ⟨g, k, none⟩) (cell_lt c)).trans c⟩
theorem mineI_ints {w : World} {base : Nat} {v : Value} {xs : List Int} (h : MineI w base v xs) : ∃ a cap, v = .slice a xs.length cap ∧ IntsAt w a xs ∧ xs.length ≤ maxLen ∧ xs.length ≤ cap := by
  rcases h.2 with ⟨h1, h2⟩ | ⟨g, cap, cur, h1, _, _, h3, h4, _⟩
  · exact ⟨none, 0, by rw [h1, h2], fun k x hk => by have := (List.getElem?_eq_some_iff.1 hk).1; omega, by unfold maxLen; omega, by omega⟩
  · refine ⟨some ⟨g, 0, none⟩, cap, h1, fun k x hk => ⟨g, rfl, ?_⟩, by omega, h3⟩
    subst h1
    have hl := (List.getElem?_eq_some_iff.1 hk).1
    have := World.ownsRow.cellAt h k (by omega)
    rw [this, List.getElem?_map, hk]; rfl
theorem mineI_nil (w : World) (base : Nat) : MineI w base (.slice none 0 0) [] := World.ownsRow_nil _ _ _ _
theorem new_cells (w : World) (t : TypeId) (cs : Array Value) (j : Nat) (u : Value) (h : cs[j]? = some u) : (w.alloc (.cells cs t)).cell? ((⟨w.heap.size, 0, none⟩ : Addr).add j) = some u := by
  have := cell_of_row (w.alloc (.cells cs t)) w.heap.size j cs t (0, 0) (heap_alloc_new w _)
  rw [← h, ← this]
  by_cases hj : j = 0
  · subst hj; rfl
  · simp [Addr.add, hj]
theorem one_new (w : World) (x : Value) (t : TypeId) : ∀ j u, [x][j]? = some u → (w.alloc (.cells #[x] t)).cell? ((⟨w.heap.size, 0, none⟩ : Addr).add j) = some u :=
  fun j u h => new_cells w t #[x] j u (by simpa using h)
theorem mineI_snoc {w : World} {base : Nat} {v : Value} {xs : List Int} {x : Int} (h : w.ownsRow base 3 1 v (xs.length + 1) (xs.map (Value.int .i64) ++ [.int .i64 x])) : MineI w base v (xs ++ [x]) := by
  unfold MineI
  rw [List.length_append, List.map_append]; exact h
def natsI (ks : List Nat) : List Int := ks.map fun (k : Nat) => (k : Int)
theorem mineI_mono {w : World} {b b' : Nat} {v : Value} {xs : List Int} (h : MineI w b v xs) (hb : b' ≤ b) : MineI w b' v xs :=
  ⟨h.1, h.2.imp id fun ⟨g, cap, cur, h1, h2, h3⟩ => ⟨g, cap, cur, h1, Nat.le_trans hb h2, h3⟩⟩
theorem any_take {α : Type} (p : α → Bool) (l : List α) (k : Nat) (x : α) (h : l[k]? = some x) : (l.take (k + 1)).any p = ((l.take k).any p || p x) := by
  rw [List.take_add_one, h, List.any_append]; simp

def kidsI (l : List Pt) (i : Int) : List Int := if hasP l i = true then natsI (kidsN (kidsP l) i.toNat) else []
set_option maxHeartbeats 4000000 in
theorem Kids_any (w : World) (a : Option Addr) (n cap : Nat) (l : List Pt) (hl0 : Parts w a n l) (hn : n ≤ 4398046511104) (z : Int) :
    Calls Tryd.prog 12 #[.slice a n cap, .int .i64 z] w fun e w' => (∃ v, e = .returned v ∧ MineI w' w.heap.size v (kidsI l z)) ∧ Below w.heap.size w w' := by
  have hh := has_any w a n cap l hl0 hn z
  cases hq : hasP l z with
  | false =>
    rw [hq] at hh
    have hE : kidsI l z = [] := by rw [kidsI, if_neg (by rw [hq]; decide)]
    rw [hE]
    clear hl0 hq hE
    go_enter Tryd.func12, Tryd.ntmps12
    go_wp2_with (go_at_call 29; refine hh.mono ?_; rintro e w1 ⟨rfl, hB⟩)
    go_ret
    exact ⟨⟨_, rfl, mineI_nil _ _⟩, hB⟩
  | true =>
    rw [hq] at hh
    obtain ⟨i, rfl, hi0', ht⟩ := has_true hq
    have hE : kidsI l (i : Int) = natsI (kidsN (kidsP l) i) := by rw [kidsI, if_pos hq, Int.toNat_natCast]
    rw [hE]
    have hi : i < n := by have := hl0.1; omega
    have HLK : Hid ((kidsP l).length = n) := Lib.hid (by rw [kidsP_len]; exact hl0.1)
    have HL0 := Lib.hid hl0
    have HH := Lib.hid hh
    clear hl0 hq hE hi0' hh
    obtain ⟨g, off, rfl, -, -, -⟩ := HL0.out.2 i _ (parts_some HL0.out hi)
    go_enter Tryd.func12, Tryd.ntmps12
    go_wp2_with fail
    refine HH.out.mono ?_
    rintro e w1 ⟨rfl, hB01⟩
    have hl := parts_below HL0.out hB01
    have HB01 := Lib.hid hB01
    clear hB01
    have hg := (end_goes (well_goes.1 ht) (Nat.zero_le i) (by rw [HLK.out]; exact hi))
    have hx := parts_some hl hi
    obtain ⟨g', off', hgo, c0, c1, c2⟩ := hl.2 i _ hx
    cases hgo
    obtain ⟨y, hy, h0, HG0⟩ := (goes_succ (n := 0)).1 hg.1
    have he := hg.2.2
    rw [HLK.out] at he
    have hky : kidsN (kidsP l) i = kidsFrom (kidsP l) y.toNat (i + 1) := by unfold kidsN; rw [List.getD, hy]; rfl
    have hy2 := hy
    rw [kidsP_at hx] at hy2
    injection hy2 with hy2
    rw [hy2] at c1
    obtain ⟨m, rfl⟩ : ∃ m : Nat, y = m := ⟨y.toNat, by omega⟩
    rw [Int.toNat_natCast] at HG0 hky
    rw [Nat.zero_add] at HG0
    have HKY := Lib.hid hky
    have hm := goes_le HG0
    have HL := Lib.hid hl
    have HG := Lib.hid HG0
    have hmn : m ≤ n := by omega
    obtain ⟨i0, hi0, hz0, hz1, hz2⟩ := info_parts info3
    have H1 := Lib.hid hi0
    have H2 := Lib.hid hz0
    have H3 := Lib.hid hz1
    have H4 := Lib.hid hz2
    have hte := fun w (hl : Parts w (some ⟨g, off, none⟩) n l) k (hk : k < n) => wend_any w _ n cap l hl hn k _ (end_goes (well_goes.1 ht) (Nat.zero_le k) (by rw [kidsP_len, hl.1]; exact hk)).1
    have HTE := Lib.hid hte
    clear hx hl hg hy hy2 h0 HG0 hky c0 c2 hm hi0 hz0 hz1 hz2 hte
    go_wp2
    go_loopw [5, 6, 18] (fun v t s wr => ∃ (j p : Nat) (xs : List Int), j ≤ m ∧ s = .int .i64 j ∧ t = .int .i64 p ∧ xs.length = j ∧ Hid (Goes (kidsP l) p (m - j) (endN (kidsP l) i)) ∧ Hid (xs ++ natsI (kidsFrom (kidsP l) (m - j) p) = natsI (kidsFrom (kidsP l) m (i + 1))) ∧ Hid (MineI wr w1.heap.size v xs) ∧ Hid (Below w1.heap.size w1 wr)) (fun _ _ s _ => m - (intOf s).toNat)
    case atStart => exact ⟨0, i + 1, [], Nat.zero_le _, rfl, by go_num, rfl, Lib.hid (by rw [Nat.sub_zero]; exact HG.out), Lib.hid (by rw [Nat.sub_zero]; rfl), Lib.hid (mineI_nil _ _), Lib.hid (Below.refl _ _)⟩
    case round =>
      obtain ⟨j, p, xs, hj, rfl, rfl, hxl, HP, HX, HM, HB⟩ := hrel
      by_cases hlt : j < m
      · obtain ⟨d, hd⟩ : ∃ d, m - j = d + 1 := ⟨m - j - 1, by omega⟩
        have HP2 := HP.out
        rw [hd] at HP2
        obtain ⟨g1, g2, g3⟩ := kids_end HP2
        rw [HLK.out] at g3
        have HX2 := HX.out
        rw [hd] at HX2
        have HX3 : Hid (xs ++ [(p : Int)] ++ natsI (kidsFrom (kidsP l) d (endN (kidsP l) p)) = natsI (kidsFrom (kidsP l) m (i + 1))) := Lib.hid (by rw [List.append_assoc]; exact HX2)
        have HP3 := Lib.hid g2
        have HD := Lib.hid hd
        have hle := goes_le g1
        have hle2 := goes_le g2
        have hpn : endN (kidsP l) p ≤ n := by omega
        clear HP2 g1 g2 HX2 hd hle hle2
        have hob := fun q hq => (HM.out.lt q hq)
        go_wp2_with (at_builtin; refine wpList_append_own _ rfl _ _ 35 rfl w1.heap.size 3 i0 (.int .i64 0) 1 8 Tryd.underlying35 H1.out H2.out H3.out H4.out rfl (by decide) _ _ _ rfl (HM.out.alloc _) ⟨_, 0, none⟩ 1 1 [.int .i64 p] rfl rfl ?d1 ?d2 ?d3 ?d4 ?d5 ?_)
        case d1 => exact one_new _ _ _
        case d2 => intro u hu; simp at hu; subst hu; rfl
        case d3 => unfold maxLen; omega
        case d4 => omega
        case d5 => have := HB.out.size; simp; omega
        intro v1 w2 hown1 hg1 _
        have HM1 : Hid (MineI w2 w1.heap.size v1 (xs ++ [(p : Int)])) := Lib.hid (mineI_snoc (by rw [hxl]; exact hown1))
        have hB1 : Below w1.heap.size wr w2 := ((Below.refl _ wr).alloc HB.out.size _).grown hg1 (by have := HB.out.size; simp; omega) (fun q hq => (hob q hq).1)
        have HB1 := Lib.hid (HB.out.trans hB1)
        clear hown1 hg1 hB1 hob
        go_wp2_with (go_at_call 30; refine (HTE.out _ (parts_below HL.out HB1.out) p g3).mono ?_; rintro e w3 ⟨rfl, rfl⟩)
        go_roundw
        case rel => exact ⟨j + 1, endN (kidsP l) p, xs ++ [(p : Int)], by omega, by go_num, rfl, by simp [hxl], Lib.hid (by rw [show m - (j + 1) = m - j - 1 by omega, HD.out]; exact HP3.out), Lib.hid (by rw [show m - (j + 1) = m - j - 1 by omega, HD.out]; exact HX3.out), HM1, HB1⟩
        case measure => simp [intOf]; omega
      · have hjm : j = m := by omega
        have HX2 := HX.out
        rw [show m - j = 0 by omega, show natsI (kidsFrom (kidsP l) 0 p) = [] from rfl, List.append_nil] at HX2
        have HM2 := HM.out
        rw [HX2] at HM2
        have HM3 := Lib.hid (mineI_mono HM2 HB01.out.size)
        clear HX2 HM2
        go_wp2
        go_ret
        exact ⟨⟨_, rfl, by rw [HKY.out]; exact HM3.out⟩, below_chain HB01.out HB.out⟩
end Go.Proofs.YtoffjpgobhcipaaDoor.Trm

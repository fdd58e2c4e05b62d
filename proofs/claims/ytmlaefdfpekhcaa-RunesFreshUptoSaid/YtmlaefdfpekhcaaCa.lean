/-
  The statement RunesFresh walked.
-/
import Derived.Test.YtmlaefdfpekhcaaBa
import Derived.Laws.OwnMore
import Derived.Laws.MakeOwn
namespace Go.Proofs.Ytmlaefdfpekhcaa
open Go.ChangeShapes Go.WideShapes Go.ChangeAt Go.RowKit

/-- what runes.All leaves of any text: a row of its own -/
def Own32 (base : Nat) (f : Bool) (xs : List Int) (e : Ending) (w' : World) : Prop := ∃ v, e = .returned (.tuple #[v, .bool f]) ∧ w'.ownsRow base 21 1 v xs.length (xs.map (Value.int .i32))
def Own64 (base : Nat) (f : Bool) (xs : List Int) (e : Ending) (w' : World) : Prop := ∃ v, e = .returned (.tuple #[v, .bool f]) ∧ w'.ownsRow base 2 1 v xs.length (xs.map (Value.int .i64))
theorem own_both (s : ByteArray) (hs : s.size ≤ 1048576) : ∃ (f : Bool) (xs : List Int), allChar xs ∧ xs.length ≤ 1048576 ∧
    (∀ w, Calls Try.prog 21 #[.string s] w fun e w' => Own32 w.heap.size f xs e w' ∧ Below w.heap.size w w') ∧
    (∀ w, Calls Try.prog 22 #[.string s] w fun e w' => Own64 w.heap.size f xs e w' ∧ Below w.heap.size w w') := by
  rcases text_cases s with ⟨xs, hx, he, _⟩ | hb
  · have hl : xs.length ≤ 1048576 := by
      have h1 := count_le xs hx
      have h2 : s.size = (bytes xs).length := by rw [← he]; rfl
      omega
    exact ⟨true, xs, hx, hl, fun w => all_good s xs hx he hs w, fun w => rall_good s xs hx he hs w⟩
  · exact ⟨false, [], (fun _ h => by simp at h), by simp,
      fun w => (all_bad s hs hb w).mono fun e w' ⟨h1, h2⟩ => ⟨⟨_, h1, World.ownsRow_nil _ _ _ _⟩, h2⟩,
      fun w => (rall_bad s hs hb w).mono fun e w' ⟨h1, h2⟩ => ⟨⟨_, h1, World.ownsRow_nil _ _ _ _⟩, h2⟩⟩
theorem own_slice {w : World} {base : Nat} {e : TypeId} {v : Value} {m : Nat} {xs : List Value} (h : w.ownsRow base e 1 v m xs) : ∃ a cap, v = .slice a m cap := by
  rcases h.2 with ⟨rfl, h0⟩ | ⟨g, cap, cur, rfl, _⟩
  · exact ⟨none, 0, by rw [h0]⟩
  · exact ⟨_, cap, rfl⟩
theorem own_some {w : World} {base : Nat} {e : TypeId} {a : Option Addr} {m cap : Nat} {xs : List Value} (h : w.ownsRow base e 1 (.slice a m cap) m xs) (hm : 0 < m) : ∃ g, a = some ⟨g, 0, none⟩ ∧ base ≤ g ∧ g < w.heap.size ∧ m ≤ cap ∧ cap ≤ maxLen := by
  rcases h.2 with ⟨_, h0⟩ | ⟨g, cap', cur, h1, h2, h3, h4, h5, _⟩
  · omega
  · simp only [Value.slice.injEq, true_and] at h1
    exact ⟨g, h1.1, h2, (Array.getElem?_eq_some_iff.1 h3).1, by omega, by omega⟩

set_option maxRecDepth 100000 in
set_option maxHeartbeats 4000000 in
theorem runesFresh_in (w : World) (s : ByteArray) (a : Option Addr) (n cap : Nat) (ls : List Int) (hc : Came w a n cap ls) (hn : n ≤ 1048576) (_hw : ∀ x ∈ ls, -2147483648 ≤ x ∧ x ≤ 2147483647) (hs : s.size ≤ 1048576) :
    Calls Try.prog 9 #[.string s, .slice a n cap] w fun e w' => e = .returned (.bool true) ∧ Below w.heap.size w w' := by
  have hl := hc.1
  have HLX := Lib.hid hl
  clear hl
  obtain ⟨f, xs, hx, hxl, hall, hrall⟩ := own_both s hs
  obtain ⟨i0, hi, hz0, hz1, hz2⟩ := info_parts info21
  have hmk : ∀ u : World, (Instr.makeSlice 32 (.int .i64 0) (.int .i64 ((n : Int) + 1))).run Try.prog u =
      .ok (.slice (some ⟨u.heap.size, 0, none⟩) 0 (n + 1)) (u.alloc (.cells (madeCells #[.int .i32 0] (n + 1)) 21)) := fun u => by
    have h := run_make (P := Try.prog) u 32 21 i0 (.int .i32 0) Try.underlying32 hi hz0 .i64 .i64 0 ((n : Int) + 1) (Int.le_refl _) (by omega) (by rw [hz2]; omega) (by omega)
    have e : ((n : Int) + 1).toNat = n + 1 := by omega
    rw [e] at h
    simpa [hz1, Value.cells] using h
  have hom : (w.alloc (.cells (madeCells #[.int .i32 0] (n + 1)) 21)).ownsRow w.heap.size 21 1 (.slice (some ⟨w.heap.size, 0, none⟩) 0 (n + 1)) 0 [] :=
    World.ownsRow_made w _ _ (Nat.le_refl _) (by unfold maxLen; omega) (by rw [size_madeCells]; omega)
  have hBm : Below w.heap.size w (w.alloc (.cells (madeCells #[.int .i32 0] (n + 1)) 21)) := (Below.refl _ w).alloc (Nat.le_refl _) _
  have hcm := came_below hc hBm
  have HI := Lib.hid (And.intro hz1 hz2)
  go_enter Try.func9, Try.ntmps9
  go_wp2_with (first
    | (at_builtin; refine append_came rfl (.tmp 17) (.tmp 18) rfl w.heap.size _ 0 [] rfl hom a n cap ls rfl hcm (by omega) (by simp) ?_))
  intro v1 w1 own1 hg1
  have hB1 : Below w.heap.size w w1 := hBm.grown hg1 (by simp) (fun q hq => by simp [Value.ownBlock] at hq; omega)
  clear hom hBm hcm hg1 hmk
  obtain ⟨hz1, hz2⟩ := HI.out
  go_wp2_with (first
    | (at_builtin; refine wpList_append_own _ rfl (.tmp 19) (.tmp 20) 32 rfl w.heap.size 21 i0 (.int .i32 0) 1 4 Try.underlying32 hi hz0 hz1 hz2 rfl (by decide) _ _ _ rfl (own1.alloc _) ⟨w1.heap.size, 0, none⟩ 1 1 [.int .i32 77] rfl rfl (one_new _ _ _) ?c2 ?c3 ?c4 ?c5 ?_))
  case c2 => intro u hu; simp at hu; subst hu; rfl
  case c3 => unfold maxLen; omega
  case c4 => omega
  case c5 => have := hB1.size; simp; omega
  intro v3 w3 own3 hg3 _
  have hB3 : Below w.heap.size w w3 := (hB1.alloc hB1.size _).grown hg3 (by have := hB1.size; simp; omega) (fun q hq => (own1.lt q hq).1)
  obtain ⟨ag, capg, rfl⟩ := own_slice own3
  obtain ⟨gg, rfl, hgg1, hgg2, hgc, hgm⟩ := own_some own3 (by omega)
  have rg : Reads .i32 w3 (.slice (some ⟨gg, 0, none⟩) (n + 1) capg) (ls ++ [77]) := reads_of (base := w.heap.size) (e := 21) (xs := ls ++ [77]) (by rw [List.length_append, HLX.out, List.map_append]; exact own3)
  unfold maxLen at hgm
  clear own1 hg3 hB1 own3 hz1 hz2
  have cellg : ∀ k x, (ls ++ [77])[k]? = some x → w3.cell? ⟨gg, k, none⟩ = some (.int .i32 x) := by
    obtain ⟨a', cap', e1, hcg⟩ := rg
    intro k x hk
    obtain ⟨g, e2, e3⟩ := hcg k x hk
    simp only [Value.slice.injEq] at e1
    rw [← e1.1] at e2
    simp only [Option.some.injEq, Addr.mk.injEq, and_true] at e2
    rw [e2]; exact e3
  have rgl : ∀ w', Below w3.heap.size w3 w' → Reads .i32 w' (.slice (some ⟨gg, 0, none⟩) n capg) ls := by
    intro w' hB
    refine ⟨_, capg, by rw [HLX.out], fun k x hk => ⟨gg, rfl, (hB.cell (p := ⟨gg, k, none⟩) hgg2).trans (cellg k x ?_)⟩⟩
    rw [List.getElem?_append_left (List.getElem?_eq_some_iff.mp hk).1]; exact hk
  have HCG := Lib.hid (And.intro cellg rgl)
  have tok1 : True := trivial
  obtain ⟨m, hm⟩ : ∃ m, m = xs.length := ⟨_, rfl⟩
  have HM := Lib.hid hm
  rw [← hm] at hxl
  unfold Own32 at hall
  unfold Own64 at hrall
  simp only [← hm] at hall hrall
  clear rg cellg rgl hm
  go_wp2_with (first
    | (go_at_call 21; have _t := tok1; refine (hall _).mono ?_; rintro e w4 ⟨⟨va, rfl, oa⟩, hB4⟩; obtain ⟨aa, capa, rfl⟩ := own_slice oa; clear tok1 _t)
    | (go_at_call 21; refine (hall _).mono ?_; rintro e w5 ⟨⟨vb, rfl, ob⟩, hB5⟩; obtain ⟨ab, capb, rfl⟩ := own_slice ob)
    | (go_at_call 26; refine (join_any _ _ ls (HCG.out.2 _ (below_chain hB4 hB5)) (by have := HLX.out; omega)).mono ?_; rintro e w6 ⟨rfl, hB6⟩))
  have oa6 := owns_below (owns_below oa hB5) hB6
  have ob6 := owns_below ob hB6
  have hga : ∀ g, aa = some ⟨g, 0, none⟩ → 0 < m → g < w4.heap.size := by
    intro g hg hm0
    obtain ⟨g', h1, _, h2, _⟩ := own_some oa hm0
    rw [hg] at h1
    simp only [Option.some.injEq, Addr.mk.injEq, and_true] at h1
    omega
  have hB36 : Below w3.heap.size w3 w6 := below_chain (below_chain hB4 hB5) hB6
  have HB := Lib.hid (And.intro hga (And.intro hB4.size hB36))
  clear oa ob hga hB4 hB5 hB6 hB36
  go_loopw [10] (fun i wr => ∃ (k : Nat) (zs : List Value), k ≤ m ∧ i = .int .i64 k ∧ wr.ownsRow w3.heap.size 21 1 (.slice aa m capa) m zs ∧ wr.ownsRow w4.heap.size 21 1 (.slice ab m capb) m (xs.map (Value.int .i32)) ∧ Below w3.heap.size w6 wr) (fun i _ => m - (intOf i).toNat)
  case atStart => exact ⟨0, _, Nat.zero_le _, rfl, oa6, ob6, Below.refl _ _⟩
  case round =>
    obtain ⟨k, zs, hk, rfl, o1, o2, hBr⟩ := hrel
    by_cases hlt : k < m
    · obtain ⟨ga, rfl, hga1, _, hga3, hga4⟩ := own_some o1 (by omega)
      have hga5 := HB.out.1 ga rfl (by omega)
      obtain ⟨z, hz⟩ : ∃ z, zs[k]? = some z := by
        have h1 : zs.length = m * 1 := o1.1
        exact ⟨zs[k]'(by omega), List.getElem?_eq_getElem (by omega)⟩
      have c1 : wr.cell? ⟨ga, k, none⟩ = some z := (o1.cellAt k (by omega)).trans hz
      have f1 : wr.frozen? ⟨ga, k, none⟩ = false := o1.frozenAt k
      have st := o1.stored k (.int .i32 9)
      have o2' := o2.kept st.2 (by
        right
        intro e
        have := (o2.lt ga e).1
        omega)
      have hBr' := hBr.setCell (p := ⟨ga, k, none⟩) hga1 (.int .i32 9)
      have i1 : (k : Int) < (m : Int) := by omega
      have HST := Lib.hid (And.intro st.1 (And.intro o2' hBr'))
      clear st o2' hBr' hz
      go_wp2
      go_roundw
      case rel => exact ⟨k + 1, _, by omega, by go_num, HST.out.1, HST.out.2.1, HST.out.2.2⟩
      case measure => simp [intOf]; omega
    · have hG : Below w3.heap.size w3 wr := HB.out.2.2.trans (hBr.mono (Nat.le_refl _))
      have rb : Reads .i32 wr (.slice ab m capb) xs := reads_of (base := w4.heap.size) (e := 21) (by rw [← HM.out]; exact o2)
      have hxl2 : xs.length ≤ 1048576 := by rw [← HM.out]; exact hxl
      have HXL := Lib.hid hxl2
      have h77 : (ls ++ [77])[n]? = some 77 := by rw [← HLX.out]; simp
      have H77 := Lib.hid h77
      clear o1 o2 hBr h77 hxl2
      go_wp2_with (first
        | (go_at_call 22; refine (hrall _).mono ?_; rintro e w8 ⟨⟨vc, rfl, oc⟩, hB⟩; have rc : Reads .i64 w8 vc xs := reads_of (base := wr.heap.size) (e := 2) (by rw [← HM.out]; exact oc); replace rb := reads_below rb hB; replace hG := hG.trans (hB.mono hG.size); clear oc hB)
        | (go_at_call 17; refine (fixed1_any _).mono ?_; rintro e w9 ⟨rfl, hB⟩; replace rb := reads_below rb hB; replace rc := reads_below rc hB; replace hG := hG.trans (hB.mono hG.size); clear hB)
        | (go_at_call 25; refine (same_yes _ _ _ xs rb rc hx HXL.out).mono ?_; rintro e w10 ⟨rfl, hB⟩; replace hG := hG.trans (hB.mono hG.size); have c77 := (hG.cell (p := ⟨gg, n, none⟩) hgg2).trans (HCG.out.1 n 77 H77.out); clear hB rb rc))
      clear c77
      go_loopw [13] (fun i wt => ∃ k : Nat, k ≤ n ∧ i = .int .i64 k ∧ Below w10.heap.size w10 wt) (fun i _ => n - (intOf i).toNat)
      case atStart => exact ⟨0, Nat.zero_le _, rfl, Below.refl _ _⟩
      case round =>
      obtain ⟨wt, rfl⟩ : ∃ wt : World, wt = wr := ⟨_, rfl⟩
      obtain ⟨j, hj, rfl, hBt⟩ := hrel
      have hG2 := hG.trans (hBt.mono hG.size)
      by_cases hjn : j < n
      · obtain ⟨x, hxk⟩ : ∃ x, ls[j]? = some x := ⟨ls[j]'(by have := HLX.out; omega), List.getElem?_eq_getElem (by have := HLX.out; omega)⟩
        have hcw := came_below hc (hB3.trans (hG2.mono hB3.size))
        obtain ⟨g2, off, rfl, e2⟩ := came_at hcw hxk
        have c1 := (hG2.cell (p := ⟨gg, j, none⟩) hgg2).trans (HCG.out.1 j x (by rw [List.getElem?_append_left (List.getElem?_eq_some_iff.mp hxk).1]; exact hxk))
        have i1 : (j : Int) < (n : Int) := by omega
        have i2 : (j : Int) < (n : Int) + 1 := by omega
        clear hc hcw hxk
        go_wp2
        go_quiet (fail)
        go_wp2
        go_roundw
        case rel => exact ⟨j + 1, by omega, by go_num, below_drewN hBt _⟩
        case measure => simp [intOf]; omega
      · go_wp2
        go_ret
        exact ⟨rfl, hB3.trans (hG2.mono hB3.size)⟩
end Go.Proofs.Ytmlaefdfpekhcaa

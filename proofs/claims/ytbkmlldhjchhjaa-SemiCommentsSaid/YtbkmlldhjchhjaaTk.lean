/-
  Layer 8: contracts of the law's inside, alike, and of the document's Text.
-/
import Derived.Test.YtbkmlldhjchhjaaTj
namespace Go.Proofs.Ytbkmlldhjchhjaa
open Go.ChangeShapes Go.WideShapes Go.ChangeAt Go.RowKit

set_option maxRecDepth 100000 in
set_option maxHeartbeats 4000000 in
theorem inside_any (s : ByteArray) (hs : s.size ≤ 65536) (w : World) (a : Option Addr) (ca : Nat) (L : List (Nat × Nat × Nat)) (hL : Toks w a L) (hO : Ord s.size 0 L) (hn : L.length ≤ maxLen) :
    Calls Try.prog 30 #[.string s, .slice a L.length ca] w fun e w' => e = .returned (.bool true) ∧ Below w.heap.size w w' := by
  unfold maxLen at hn
  obtain ⟨n, hnn⟩ : ∃ n, n = L.length := ⟨_, rfl⟩
  rw [← hnn] at hn ⊢
  have HN := Lib.hid hnn
  have HO := Lib.hid hO
  have HLT := Lib.hid hL
  clear hnn hO hL
  go_enter Try.func30, Try.ntmps30
  go_wp2
  go_loopw [5, 6] (fun pv kv wr => ∃ (k p : Nat), k ≤ n ∧ p ≤ s.size ∧ pv = .int .i64 p ∧ kv = .int .i64 k ∧ Hid (Ord s.size p (L.drop k)) ∧ Below w.heap.size w wr) (fun _ kv _ => n - (intOf kv).toNat)
  case atStart => exact ⟨0, 0, by omega, by omega, rfl, rfl, HO, Below.refl _ _⟩
  case round =>
    obtain ⟨k, p, hk, hp, rfl, rfl, hOr, hB⟩ := hrel
    by_cases hlt : k < n
    · have j1 : (k : Int) < n := by omega
      have hkl : k < L.length := by rw [← HN.out]; exact hlt
      obtain ⟨⟨K, y, z⟩, hx⟩ : ∃ x, L[k]? = some x := ⟨L[k]'hkl, List.getElem?_eq_getElem hkl⟩
      have hd : L.drop k = (K, y, z) :: L.drop (k + 1) := by rw [List.drop_eq_getElem_cons hkl, (List.getElem?_eq_some_iff.1 hx).2]
      have hO2 := hOr.out
      rw [hd] at hO2
      obtain ⟨o1, o2, o3, o4⟩ := hO2
      obtain ⟨g, rfl, c0, c1, c2⟩ := (HLT.out.below hB) k _ hx
      dsimp only at c0 c1 c2 o1 o2 o3 o4
      have HO2 := Lib.hid o4
      have d1 : decide (y < p) = false := decide_eq_false (by omega)
      have d2 : decide (z < y) = false := decide_eq_false (by omega)
      have d3 : decide (s.size < z) = false := decide_eq_false (by omega)
      have j0 : (0 : Int) ≤ k := by omega
      have HB := Lib.hid hB
      clear o4 hd hx hkl hOr hB
      go_wp2
      go_quiet (fail)
      go_wp2
      go_roundw
      case rel => exact ⟨k + 1, z, by omega, by omega, rfl, by go_num, HO2, below_drewN HB.out _⟩
      case measure => simp [intOf]; omega
    · obtain rfl : k = n := by omega
      go_wp2
      go_ret
      exact ⟨rfl, hB⟩
set_option maxHeartbeats 4000000 in
theorem text_any (s : ByteArray) (K y z : Nat) (h : K ≠ 9 → y ≤ z ∧ z ≤ s.size) (w : World) :
    Calls Try.prog 32 #[.string s, .agg #[.int .u8 K, .int .i64 y, .int .i64 z]] w fun e w' => e = .returned (.string ⟨(tx (K, textAt s.data.toList (K, y, z))).2.toArray⟩) ∧ Below w.heap.size w w' := by
  have hB : Below w.heap.size w (w.alloc (.cells #[.int .u8 K, .int .i64 y, .int .i64 z] 26)) := (Below.refl _ _).alloc (Nat.le_refl _) _
  have HB := Lib.hid hB
  clear hB
  by_cases hK : K = 9
  · subst hK
    clear h
    go_enter Try.func32, Try.ntmps32
    go_wp2
    go_ret
    exact ⟨rfl, HB.out⟩
  · obtain ⟨h1, h2⟩ := h hK
    have hsl := fun w => slice_str s y z h1 h2 w
    have k9 : ((K : Int) == 9) = false := int_not (b := 9) hK
    have HX := Lib.hid (show s.extract y z = ⟨(tx (K, textAt s.data.toList (K, y, z))).2.toArray⟩ from ba_ext (by rw [Num.extract_take]; unfold tx; rw [if_neg hK]; rfl))
    clear h hK
    go_enter Try.func32, Try.ntmps32
    go_wp2
    go_ret
    exact ⟨by rw [← HX.out]; rfl, HB.out⟩
theorem toksT_at {l : List UInt8} {S : List (Nat × Nat × Nat)} {k : Nat} {x : Nat × Nat × Nat} (h : S[k]? = some x) : (toksT l S)[k]? = some (tx (x.1, textAt l x)) := by
  unfold toksT
  rw [List.getElem?_map, h]; rfl
set_option maxRecDepth 100000 in
set_option maxHeartbeats 8000000 in
theorem alike_any (s t : ByteArray) (w : World) (a b : Option Addr) (ca cb : Nat) (L M : List (Nat × Nat × Nat)) (hL : Toks w a L) (hM : Toks w b M) (hn : L.length ≤ maxLen) (h1 : ∀ x ∈ L, x.2.1 ≤ x.2.2 ∧ x.2.2 ≤ s.size) (h2 : ∀ x ∈ M, x.2.1 ≤ x.2.2 ∧ x.2.2 ≤ t.size) (hE : toksT s.data.toList L = toksT t.data.toList M) :
    Calls Try.prog 31 #[.string s, .slice a L.length ca, .string t, .slice b M.length cb] w fun e w' => e = .returned (.bool true) ∧ Below w.heap.size w w' := by
  have hl : L.length = M.length := by
    have := congrArg List.length hE
    unfold toksT at this
    rwa [List.length_map, List.length_map] at this
  unfold maxLen at hn
  obtain ⟨n, hnn⟩ : ∃ n, n = M.length := ⟨_, rfl⟩
  rw [hl, ← hnn] at hn ⊢
  rw [← hnn] at hl
  have HN := Lib.hid hnn
  have HNL := Lib.hid hl
  have HE := Lib.hid hE
  have HLT := Lib.hid hL
  have HMT := Lib.hid hM
  have H1 := Lib.hid h1
  have H2 := Lib.hid h2
  clear hnn hl hE hL hM h1 h2
  go_enter Try.func31, Try.ntmps31
  go_wp2
  go_loopw [9] (fun kv wr => ∃ (k : Nat), k ≤ n ∧ kv = .int .i64 k ∧ Below w.heap.size w wr) (fun kv _ => n - (intOf kv).toNat)
  case atStart => exact ⟨0, by omega, rfl, Below.refl _ _⟩
  case round =>
    obtain ⟨k, hk, rfl, hB⟩ := hrel
    by_cases hlt : k < n
    · have j1 : (k : Int) < n := by omega
      have hkl : k < L.length := by rw [HNL.out]; exact hlt
      have hkm : k < M.length := by rw [← HN.out]; exact hlt
      obtain ⟨⟨K, p, z⟩, hx⟩ : ∃ x, L[k]? = some x := ⟨L[k]'hkl, List.getElem?_eq_getElem hkl⟩
      obtain ⟨⟨J, q, r⟩, hy⟩ : ∃ x, M[k]? = some x := ⟨M[k]'hkm, List.getElem?_eq_getElem hkm⟩
      have hq1 := toksT_at (l := s.data.toList) hx
      have hq2 := toksT_at (l := t.data.toList) hy
      rw [HE.out, hq2] at hq1
      have hq3 : tx (J, textAt t.data.toList (J, q, r)) = tx (K, textAt s.data.toList (K, p, z)) := by injection hq1
      have hJK : J = K := congrArg (·.1) hq3
      subst hJK
      obtain ⟨b1, b2⟩ := H1.out _ (List.mem_of_getElem? hx)
      obtain ⟨b3, b4⟩ := H2.out _ (List.mem_of_getElem? hy)
      dsimp only at b1 b2 b3 b4
      have ht1 := fun w => text_any s J p z (fun _ => ⟨b1, b2⟩) w
      have ht2 := fun w => text_any t J q r (fun _ => ⟨b3, b4⟩) w
      rw [hq3] at ht2
      obtain ⟨Y, hY⟩ : ∃ Y : ByteArray, Y = ⟨(tx (J, textAt s.data.toList (J, p, z))).2.toArray⟩ := ⟨_, rfl⟩
      rw [← hY] at ht1 ht2
      obtain ⟨g, rfl, c0, c1, c2⟩ := (HLT.out.below hB) k _ hx
      obtain ⟨g', rfl, e0, e1, e2⟩ := (HMT.out.below hB) k _ hy
      dsimp only at c0 c1 c2 e0 e1 e2
      have hgl := cell_lt c0
      have hgm := cell_lt e0
      have j0 : (0 : Int) ≤ k := by omega
      have HB := Lib.hid hB
      clear hB hx hy hq1 hq2 hq3 hY hkl hkm
      go_wp2
      go_region_held3 (fun w' => w'.cell? ⟨g, k * 3, none⟩ = some (.int .u8 J) ∧ w'.cell? ⟨g, k * 3 + 1, none⟩ = some (.int .i64 p) ∧ w'.cell? ⟨g, k * 3 + 2, none⟩ = some (.int .i64 z) ∧ w'.cell? ⟨g', k * 3, none⟩ = some (.int .u8 J) ∧ w'.cell? ⟨g', k * 3 + 1, none⟩ = some (.int .i64 q) ∧ w'.cell? ⟨g', k * 3 + 2, none⟩ = some (.int .i64 r)) (go_keep)
        (first
          | (go_at_call 32; (with_reducible refine (ht1 _).mono ?_); rintro e w3 ⟨rfl, hB3⟩; (first | (replace hx := hx.trans (hB3.mono hx.size)) | (have hx := (Below.refl _ wr).drew.trans hB3)); have E0 := (hx.cell (p := ⟨g, k * 3, none⟩) hgl).trans c0; have E1 := (hx.cell (p := ⟨g, k * 3 + 1, none⟩) hgl).trans c1; have E2 := (hx.cell (p := ⟨g, k * 3 + 2, none⟩) hgl).trans c2; have F0 := (hx.cell (p := ⟨g', k * 3, none⟩) hgm).trans e0; have F1 := (hx.cell (p := ⟨g', k * 3 + 1, none⟩) hgm).trans e1; have F2 := (hx.cell (p := ⟨g', k * 3 + 2, none⟩) hgm).trans e2; clear hB3)
          | (go_at_call 32; (with_reducible refine (ht2 _).mono ?_); rintro e w3 ⟨rfl, hB3⟩; (first | (replace hx := hx.trans (hB3.mono hx.size)) | (have hx := (Below.refl _ wr).drew.trans hB3)); have E0 := (hx.cell (p := ⟨g, k * 3, none⟩) hgl).trans c0; have E1 := (hx.cell (p := ⟨g, k * 3 + 1, none⟩) hgl).trans c1; have E2 := (hx.cell (p := ⟨g, k * 3 + 2, none⟩) hgl).trans c2; have F0 := (hx.cell (p := ⟨g', k * 3, none⟩) hgm).trans e0; have F1 := (hx.cell (p := ⟨g', k * 3 + 1, none⟩) hgm).trans e1; have F2 := (hx.cell (p := ⟨g', k * 3 + 2, none⟩) hgm).trans e2; clear hB3))
      all_goals go_wp2
      all_goals
        go_roundw
        case rel => exact ⟨k + 1, by omega, by go_num, HB.out.trans (hx.mono HB.out.size)⟩
        case measure => simp [intOf]; omega
    · obtain rfl : k = n := by omega
      go_wp2
      go_ret
      exact ⟨rfl, hB⟩
end Go.Proofs.Ytbkmlldhjchhjaa

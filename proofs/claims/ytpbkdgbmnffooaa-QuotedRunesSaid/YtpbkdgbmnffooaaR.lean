/-
  Layer 6: contract of the document's Quote.
-/
import Derived.Test.YtpbkdgbmnffooaaQ
import Derived.Test.YtpbkdgbmnffooaaL
import Derived.Deep.AppendLies
import Derived.Deep.RegionLaw
import Derived.OwnWalk
namespace Go.Proofs.Ytpbkdgbmnffooaa
open Go.ChangeShapes Go.WideShapes Go.ChangeAt Go.RowKit

theorem row_new (w : World) (xs : List Value) (t : TypeId) : ∀ j u, xs[j]? = some u → (w.alloc (.cells xs.toArray t)).cell? ((⟨w.heap.size, 0, none⟩ : Addr).add j) = some u := by
  intro j u hj
  have ha : (⟨w.heap.size, 0, none⟩ : Addr).add j = ⟨w.heap.size, j, none⟩ := by unfold Addr.add; split <;> simp_all
  rw [ha]
  unfold World.cell?
  have : (w.alloc (.cells xs.toArray t)).heap[w.heap.size]? = some (.cells xs.toArray t (0, 0)) := by show (w.heap.push _)[w.heap.size]? = _; simp
  simp only [this]
  simpa using hj
/-- a row of bytes of a call's own -/
def Own (w : World) (B : Nat) (v : Value) (T : List UInt8) : Prop := w.ownsRow B 5 1 v T.length (bvals T)
theorem Own.grew {w wr w1 : World} {B : Nat} {v v' : Value} {T L : List UInt8} {o : Obj} (h : Own wr B v T) (hB : Below B w wr) (hl : B ≤ wr.heap.size) (ho : w1.ownsRow B 5 1 v' (T.length + L.length) (bvals T ++ bvals L)) (hg : (wr.alloc o).grownBy w1 v.ownBlock) :
    Own w1 B v' (T ++ L) ∧ Below B w w1 := by
  refine ⟨?_, ?_⟩
  · unfold Own; rw [List.length_append, bvals_app]; exact ho
  · exact (hB.alloc hl o).grown hg (by simp; omega) (fun q hq => (World.ownsRow.lt h q hq).1)
theorem Own.own {w : World} {B : Nat} {v : Value} {T : List UInt8} (h : Own w B v T) : w.ownsRow B 5 1 v T.length (bvals T) := h
theorem Own.alloc {w : World} {B : Nat} {v : Value} {T : List UInt8} (h : Own w B v T) (o : Obj) : (w.alloc o).ownsRow B 5 1 v T.length (bvals T) := World.ownsRow.alloc h o
set_option maxHeartbeats 4000000 in
theorem rquote_any (s : ByteArray) (hs : s.size ≤ 1099511627776) (w : World) :
    Calls Try.prog 16 #[.string s] w fun e w' => e = .returned (.string ⟨(quoteOf s.data.toList).toArray⟩) ∧ Below w.heap.size w w' := by
  obtain ⟨i0, hi, hz0, hz1, hz2⟩ := info_parts info5
  have hO : Own (w.alloc (.cells #[.int .u8 34] 5)) w.heap.size (.slice (some ⟨w.heap.size, 0, none⟩) 1 1) (34 :: qbs (s.data.toList.take 0)) := World.ownsRow_lit w #[.int .u8 34] 1 (Nat.le_refl _) (by decide) rfl
  have hB := (Below.refl w.heap.size w).alloc (Nat.le_refl _) (.cells #[.int .u8 34] 5)
  go_enter Try.func16, Try.ntmps16
  go_wp2_with fail
  go_loopw [4, 5] (fun v i wr => ∃ k : Nat, k ≤ s.size ∧ i = .int .i64 k ∧ Own wr w.heap.size v (34 :: qbs (s.data.toList.take k)) ∧ Below w.heap.size w wr) (fun _ i _ => s.size - (intOf i).toNat)
  case atStart => exact ⟨0, Nat.zero_le _, rfl, hO, hB⟩
  case round =>
    clear hO hB
    obtain ⟨k, hk, rfl, hO, hB⟩ := hrel
    have hbs := hB.size
    have hln : (34 :: qbs (s.data.toList.take k)).length ≤ 8796093022208 := by
      rw [List.length_cons]
      have h1 := qbs_len (s.data.toList.take k)
      have h2 := List.length_take_le k s.data.toList
      omega
    by_cases hlt : k < s.size
    · have hsn := qbs_snoc s k hlt
      have HS : 34 :: qbs (s.data.toList.take (k + 1)) = 34 :: qbs (s.data.toList.take k) ++ qb s[k] := by
        rw [hsn, ← List.cons_append]
      obtain ⟨C, hC⟩ : ∃ C, C = 34 :: qbs (s.data.toList.take k) := ⟨_, rfl⟩
      rw [← hC] at hO hln HS
      have HSH := Lib.hid HS
      clear HS hsn hC
      have b34 := bytes_n s[k] 34 34 rfl
      have b92 := bytes_n s[k] 92 92 rfl
      have b10 := bytes_n s[k] 10 10 rfl
      by_cases h10 : s[k] = 10
      · have hq : ¬ (s[k] = 34 ∨ s[k] = 92) := by rw [h10]; decide
        have HQ := Lib.hid (show qb s[k] = [92, 110] by unfold qb; rw [if_neg hq, if_pos h10])
        rw [decide_eq_true h10] at b10
        clear hq b34 b92 h10
        go_wp2_with (at_builtin; refine wpList_append_own _ rfl _ _ 32 rfl w.heap.size 5 i0 (.int .u8 0) 1 1 Try.underlying32 hi hz0 hz1 hz2 rfl (by decide) _ _ _ rfl (hO.alloc _) ⟨wr.heap.size, 0, none⟩ 2 2 (bvals [92, 110]) rfl rfl (row_new _ _ _) ?_ ?_ ?_ ?_ ?_)
        · intro u hu; simp [bvals] at hu; rcases hu with rfl | rfl <;> rfl
        · unfold maxLen; omega
        · omega
        · simp; omega
        intro v' w1 hown' hgrow _
        obtain ⟨hO1, hB1⟩ := hO.grew hB hbs (L := [92, 110]) hown' hgrow
        have hO2 : Own w1 w.heap.size v' (34 :: qbs (s.data.toList.take (k + 1))) := by rw [HSH.out, HQ.out]; exact hO1
        clear hown' hgrow hO1
        go_wp2_with fail
        go_roundw
        case rel => exact ⟨k + 1, by omega, by go_num, hO2, hB1⟩
        case measure => simp [intOf]; omega
      rw [decide_eq_false h10] at b10
      by_cases hq : s[k] = 34 ∨ s[k] = 92
      · have HQ := Lib.hid (show qb s[k] = [92, s[k]] by unfold qb; rw [if_pos hq])
        have hor : ((s[k].toNat : Int) == 34) = true ∨ (((s[k].toNat : Int) == 34) = false ∧ ((s[k].toNat : Int) == 92) = true) := by
          by_cases h : s[k] = 34
          · left; rw [b34]; exact decide_eq_true h
          · right; refine ⟨?_, ?_⟩
            · rw [b34]; exact decide_eq_false h
            · rw [b92]; exact decide_eq_true (hq.resolve_left h)
        clear hq b34 b92 h10
        rcases hor with h1 | ⟨h1, h2⟩
        all_goals
          go_wp2_with (at_builtin; refine wpList_append_own _ rfl _ _ 32 rfl w.heap.size 5 i0 (.int .u8 0) 1 1 Try.underlying32 hi hz0 hz1 hz2 rfl (by decide) _ _ _ rfl (hO.alloc _) ⟨wr.heap.size, 0, none⟩ 2 2 (bvals [92, s[k]]) rfl rfl (row_new _ _ _) ?_ ?_ ?_ ?_ ?_)
          · intro u hu; simp [bvals] at hu; rcases hu with rfl | rfl <;> rfl
          · unfold maxLen; omega
          · omega
          · simp; omega
          intro v' w1 hown' hgrow _
          obtain ⟨hO1, hB1⟩ := hO.grew hB hbs (L := [92, s[k]]) hown' hgrow
          have hO2 : Own w1 w.heap.size v' (34 :: qbs (s.data.toList.take (k + 1))) := by rw [HSH.out, HQ.out]; exact hO1
          clear hown' hgrow hO1
          go_wp2_with fail
          go_roundw
          case rel => exact ⟨k + 1, by omega, by go_num, hO2, hB1⟩
          case measure => simp [intOf]; omega
      have g34 : ((s[k].toNat : Int) == 34) = false := by rw [b34]; exact decide_eq_false fun h => hq (.inl h)
      have g92 : ((s[k].toNat : Int) == 92) = false := by rw [b92]; exact decide_eq_false fun h => hq (.inr h)
      by_cases hp : 32 ≤ s[k].toNat ∧ s[k].toNat ≤ 126
      · have HQ := Lib.hid (show qb s[k] = [s[k]] by unfold qb; rw [if_neg hq, if_neg h10, if_pos hp])
        have p1 : (32 : Int) ≤ (s[k].toNat : Int) := by omega
        have p2 : (s[k].toNat : Int) ≤ 126 := by omega
        clear hq b34 b92 h10 hp
        go_wp2_with (at_builtin; refine wpList_append_own _ rfl _ _ 32 rfl w.heap.size 5 i0 (.int .u8 0) 1 1 Try.underlying32 hi hz0 hz1 hz2 rfl (by decide) _ _ _ rfl (hO.alloc _) ⟨wr.heap.size, 0, none⟩ 1 1 (bvals [s[k]]) rfl rfl (row_new _ _ _) ?_ ?_ ?_ ?_ ?_)
        · intro u hu; simp [bvals] at hu; subst hu; rfl
        · unfold maxLen; omega
        · omega
        · simp; omega
        intro v' w1 hown' hgrow _
        obtain ⟨hO1, hB1⟩ := hO.grew hB hbs (L := [s[k]]) hown' hgrow
        have hO2 : Own w1 w.heap.size v' (34 :: qbs (s.data.toList.take (k + 1))) := by rw [HSH.out, HQ.out]; exact hO1
        clear hown' hgrow hO1
        go_wp2_with fail
        go_roundw
        case rel => exact ⟨k + 1, by omega, by go_num, hO2, hB1⟩
        case measure => simp [intOf]; omega
      · have HQ := Lib.hid (show qb s[k] = [92, 120, hexd (s[k].toNat / 16), hexd (s[k].toNat % 16)] by unfold qb; rw [if_neg hq, if_neg h10, if_neg hp])
        have hlt' := s[k].toNat_lt
        have hp2 : ¬ (32 : Int) ≤ (s[k].toNat : Int) ∨ ((32 : Int) ≤ (s[k].toNat : Int) ∧ ¬ (s[k].toNat : Int) ≤ 126) := by omega
        clear hq b34 b92 h10 hp
        rcases hp2 with p1 | ⟨p1, p2⟩
        all_goals
          obtain ⟨n1, hn1⟩ : ∃ n1, n1 = s[k].toNat / 16 := ⟨_, rfl⟩
          obtain ⟨n2, hn2⟩ : ∃ n2, n2 = s[k].toNat % 16 := ⟨_, rfl⟩
          have l1 : n1 < 16 := by omega
          have l2 : n2 < 16 := by omega
          have l1' : (n1 : Int) < 16 := by omega
          have l2' : (n2 : Int) < 16 := by omega
          have q1 : IntKind.u8.wrap (n1 : Int) = (n1 : Int) := by rw [IntKind.wrap_u8]; omega
          have q2 : IntKind.u8.wrap (n2 : Int) = (n2 : Int) := by rw [IntKind.wrap_u8]; omega
          have q3 : (s[k].toNat : Int) / 16 = (n1 : Int) := by omega
          have q4 : Int.tmod (s[k].toNat : Int) 16 = (n2 : Int) := by rw [Int.tmod_eq_emod_of_nonneg (by omega)]; omega
          have x1 := hex_at n1 l1
          have x2 := hex_at n2 l2
          have HN := Lib.hid (And.intro hn1 hn2)
          clear hn1 hn2
          go_upto_region 13 with fail
          go_region_law (refine step_append_lies _ rfl _ _ 32 rfl w.heap.size 5 i0 (.int .u8 0) 1 1 Try.underlying32 hi hz0 hz1 hz2 rfl (by decide) _ _ _ rfl (World.ownsRow.drew (hO.alloc _)) ⟨wr.heap.size, 0, none⟩ 4 4 (bvals [92, 120, hexd n1, hexd n2]) rfl rfl (fun j u h => row_new wr _ _ j u h) (by intro u hu; simp [bvals] at hu; rcases hu with rfl | rfl | rfl | rfl <;> rfl) (by omega) (by unfold maxLen; omega) (by omega) (by simp; omega) _ rfl ?_; intro g' cap' w4 hown3 hg3 hat hlt4; have G1 := Own.grew (wr := wr.drew) (L := [92, 120, hexd n1, hexd n2]) hO hB.drew hbs hown3 hg3; have G2 := Lib.hid G1; clear G1 hown3 hg3 hat hlt4)
          all_goals
            have hO2 := Lib.hid (show Own w4 w.heap.size _ (34 :: qbs (s.data.toList.take (k + 1))) by rw [HSH.out, HQ.out, ← HN.out.1, ← HN.out.2]; exact G2.out.1)
            go_wp2_with fail
            go_roundw
            case rel => exact ⟨k + 1, by omega, by go_num, hO2.out, G2.out.2⟩
            case measure => simp [intOf]; omega
    · have hk' : k = s.size := by omega
      rw [show s.data.toList.take k = s.data.toList by rw [List.take_of_length_le (by simp; omega)]] at hO hln
      obtain ⟨C, hC⟩ : ∃ C, C = 34 :: qbs s.data.toList := ⟨_, rfl⟩
      have HQ := Lib.hid (show quoteOf s.data.toList = C ++ [34] by rw [hC]; rfl)
      rw [← hC] at hO hln
      clear hk' hC
      go_wp2_with (at_builtin; refine wpList_append_own _ rfl _ _ 32 rfl w.heap.size 5 i0 (.int .u8 0) 1 1 Try.underlying32 hi hz0 hz1 hz2 rfl (by decide) _ _ _ rfl (hO.alloc _) ⟨wr.heap.size, 0, none⟩ 1 1 (bvals [34]) rfl rfl (row_new _ _ _) ?_ ?_ ?_ ?_ ?_)
      · intro u hu; simp [bvals] at hu; subst hu; rfl
      · unfold maxLen; omega
      · omega
      · simp; omega
      intro v' w1 hown' hgrow _
      obtain ⟨hO1, hB1⟩ := hO.grew hB hbs (L := [34]) hown' hgrow
      have hcv := conv_own hO1.own
      rw [← HQ.out] at hcv
      clear hown' hgrow
      go_wp2_with fail
      go_ret
      exact ⟨rfl, hB1⟩
end Go.Proofs.Ytpbkdgbmnffooaa

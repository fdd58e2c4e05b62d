/-
  Layer 6: the law QuotedRaw: the walk.
-/
import Derived.Test.YtpbkdgbmnffooaaZ
import Derived.Test.YtpbkdgbmnffooaaMb
namespace Go.Proofs.Ytpbkdgbmnffooaa
open Go.ChangeShapes Go.WideShapes Go.ChangeAt Go.RowKit

/-- the bytes of a text but those that are 96 -/
def noTick (l : List UInt8) : List UInt8 := l.filter fun c => !decide (c = 96)
def noRet (l : List UInt8) : List UInt8 := l.filter fun c => !decide (c = 13)
theorem noTick_snoc (s : ByteArray) (k : Nat) (h : k < s.size) : noTick (s.data.toList.take (k + 1)) = noTick (s.data.toList.take k) ++ if s[k] = 96 then [] else [s[k]] := by
  rw [List.take_succ_eq_append_getElem (by simpa using h)]
  unfold noTick
  rw [List.filter_append, show s.data.toList[k]'(by simpa using h) = s[k] by simp [ByteArray.getElem_eq_getElem_data]]
  congr 1
  by_cases hc : s[k] = 96 <;> simp [hc]
theorem noRet_app (a b : List UInt8) : noRet (a ++ b) = noRet a ++ noRet b := List.filter_append ..
theorem noTick_le (l : List UInt8) : (noTick l).length ≤ l.length := List.length_filter_le _ _
theorem noRet_le (l : List UInt8) : (noRet l).length ≤ l.length := List.length_filter_le _ _
theorem noTick_ne (l : List UInt8) : ∀ c ∈ noTick l, c ≠ 96 := by
  intro c hc
  have := (List.mem_filter.1 hc).2
  simpa using this
/-- two rows that share no block -/
def Apart (v u : Value) : Prop := ∀ g, v.ownBlock = some g → u.ownBlock ≠ some g
theorem Apart.symm {v u : Value} (h : Apart v u) : Apart u v := fun g hu hv => h g hv hu
theorem Apart.kept {wr w1 : World} {B : Nat} {v u : Value} {T : List UInt8} {o : Obj} (h : Apart v u) (hU : Own wr B u T) (hg : (wr.alloc o).grownBy w1 v.ownBlock) : Own w1 B u T := by
  refine World.ownsRow.kept (hU.alloc o) hg ?_
  cases hu : u.ownBlock with
  | none => exact .inl rfl
  | some g => exact .inr fun e => h g e.symm hu
theorem Apart.grew {wr : World} {B g n c : Nat} {v u : Value} {T : List UInt8} (h : Apart v u) (hU : Own wr B u T) (hat : v.ownBlock = some g ∨ g = wr.heap.size + 1) : Apart (.slice (some ⟨g, 0, none⟩) n c) u := by
  intro g' hg' hu
  have e : g = g' := by simpa [Value.ownBlock] using hg'
  subst e
  rcases hat with hv | hg
  · exact h g hv hu
  · have := (World.ownsRow.lt hU g hu).2
    omega
theorem lit_cells (c : UInt8) : ∀ u ∈ bvals [c], u.oneCell' = true := by
  intro u hu; simp [bvals] at hu; subst hu; rfl
set_option maxRecDepth 100000 in
set_option maxHeartbeats 4000000 in
theorem lawraw_any (s : ByteArray) (hs : s.size ≤ 1048576) (w : World) :
    Calls Try.prog 7 #[.string s] w fun e w' => e = .returned (.bool true) ∧ Below w.heap.size w w' := by
  obtain ⟨i0, hi, hz0, hz1, hz2⟩ := info_parts info5
  go_enter Try.func7, Try.ntmps7
  go_wp2
  go_loopw [3, 4, 5] (fun v u iv wr => ∃ (k : Nat), k ≤ s.size ∧ iv = .int .i64 k ∧ Own wr w.heap.size v (noTick (s.data.toList.take k)) ∧ Own wr w.heap.size u (noRet (noTick (s.data.toList.take k))) ∧ Apart v u ∧ Below w.heap.size w wr) (fun _ _ iv _ => s.size - (intOf iv).toNat)
  case atStart => exact ⟨0, Nat.zero_le _, rfl, World.ownsRow_nil _ _ _ _, World.ownsRow_nil _ _ _ _, (fun g h => by cases h), Below.refl _ _⟩
  case round =>
    obtain ⟨k, hk, rfl, hO, hU, hap, hB⟩ := hrel
    have hbs := hB.size
    by_cases hlt : k < s.size
    · have i1 : (k : Int) < s.size := by omega
      have i2 : (0 : Int) ≤ k := by omega
      have b96 := bytes_n s[k] 96 96 rfl
      have b13 := bytes_n s[k] 13 13 rfl
      have hsn := noTick_snoc s k hlt
      have hln : (noTick (s.data.toList.take k)).length ≤ 1048576 := by
        have h1 := noTick_le (s.data.toList.take k)
        have h2 := List.length_take_le k s.data.toList
        omega
      have hln2 : (noRet (noTick (s.data.toList.take k))).length ≤ 1048576 := by
        have h1 := noRet_le (noTick (s.data.toList.take k))
        omega
      by_cases h96 : s[k] = 96
      · rw [if_pos h96, List.append_nil] at hsn
        rw [decide_eq_true h96] at b96
        rw [← hsn] at hO hU
        clear hsn h96 b13 hln hln2
        go_wp2
        go_roundw
        case rel => exact ⟨k + 1, by omega, by go_num, hO, hU, hap, hB⟩
        case measure => simp [intOf]; omega
      · rw [if_neg h96] at hsn
        rw [decide_eq_false h96] at b96
        have HS := Lib.hid hsn
        obtain ⟨C, hC⟩ : ∃ C, C = noTick (s.data.toList.take k) := ⟨_, rfl⟩
        rw [← hC] at hO hU hln hln2 HS
        have HR := Lib.hid (show noRet (noTick (s.data.toList.take (k + 1))) = noRet C ++ noRet [s[k]] by rw [HS.out, noRet_app])
        clear hsn h96 hC
        by_cases h13 : s[k] = 13
        · rw [decide_eq_true h13] at b13
          have g13 : ((s[k].toNat : Int) != 13) = false := by rw [bne, b13]; rfl
          have HR2 := Lib.hid (show noRet (noTick (s.data.toList.take (k + 1))) = noRet C by rw [HR.out]; unfold noRet; simp [h13])
          clear HR h13 b13
          go_wp2_with (at_builtin; refine wpList_append_lies _ rfl _ _ 32 rfl w.heap.size 5 i0 (.int .u8 0) 1 1 Try.underlying32 hi hz0 hz1 hz2 rfl (by decide) _ _ _ rfl (hO.alloc _) ⟨wr.heap.size, 0, none⟩ 1 1 (bvals [s[k]]) rfl rfl (row_new _ _ _) (lit_cells _) (by omega) (by unfold maxLen; omega) (by omega) (by simp; omega) (wr.heap.size + 1) (by simp) ?_)
          intro g cap w1 hown' hgrow hat _
          obtain ⟨hO1, hB1⟩ := hO.grew hB hbs (L := [s[k]]) hown' hgrow
          have hU1 := hap.kept hU hgrow
          have hap1 : Apart (.slice (some ⟨g, 0, none⟩) (C.length + 1) cap) _ := hap.grew hU hat
          rw [← HS.out] at hO1
          rw [← HR2.out] at hU1
          clear hown' hgrow hat
          go_wp2_with fail
          go_roundw
          case rel => exact ⟨k + 1, by omega, by go_num, hO1, hU1, hap1, hB1⟩
          case measure => simp [intOf]; omega
        · rw [decide_eq_false h13] at b13
          have g13 : ((s[k].toNat : Int) != 13) = true := by rw [bne, b13]; rfl
          have HR2 := Lib.hid (show noRet (noTick (s.data.toList.take (k + 1))) = noRet C ++ [s[k]] by rw [HR.out]; unfold noRet; simp [h13])
          clear HR h13 b13
          go_wp2_with (at_builtin; refine wpList_append_lies _ rfl _ _ 32 rfl w.heap.size 5 i0 (.int .u8 0) 1 1 Try.underlying32 hi hz0 hz1 hz2 rfl (by decide) _ _ _ rfl (hO.alloc _) ⟨wr.heap.size, 0, none⟩ 1 1 (bvals [s[k]]) rfl rfl (row_new _ _ _) (lit_cells _) (by omega) (by unfold maxLen; omega) (by omega) (by simp; omega) (wr.heap.size + 1) (by simp) ?_)
          intro g cap w1 hown' hgrow hat _
          obtain ⟨hO1, hB1⟩ := hO.grew hB hbs (L := [s[k]]) hown' hgrow
          have hU1 := hap.kept hU hgrow
          have hap1 : Apart (.slice (some ⟨g, 0, none⟩) (C.length + 1) cap) _ := hap.grew hU hat
          rw [← HS.out] at hO1
          clear hown' hgrow hat
          have hbs1 := hB1.size
          go_wp2_with (at_builtin; refine wpList_append_lies _ rfl _ _ 32 rfl w.heap.size 5 i0 (.int .u8 0) 1 1 Try.underlying32 hi hz0 hz1 hz2 rfl (by decide) _ _ _ rfl (hU1.alloc _) ⟨w1.heap.size, 0, none⟩ 1 1 (bvals [s[k]]) rfl rfl (row_new _ _ _) (lit_cells _) (by omega) (by unfold maxLen; omega) (by omega) (by simp; omega) (w1.heap.size + 1) (by simp) ?_)
          intro g2 cap2 w2 hown2 hgrow2 hat2 _
          obtain ⟨hU2, hB2⟩ := hU1.grew hB1 hbs1 (L := [s[k]]) hown2 hgrow2
          have hO2 := hap1.symm.kept hO1 hgrow2
          have hap2 : Apart (.slice (some ⟨g2, 0, none⟩) ((noRet C).length + 1) cap2) _ := hap1.symm.grew hO1 hat2
          rw [← HR2.out] at hU2
          clear hown2 hgrow2 hat2
          go_wp2_with fail
          go_roundw
          case rel => exact ⟨k + 1, by omega, by go_num, hO2, hU2, hap2.symm, hB2⟩
          case measure => simp [intOf]; omega
    · have hke : k = s.size := by omega
      have i1 : ¬ (k : Int) < s.size := by omega
      rw [hke, List.take_of_length_le (l := s.data.toList) (by simp)] at hO hU
      obtain ⟨C, hC⟩ : ∃ C, C = noTick s.data.toList := ⟨_, rfl⟩
      have hCl : C.length ≤ 1048576 := by
        rw [hC]
        have h1 := noTick_le s.data.toList
        simp at h1; omega
      have hne : ∀ c ∈ C, c ≠ 96 := by rw [hC]; exact noTick_ne _
      rw [← hC] at hO hU
      have hcv := conv_own hO.own
      obtain ⟨I, hI⟩ : ∃ I : ByteArray, I = ⟨C.toArray⟩ := ⟨_, rfl⟩
      have hIl : I.data.toList = C := by rw [hI]
      have hIs : I.size ≤ 1048576 := by rw [hI]; exact hCl
      have hval : ∀ w, Calls Try.prog 13 #[.string ((⟨#[96]⟩ : ByteArray) ++ I ++ ⟨#[96]⟩)] w fun e w' => e = .returned (.tuple #[.string ⟨(noRet C).toArray⟩, .int .i64 0]) ∧ Below w.heap.size w w' := fun w => by
        have hz : ((⟨#[96]⟩ : ByteArray) ++ I ++ ⟨#[96]⟩).size ≤ 140737488351232 := by
          rw [ByteArray.size_append, ByteArray.size_append]
          have : (⟨#[96]⟩ : ByteArray).size = 1 := rfl
          omega
        have h := value_any ((⟨#[96]⟩ : ByteArray) ++ I ++ ⟨#[96]⟩) hz w
        have hx : ((⟨#[96]⟩ : ByteArray) ++ I ++ ⟨#[96]⟩).data.toList = 96 :: (C ++ [96]) := by
          rw [ByteArray.data_append, ByteArray.data_append, Array.toList_append, Array.toList_append, hIl]; rfl
        rw [hx, raw_value C hne] at h
        exact h
      rw [← hI] at hcv
      clear hke hlt hC hne hI hIl
      go_wp2_with (first
        | (go_at_call 13; refine (hval _).mono ?_; rintro e w1 ⟨rfl, hB1⟩)
        | (go_at_call 12; refine (fixed_any _).mono ?_; rintro e w2 ⟨rfl, hB2⟩; have hcv2 := conv_own ((hU.below hB1).below hB2).own; replace hB := (hB.trans (hB1.mono hbs)).trans (hB2.mono (Nat.le_trans hbs hB1.size)); clear hB1 hB2))
      go_ret
      exact ⟨rfl, hB⟩
end Go.Proofs.Ytpbkdgbmnffooaa

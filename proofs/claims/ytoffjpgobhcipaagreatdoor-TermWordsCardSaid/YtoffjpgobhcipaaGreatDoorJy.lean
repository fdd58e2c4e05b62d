/-
  Layer 11: the laws TermChecks and TermWords.
-/
import Derived.Test.YtoffjpgobhcipaaGreatDoorKf
import Derived.Test.YtoffjpgobhcipaaGreatDoorIs
namespace Go.Proofs.YtoffjpgobhcipaaGreatDoor.Trm
open Go.ChangeShapes Go.WideShapes Go.ChangeAt Go.RowKit

set_option maxRecDepth 100000 in
set_option maxHeartbeats 4000000 in
theorem lawchecks_any (w : World) (a : Option Addr) (n cap : Nat) (l : List Pt) (hl : Parts w a n l) (hn : n ≤ 4398046511104) (hW : WordsFit l) (hK : KindsFit l) (hF : KidsFit l) (hTab : Tab w) (hE : Errs w) :
    Calls Tryz.prog 3 #[.slice a n cap] w fun e w' => e = .returned (.bool true) ∧ Below w.heap.size w w' := by
  have HT := Lib.hid hTab
  have HE := Lib.hid hE
  have HL := Lib.hid hl
  have hg := great_any w a n cap l hl hn hW
  have hwe := fun w (h : Parts w a n l) => well_any w a n cap l h hn
  have hch := fun w (h : Parts w a n l) => check_any w a n cap l h hn hW
  have HRW : Hid (n ≤ 2000 → ∀ w, Parts w a n l → Calls Tryz.prog 12 #[.slice a n cap] w fun e w' => e = .returned (.bool (wellB (kidsP l))) ∧ w = w') := Lib.hid (fun h2 w h => rwell_any w a n cap l h h2)
  have HRC : Hid (n + totW l ≤ 2000 → ∀ w, Parts w a n l → Calls Tryz.prog 14 #[.slice a n cap] w fun e w' => e = .returned (.int .i64 (checkP l)) ∧ Below w.heap.size w w') := Lib.hid (fun h2 w h => rcheck_any w a n cap l h (by omega) (fun x hx => by have := totW_mem hx; omega) hK hF)
  generalize wellB (kidsP l) = b at hwe HRW
  generalize checkP l = c at hch HRC
  clear hTab hE hl
  go_enter Tryz.func3, Tryz.ntmps3
  go_upto_if 4 with (go_at_call 9; refine hg.mono ?_; rintro e w2 ⟨⟨r, rfl, hr⟩, rfl⟩)
  cases r with
  | true =>
    go_wp2_with (go_at_call 10; refine (fixed_any _ HT.out HE.out).mono ?_; rintro e w3 ⟨rfl, hB3⟩)
    go_ret
    exact ⟨rfl, hB3⟩
  | false =>
    have h0 := hr rfl
    have h1 := HRW.out (by omega)
    have h2 := HRC.out h0
    have hbb : (b == b) = true := by simp
    clear hr h0
    go_wp2_with (first
      | (go_at_call 10; refine (fixed_any _ HT.out HE.out).mono ?_; rintro e w3 ⟨rfl, hB3⟩; have HB3 := Lib.hid hB3; clear hB3)
      | (go_at_call 11; refine (hwe _ (parts_below HL.out HB3.out)).mono ?_; rintro e w4 ⟨rfl, hB4⟩; have HB4 := Lib.hid (HB3.out.trans (hB4.mono HB3.out.size)); clear hB4)
      | (go_at_call 12; refine (h1 _ (parts_below HL.out HB4.out)).mono ?_; rintro e w5 ⟨rfl, rfl⟩)
      | (go_at_call 13; refine (hch _ (parts_below HL.out HB4.out)).mono ?_; rintro e w6 ⟨rfl, hB6⟩; have HB6 := Lib.hid (HB4.out.trans (hB6.mono HB4.out.size)); clear hB6)
      | (go_at_call 14; refine (h2 _ (parts_below HL.out HB6.out)).mono ?_; rintro e w7 ⟨rfl, hB7⟩; have HB7 := Lib.hid (HB6.out.trans (hB7.mono HB6.out.size)); clear hB7))
    go_ret
    exact ⟨by simp, HB7.out⟩
theorem well_rep (M : Nat) (hM : M ≤ 6) (k : Nat) (s : ByteArray) : wellB (kidsP (⟨k, (M : Int), s⟩ :: List.replicate M pt0)) = true := by
  have h : ∀ M : Fin 7, wellB (((M.1 : Nat) : Int) :: List.replicate M.1 0) = true := by decide
  have h1 := h ⟨M, by omega⟩
  have h2 : kidsP (⟨k, (M : Int), s⟩ :: List.replicate M pt0) = ((M : Nat) : Int) :: List.replicate M 0 := by
    unfold kidsP
    rw [List.map_cons, List.map_replicate]
    rfl
  rw [h2]; exact h1
set_option maxRecDepth 100000 in
set_option maxHeartbeats 4000000 in
theorem lawwords_any (w : World) (k q : Nat) (hk : k ≤ 255) (hq : q ≤ 255) (s : ByteArray) (hTab : Tab w) (hE : Errs w) :
    Calls Tryz.prog 4 #[.int .u8 k, .int .u8 q, .string s] w fun e w' => e = .returned (.bool true) ∧ Below w.heap.size w w' := by
  have HT := Lib.hid hTab
  have HE := Lib.hid hE
  clear hTab hE
  by_cases hbig : (400 : Int) < s.size
  · go_enter Tryz.func4, Tryz.ntmps4
    go_wp2_with (go_at_call 10; refine (fixed_any _ HT.out HE.out).mono ?_; rintro e w3 ⟨rfl, hB3⟩)
    go_ret
    exact ⟨rfl, hB3⟩
  obtain ⟨M, hM⟩ : ∃ M, M = q % 7 := ⟨_, rfl⟩
  have hM6 : M ≤ 6 := by omega
  have q2 : (q : Int).tmod 7 = (M : Int) := by rw [Int.tmod_eq_emod_of_nonneg (by omega)]; omega
  have q1 : IntKind.i64.wrap (q : Int) = q := by rw [IntKind.wrap_i64]; omega
  have q3 : IntKind.i64.wrap (M : Int) = M := by rw [IntKind.wrap_i64]; omega
  have HM0 : Hid (MineP (w.alloc (.cells #[.int .u8 k, .int .i64 M, .string s] 28)) w.heap.size (.slice (some ⟨w.heap.size, 0, none⟩) 1 1) (⟨k, (M : Int), s⟩ :: List.replicate 0 pt0)) := Lib.hid (mineP_one (p := ⟨k, (M : Int), s⟩) (Nat.le_refl _))
  have HB0 : Hid (Below w.heap.size w (w.alloc (.cells #[.int .u8 k, .int .i64 M, .string s] 28))) := Lib.hid ((Below.refl _ w).alloc (Nat.le_refl _) _)
  obtain ⟨i1, hi1, hy0, hy1, hy2⟩ := info_parts info28z
  have F1 := Lib.hid hi1
  have F2 := Lib.hid hy0
  have F3 := Lib.hid hy1
  have F4 := Lib.hid hy2
  clear hi1 hy0 hy1 hy2 hM
  go_enter Tryz.func4, Tryz.ntmps4
  go_wp2
  go_loopw [7, 8] (fun lv jv wr => ∃ j, j ≤ M ∧ jv = .int .i64 (j : Int) ∧ Hid (MineP wr w.heap.size lv (⟨k, (M : Int), s⟩ :: List.replicate j pt0)) ∧ Hid (Below w.heap.size w wr)) (fun _ jv _ => M - (intOf jv).toNat)
  case atStart => exact ⟨0, Nat.zero_le _, rfl, HM0, HB0⟩
  case round =>
    obtain ⟨j, hj, rfl, HM, HB⟩ := hrel
    by_cases hlt : j < M
    · go_wp2_with (at_builtin; refine wpList_append_own _ rfl _ _ 22 rfl w.heap.size 28 i1 (.agg #[.int .u8 0, .int .i64 0, .string ⟨#[]⟩]) 3 32 Tryz.underlying22 F1.out F2.out F3.out F4.out rfl (by decide) _ _ _ rfl (HM.out.alloc _) ⟨_, 0, none⟩ 1 1 [.int .u8 0, .int .i64 0, .string ⟨#[]⟩] rfl rfl (three_at (by simp)) (by intro u hu; simp at hu; rcases hu with rfl | rfl | rfl <;> rfl) ?d3 ?d4 ?d5 ?_)
      case d3 => unfold maxLen; simp only [List.length_cons, List.length_replicate]; omega
      case d4 => simp only [List.length_cons, List.length_replicate]; omega
      case d5 => have := HB.out.size; simp; omega
      intro v3 w3 hown3 hg3 _
      have HM3 : Hid (MineP w3 w.heap.size v3 (⟨k, (M : Int), s⟩ :: List.replicate (j + 1) pt0)) := Lib.hid (by
        rw [List.replicate_succ', ← List.cons_append]
        exact mineP_snoc (x := pt0) (by rw [List.length_cons, List.length_replicate]; exact hown3))
      have HB3 := Lib.hid (((HB.out.alloc HB.out.size _).grown hg3 (by have := HB.out.size; simp; omega) (fun x hx => (HM.out.lt x hx).1)))
      clear hown3 hg3
      go_wp2
      go_roundw
      case rel => exact ⟨j + 1, hlt, by go_num, HM3, HB3⟩
      case measure => simp [intOf]; omega
    · obtain rfl : j = M := by omega
      obtain ⟨a, cap, rfl, hP, _, _⟩ := mineP_parts HM.out
      have hll : (((⟨k, (j : Int), s⟩ : Pt) :: List.replicate j pt0)).length = j + 1 := by simp
      have hWW : ∀ x ∈ ((⟨k, (j : Int), s⟩ : Pt) :: List.replicate j pt0), x.word.size ≤ 400 ∧ x.kind ≤ 255 ∧ 0 ≤ x.kids ∧ x.kids ≤ 6 := by
        intro x hx
        rcases List.mem_cons.1 hx with rfl | hx
        · exact ⟨by show s.size ≤ 400; omega, hk, by simp, by simp; omega⟩
        · rw [List.eq_of_mem_replicate hx]
          exact ⟨by decide, by decide, by decide, by decide⟩
      have hwl := well_rep j hM6 k s
      have HP := Lib.hid hP
      generalize ((⟨k, (j : Int), s⟩ : Pt) :: List.replicate j pt0) = L at HP hll hWW hwl
      have hwe := fun w (h : Parts w a L.length L) => well_any w a L.length cap L h (by omega)
      rw [hwl] at hwe
      have hch := fun w (h : Parts w a L.length L) => check_any w a L.length cap L h (by omega) (fun x hx => by have := (hWW x hx).1; omega)
      have hrc := fun w (h : Parts w a L.length L) => rcheck_any w a L.length cap L h (by omega) (fun x hx => by have := (hWW x hx).1; omega) (fun x hx => (hWW x hx).2.1) (fun x hx => by have := (hWW x hx).2.2; omega)
      generalize checkP L = c at hch hrc
      clear hP hll hWW hwl HM
      go_wp2_with (first
        | (go_at_call 10; refine (fixed_any _ (tab_below HT.out HB.out) (errs_below HE.out HB.out)).mono ?_; rintro e w3 ⟨rfl, hB3⟩; have HB3 := Lib.hid (HB.out.trans (hB3.mono HB.out.size)); have hP3 := parts_below HP.out hB3; clear hB3)
        | (go_at_call 11; refine (hwe _ hP3).mono ?_; rintro e w4 ⟨rfl, hB4⟩; have HB4 := Lib.hid (HB3.out.trans (hB4.mono HB3.out.size)); have hP4 := parts_below hP3 hB4; clear hB4)
        | (go_at_call 13; refine (hch _ hP4).mono ?_; rintro e w6 ⟨rfl, hB6⟩; have HB6 := Lib.hid (HB4.out.trans (hB6.mono HB4.out.size)); have hP6 := parts_below hP4 hB6; clear hB6)
        | (go_at_call 14; refine (hrc _ hP6).mono ?_; rintro e w7 ⟨rfl, hB7⟩; have HB7 := Lib.hid (HB6.out.trans (hB7.mono HB6.out.size)); clear hB7))
      go_ret
      exact ⟨by simp, HB7.out⟩
end Go.Proofs.YtoffjpgobhcipaaGreatDoor.Trm

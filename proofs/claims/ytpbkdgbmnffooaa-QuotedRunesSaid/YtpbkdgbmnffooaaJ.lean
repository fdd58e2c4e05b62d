/-
  Layer 6: contracts of the reader's read and of quoted.Scan.
-/
import Derived.Test.YtpbkdgbmnffooaaI
import Derived.OwnWalk
namespace Go.Proofs.Ytpbkdgbmnffooaa
open Go.ChangeShapes Go.WideShapes Go.ChangeAt Go.RowKit

/-- the text in marks that begins at a place: its kind, what it says, where it ends -/
def readOf (l : List UInt8) (k : Nat) : Option (Nat × List UInt8 × Nat) :=
  if l[k]? = some 96 then (rawOf (k + 1) [] (l.drop (k + 1))).map fun x => (7, x)
  else if l[k]? = some 34 then (strOf l (l.length - (k + 1)) (k + 1) []).map fun x => (7, x)
  else if l[k]? = some 39 then (runeOf l (k + 1) []).map fun x => (6, x)
  else none
def kindAns (o : Option (Nat × List UInt8 × Nat)) : Nat := match o with | some (K, _) => K | none => 0

set_option maxRecDepth 100000 in
set_option maxHeartbeats 8000000 in
theorem reader_any (s : ByteArray) (hs : s.size ≤ 140737488351232) (b k : Nat) (v : Value) (w : World) (hR : Rd w b s k v []) (hk : k < s.size) :
    Calls Try.prog 20 #[.pointer (some ⟨b, 0, none⟩)] w fun e w' => e = .returned (.int .u8 (kindAns (readOf s.data.toList k))) ∧ (∀ K L k', readOf s.data.toList k = some (K, L, k') → (∃ v', Rd w' b s k' v' L)) ∧ Below b w w' := by
  have hl : s.data.toList.length = s.size := by simp
  have c0 := hR.c0
  have c1 := hR.c1
  have f1 := hR.f 1
  have d2 : (k : Int) < s.size := by omega
  have d3 : (0 : Int) ≤ k := by omega
  have w1 : IntKind.i64.wrap ((k : Int) + 1) = (k : Int) + 1 := by rw [IntKind.wrap_i64]; omega
  have HM := Lib.hid (show ∀ m, Rd ((w.drewN m).setCell ⟨b, 1, none⟩ (.int .i64 ((k : Int) + 1))) b s (k + 1) v [] from fun m => (hR.drewN m).move (k + 1) (by omega))
  have hBm := Lib.hid (show ∀ m, Below b w ((w.drewN m).setCell ⟨b, 1, none⟩ (.int .i64 ((k : Int) + 1))) from fun m => (below_drewN (Below.refl b w) m).setCell (p := ⟨b, 1, none⟩) (Nat.le_refl _) _)
  obtain ⟨A, hA⟩ : ∃ A, A = readOf s.data.toList k := ⟨_, rfl⟩
  rw [← hA]
  unfold readOf at hA
  rw [at_of s k hk, hl] at hA
  have b96 := bytes_n s[k] 96 96 rfl
  have b34 := bytes_n s[k] 34 34 rfl
  have b39 := bytes_n s[k] 39 39 rfl
  by_cases h96 : s[k] = 96
  · rw [if_pos (by rw [h96])] at hA
    rw [decide_eq_true h96] at b96
    have hcn : (s[k].toNat : Int) = 96 := by rw [h96]; rfl
    have hc := fun m => raw_any s hs b (k + 1) v [] (by simp) _ (HM.out m)
    obtain ⟨X, hX⟩ : ∃ X, X = rawOf (k + 1) [] (s.data.toList.drop (k + 1)) := ⟨_, rfl⟩
    rw [← hX] at hc hA
    clear hX h96 b96 b34 b39 hR
    cases X with
    | none =>
      have hz : A = none := hA
      subst hz
      clear hA
      go_enter Try.func20, Try.ntmps20
      go_upto_region 1 with fail
      go_quiet (fail)
      go_wp2_with (go_at_call 26; refine (hc _).mono ?_; rintro e w2 ⟨he, _, hB2⟩; have he' : e = .returned (.bool false) := he; clear he; subst he')
      go_ret
      (first | exact ⟨rfl, (fun _ _ _ h => by cases h), (hBm.out _).trans hB2⟩ | exact ⟨rfl, (hBm.out _).trans hB2⟩)
    | some x =>
      obtain ⟨L, k'⟩ := x
      have hz : A = some (7, L, k') := hA
      subst hz
      clear hA
      go_enter Try.func20, Try.ntmps20
      go_upto_region 1 with fail
      go_quiet (fail)
      go_wp2_with (go_at_call 26; refine (hc _).mono ?_; rintro e w2 ⟨he, hN, hB2⟩; have he' : e = .returned (.bool true) := he; clear he; subst he'; have HN := Lib.hid hN; clear hN)
      go_ret
      exact ⟨rfl, (fun K L' k'' h => by cases h; exact HN.out L k' rfl), (hBm.out _).trans hB2⟩
  rw [decide_eq_false h96] at b96
  rw [if_neg (by simpa using h96)] at hA
  by_cases h34 : s[k] = 34
  · rw [if_pos (by rw [h34])] at hA
    rw [decide_eq_true h34] at b34
    have hcn : (s[k].toNat : Int) = 34 := by rw [h34]; rfl
    have hc := fun m => string_any s hs b (k + 1) v [] (by simp) _ (HM.out m)
    obtain ⟨X, hX⟩ : ∃ X, X = strOf s.data.toList (s.size - (k + 1)) (k + 1) [] := ⟨_, rfl⟩
    rw [← hX] at hc hA
    clear hX h96 h34 b96 b34 b39 hR
    cases X with
    | none =>
      have hz : A = none := hA
      subst hz
      clear hA
      go_enter Try.func20, Try.ntmps20
      go_upto_region 1 with fail
      go_quiet (fail)
      go_wp2_with (go_at_call 27; refine (hc _).mono ?_; rintro e w2 ⟨he, _, hB2⟩; have he' : e = .returned (.bool false) := he; clear he; subst he')
      go_ret
      (first | exact ⟨rfl, (fun _ _ _ h => by cases h), (hBm.out _).trans hB2⟩ | exact ⟨rfl, (hBm.out _).trans hB2⟩)
    | some x =>
      obtain ⟨L, k'⟩ := x
      have hz : A = some (7, L, k') := hA
      subst hz
      clear hA
      go_enter Try.func20, Try.ntmps20
      go_upto_region 1 with fail
      go_quiet (fail)
      go_wp2_with (go_at_call 27; refine (hc _).mono ?_; rintro e w2 ⟨he, hN, hB2⟩; have he' : e = .returned (.bool true) := he; clear he; subst he'; have HN := Lib.hid hN; clear hN)
      go_ret
      exact ⟨rfl, (fun K L' k'' h => by cases h; exact HN.out L k' rfl), (hBm.out _).trans hB2⟩
  rw [decide_eq_false h34] at b34
  rw [if_neg (by simpa using h34)] at hA
  by_cases h39 : s[k] = 39
  · rw [if_pos (by rw [h39])] at hA
    rw [decide_eq_true h39] at b39
    have hcn : (s[k].toNat : Int) = 39 := by rw [h39]; rfl
    have hc := fun m => rune_any s hs b (k + 1) v [] (by simp) _ (HM.out m)
    obtain ⟨X, hX⟩ : ∃ X, X = runeOf s.data.toList (k + 1) [] := ⟨_, rfl⟩
    rw [← hX] at hc hA
    clear hX h96 h34 h39 b96 b34 b39 hR
    cases X with
    | none =>
      have hz : A = none := hA
      subst hz
      clear hA
      go_enter Try.func20, Try.ntmps20
      go_upto_region 1 with fail
      go_quiet (fail)
      go_wp2_with (go_at_call 28; refine (hc _).mono ?_; rintro e w2 ⟨he, _, hB2⟩; have he' : e = .returned (.bool false) := he; clear he; subst he')
      go_ret
      (first | exact ⟨rfl, (fun _ _ _ h => by cases h), (hBm.out _).trans hB2⟩ | exact ⟨rfl, (hBm.out _).trans hB2⟩)
    | some x =>
      obtain ⟨L, k'⟩ := x
      have hz : A = some (6, L, k') := hA
      subst hz
      clear hA
      go_enter Try.func20, Try.ntmps20
      go_upto_region 1 with fail
      go_quiet (fail)
      go_wp2_with (go_at_call 28; refine (hc _).mono ?_; rintro e w2 ⟨he, hN, hB2⟩; have he' : e = .returned (.bool true) := he; clear he; subst he'; have HN := Lib.hid hN; clear hN)
      go_ret
      exact ⟨rfl, (fun K L' k'' h => by cases h; exact HN.out L k' rfl), (hBm.out _).trans hB2⟩
  · rw [decide_eq_false h39] at b39
    rw [if_neg (by simpa using h39)] at hA
    subst hA
    clear h96 h34 h39 hR
    go_enter Try.func20, Try.ntmps20
    go_upto_region 1 with fail
    go_quiet (fail)
    go_wp2
    go_ret
    (first | exact ⟨rfl, (fun _ _ _ h => by cases h), hBm.out _⟩ | exact ⟨rfl, hBm.out _⟩)
end Go.Proofs.Ytpbkdgbmnffooaa

/-
  Layer 6: contract of quoted.Quote.
-/
import Derived.Test.YtpbkdgbmnffooaaP
namespace Go.Proofs.Ytpbkdgbmnffooaa
open Go.ChangeShapes Go.WideShapes Go.ChangeAt Go.RowKit

/-- a small digit of base 16 -/
def hexd (n : Nat) : UInt8 := if n < 10 then UInt8.ofNat (48 + n) else UInt8.ofNat (87 + n)
/-- a byte as it stands within marks -/
def qb (c : UInt8) : List UInt8 :=
  if c = 34 ∨ c = 92 then [92, c] else if c = 10 then [92, 110] else if 32 ≤ c.toNat ∧ c.toNat ≤ 126 then [c] else [92, 120, hexd (c.toNat / 16), hexd (c.toNat % 16)]
theorem qb_len (c : UInt8) : (qb c).length ≤ 4 := by
  unfold qb; split
  · simp
  · split
    · simp
    · split <;> simp
def qbs (l : List UInt8) : List UInt8 := l.flatMap qb
theorem qbs_len : ∀ l : List UInt8, (qbs l).length ≤ 4 * l.length
  | [] => by simp [qbs]
  | c :: t => by
    have h1 := qb_len c
    have h2 := qbs_len t
    unfold qbs at h2 ⊢
    rw [List.flatMap_cons, List.length_append, List.length_cons]; omega
def quoteOf (l : List UInt8) : List UInt8 := 34 :: (qbs l ++ [34])
theorem qbs_snoc (s : ByteArray) (k : Nat) (h : k < s.size) : qbs (s.data.toList.take (k + 1)) = qbs (s.data.toList.take k) ++ qb s[k] := by
  rw [List.take_succ_eq_append_getElem (by simpa using h)]
  unfold qbs
  rw [List.flatMap_append]
  simp [ByteArray.getElem_eq_getElem_data]
theorem hex_at (n : Nat) (h : n < 16) : (⟨#[48, 49, 50, 51, 52, 53, 54, 55, 56, 57, 97, 98, 99, 100, 101, 102]⟩ : ByteArray)[n]'h = hexd n := by
  have h1 : ∀ n : Fin 16, (⟨#[48, 49, 50, 51, 52, 53, 54, 55, 56, 57, 97, 98, 99, 100, 101, 102]⟩ : ByteArray)[n.1]'n.2 = hexd n.1 := by decide
  exact h1 ⟨n, h⟩
theorem cells_one (c : UInt8) : Lib.byteCells [c] = [Value.int .u8 (c.toNat : Int)] := rfl

set_option maxHeartbeats 4000000 in
theorem quote_any (s : ByteArray) (hs : s.size ≤ 1099511627776) (w : World) :
    Calls Try.prog 15 #[.string s] w fun e w' => e = .returned (.string ⟨(quoteOf s.data.toList).toArray⟩) ∧ Below w.heap.size w w' := by
  go_enter Try.func15, Try.ntmps15
  go_wp2_with fail
  go_at_call 22
  refine (writeByte_any w.heap.size w.heap.size (Lib.byteCells []) 34 _ (Lib.fresh_isBuilder 45 5 w) (by decide) (by simp)).mono ?_
  rintro e w1 ⟨rfl, hI, hB⟩
  replace hB : Below w.heap.size w w1 := ((Below.refl _ w).alloc (Nat.le_refl _) _).trans hB
  replace hI : Lib.IsBuilder 45 5 w.heap.size w.heap.size (Lib.byteCells (34 :: qbs (s.data.toList.take 0))) w1 := .inr hI
  go_wp2_with fail
  go_loopw [4] (fun i wr => ∃ k : Nat, k ≤ s.size ∧ i = .int .i64 k ∧ Lib.IsBuilder 45 5 w.heap.size w.heap.size (Lib.byteCells (34 :: qbs (s.data.toList.take k))) wr ∧ Below w.heap.size w wr) (fun i _ => s.size - (intOf i).toNat)
  case atStart => exact ⟨0, Nat.zero_le _, rfl, hI, hB⟩
  case round =>
    clear hI hB
    obtain ⟨k, hk, rfl, hI, hB⟩ := hrel
    have hbs := hB.size
    have hln : (Lib.byteCells (34 :: qbs (s.data.toList.take k))).length ≤ 8796093022208 := by
      rw [Lib.byteCells_length, List.length_cons]
      have h1 := qbs_len (s.data.toList.take k)
      have h2 := List.length_take_le k s.data.toList
      omega
    by_cases hlt : k < s.size
    · have hsn := qbs_snoc s k hlt
      have HS : Lib.byteCells (34 :: qbs (s.data.toList.take (k + 1))) = Lib.byteCells (34 :: qbs (s.data.toList.take k)) ++ Lib.byteCells (qb s[k]) := by
        rw [hsn, ← List.cons_append, Lib.byteCells_append]
      obtain ⟨C, hC⟩ : ∃ C, C = Lib.byteCells (34 :: qbs (s.data.toList.take k)) := ⟨_, rfl⟩
      rw [← hC] at hI hln HS
      have HSH := Lib.hid HS
      clear HS hsn hC
      have b34 := bytes_n s[k] 34 34 rfl
      have b92 := bytes_n s[k] 92 92 rfl
      have b10 := bytes_n s[k] 10 10 rfl
      by_cases hq : s[k] = 34 ∨ s[k] = 92
      · have HQ := Lib.hid (show qb s[k] = [92, s[k]] by unfold qb; rw [if_pos hq])
        have hor : ((s[k].toNat : Int) == 34) = true ∨ (((s[k].toNat : Int) == 34) = false ∧ ((s[k].toNat : Int) == 92) = true) := by
          by_cases h : s[k] = 34
          · left; rw [b34]; exact decide_eq_true h
          · right; refine ⟨?_, ?_⟩
            · rw [b34]; exact decide_eq_false h
            · rw [b92]; exact decide_eq_true (hq.resolve_left h)
        clear hq b34 b92 b10
        rcases hor with h1 | ⟨h1, h2⟩
        all_goals
          go_wp2_with fail
          go_at_call 22
          refine (writeByte_any _ _ _ 92 _ hI (by omega) hbs).mono ?_
          rintro e w1 ⟨rfl, hI1, hB1⟩
          replace hB := hB.trans hB1
          go_wp2_with fail
          go_at_call 22
          refine (writeByte_any _ _ _ s[k] _ (.inr hI1) (by simp; omega) hB.size).mono ?_
          rintro e w2 ⟨rfl, hI2, hB2⟩
          replace hB := hB.trans hB2
          have hI3 : Lib.IsBuilder 45 5 w.heap.size w.heap.size (Lib.byteCells (34 :: qbs (s.data.toList.take (k + 1)))) w2 := by
            rw [HSH.out, HQ.out, show Lib.byteCells [92, s[k]] = [Value.int .u8 ((92 : UInt8).toNat : Int)] ++ [Value.int .u8 (s[k].toNat : Int)] from rfl, ← List.append_assoc]
            exact .inr hI2
          go_wp2_with fail
          go_roundw
          case rel => exact ⟨k + 1, by omega, by go_num, hI3, hB⟩
          case measure => simp [intOf]; omega
      have g34 : ((s[k].toNat : Int) == 34) = false := by rw [b34]; exact decide_eq_false fun h => hq (.inl h)
      have g92 : ((s[k].toNat : Int) == 92) = false := by rw [b92]; exact decide_eq_false fun h => hq (.inr h)
      by_cases h10 : s[k] = 10
      · have HQ := Lib.hid (show qb s[k] = [92, 110] by unfold qb; rw [if_neg hq, if_pos h10])
        rw [decide_eq_true h10] at b10
        clear hq b34 b92 h10
        go_wp2_with fail
        go_at_call 23
        refine (writeString_any _ _ _ ⟨#[92, 110]⟩ _ hI (by have : (⟨#[92, 110]⟩ : ByteArray).size = 2 := rfl; omega) hbs).mono ?_
        rintro e w1 ⟨rfl, hI1, hB1⟩
        replace hB := hB.trans hB1
        have hI3 : Lib.IsBuilder 45 5 w.heap.size w.heap.size (Lib.byteCells (34 :: qbs (s.data.toList.take (k + 1)))) w1 := by
          rw [HSH.out, HQ.out]
          exact .inr hI1
        go_wp2_with fail
        go_roundw
        case rel => exact ⟨k + 1, by omega, by go_num, hI3, hB⟩
        case measure => simp [intOf]; omega
      rw [decide_eq_false h10] at b10
      by_cases hp : 32 ≤ s[k].toNat ∧ s[k].toNat ≤ 126
      · have HQ := Lib.hid (show qb s[k] = [s[k]] by unfold qb; rw [if_neg hq, if_neg h10, if_pos hp])
        have p1 : (32 : Int) ≤ (s[k].toNat : Int) := by omega
        have p2 : (s[k].toNat : Int) ≤ 126 := by omega
        clear hq b34 b92 h10 hp
        go_wp2_with fail
        go_at_call 22
        refine (writeByte_any _ _ _ s[k] _ hI (by omega) hbs).mono ?_
        rintro e w1 ⟨rfl, hI1, hB1⟩
        replace hB := hB.trans hB1
        have hI3 : Lib.IsBuilder 45 5 w.heap.size w.heap.size (Lib.byteCells (34 :: qbs (s.data.toList.take (k + 1)))) w1 := by
          rw [HSH.out, HQ.out]
          exact .inr hI1
        go_wp2_with fail
        go_roundw
        case rel => exact ⟨k + 1, by omega, by go_num, hI3, hB⟩
        case measure => simp [intOf]; omega
      · have HQ := Lib.hid (show qb s[k] = [92, 120, hexd (s[k].toNat / 16), hexd (s[k].toNat % 16)] by unfold qb; rw [if_neg hq, if_neg h10, if_neg hp])
        have hlt' := s[k].toNat_lt
        have hp2 : ¬ (32 : Int) ≤ (s[k].toNat : Int) ∨ ((32 : Int) ≤ (s[k].toNat : Int) ∧ ¬ (s[k].toNat : Int) ≤ 126) := by omega
        clear hq b34 b92 h10 hp
        rcases hp2 with p1 | ⟨p1, p2⟩
        all_goals
          go_wp2_with fail
          go_at_call 23
          refine (writeString_any _ _ _ ⟨#[92, 120]⟩ _ hI (by have : (⟨#[92, 120]⟩ : ByteArray).size = 2 := rfl; omega) hbs).mono ?_
          rintro e w1 ⟨rfl, hI1, hB1⟩
          replace hB := hB.trans hB1
          go_wp2_with fail
          go_at_call 22
          rw [hex_at _ (by omega)]
          refine (writeByte_any _ _ _ (hexd (s[k].toNat / 16)) _ (.inr hI1) (by rw [List.length_append, Lib.strCells_length]; have : (⟨#[92, 120]⟩ : ByteArray).size = 2 := rfl; omega) hB.size).mono ?_
          rintro e w2 ⟨rfl, hI2, hB2⟩
          replace hB := hB.trans hB2
          go_wp2_with fail
          go_at_call 22
          rw [hex_at _ (by omega)]
          refine (writeByte_any _ _ _ (hexd (s[k].toNat % 16)) _ (.inr hI2) (by rw [List.length_append, List.length_append, Lib.strCells_length]; have : (⟨#[92, 120]⟩ : ByteArray).size = 2 := rfl; simp; omega) hB.size).mono ?_
          rintro e w3 ⟨rfl, hI3', hB3⟩
          replace hB := hB.trans hB3
          have hI3 : Lib.IsBuilder 45 5 w.heap.size w.heap.size (Lib.byteCells (34 :: qbs (s.data.toList.take (k + 1)))) w3 := by
            rw [HSH.out, HQ.out, show Lib.byteCells [92, 120, hexd (s[k].toNat / 16), hexd (s[k].toNat % 16)] = Lib.strCells ⟨#[92, 120]⟩ ++ ([Value.int .u8 ((hexd (s[k].toNat / 16)).toNat : Int)] ++ [Value.int .u8 ((hexd (s[k].toNat % 16)).toNat : Int)]) from rfl, ← List.append_assoc, ← List.append_assoc]
            exact .inr hI3'
          go_wp2_with fail
          go_roundw
          case rel => exact ⟨k + 1, by omega, by go_num, hI3, hB⟩
          case measure => simp [intOf]; omega
    · have hk' : k = s.size := by omega
      have hI3 : Lib.IsBuilder 45 5 w.heap.size w.heap.size (Lib.byteCells (34 :: qbs s.data.toList)) wr := by
        rw [show s.data.toList = s.data.toList.take k by rw [List.take_of_length_le (by simp; omega)]]
        exact hI
      clear hI
      have HL := Lib.hid (show (Lib.byteCells (34 :: qbs s.data.toList)).length ≤ 8796093022208 by
        rw [Lib.byteCells_length, List.length_cons]
        have h1 := qbs_len s.data.toList
        simp at h1; omega)
      have HQ := Lib.hid (show Lib.byteCells (quoteOf s.data.toList) = Lib.byteCells (34 :: qbs s.data.toList) ++ [Value.int .u8 34] by
        unfold quoteOf
        rw [← List.cons_append, Lib.byteCells_append]; rfl)
      clear hk' hln
      go_wp2_with fail
      go_at_call 22
      refine (writeByte_any _ _ _ 34 _ hI3 (by have := HL.out; omega) hbs).mono ?_
      rintro e w1 ⟨rfl, hI1, hB1⟩
      replace hB := hB.trans hB1
      have hI4 : Lib.IsBuilder 45 5 w.heap.size w.heap.size (Lib.byteCells (quoteOf s.data.toList)) w1 := by
        rw [HQ.out]
        exact .inr hI1
      go_wp2_with fail
      go_at_call 24
      refine (Try.Builder_String_any _ _ _ _ hI4 hB.size).mono ?_
      rintro e w2 ⟨rfl, hB2⟩
      go_wp2_with fail
      go_ret
      exact ⟨rfl, hB.trans hB2⟩
end Go.Proofs.Ytpbkdgbmnffooaa

/-
  Layer 6: plain: a rune by the document's item against the reading by the program.
-/
import Derived.Test.YtpbkdgbmnffooaaW
namespace Go.Proofs.Ytpbkdgbmnffooaa
open Go.ChangeShapes Go.WideShapes Go.ChangeAt Go.RowKit
open Go.Lib (decodeL encodeRune encodeRuneZ encodeRuneZ_one)

theorem form_ascii (r : Int) (h0 : 0 ≤ r) (h : r < 128) : form r = [UInt8.ofNat r.toNat] := by
  have hc : isChar r = true := by unfold isChar; simp; omega
  have hf : form r = encodeRune r := by simp [form, hc]
  rw [hf]
  unfold encodeRune
  rw [encodeRuneZ_one (by omega) (by omega)]
  rfl
theorem ascii_head (c : UInt8) (t : List UInt8) (h : c.toNat < 128) : wide (c :: t) = 1 ∧ chr (c :: t) = (c.toNat : Int) := by
  have hc : isChar (c.toNat : Int) = true := by unfold isChar; simp; omega
  have hf := form_ascii (c.toNat : Int) (by omega) (by omega)
  rw [show UInt8.ofNat ((c.toNat : Int)).toNat = c by simp] at hf
  have hg := form_good (c.toNat : Int) t hc
  have hd := decode_form (c.toNat : Int) t hc
  rw [hf] at hg hd
  have hg' : isBad (c :: t) = false := hg
  have hd' : decodeL (c :: t) = (((c.toNat : Int)).toNat, 1) := hd
  unfold wide chr
  rw [hg', hd']
  simp
theorem chr_ascii {c : UInt8} {t : List UInt8} (hw : wide (c :: t) ≠ 0) (r : Int) (h0 : 0 ≤ r) (h : r < 128) (hr : chr (c :: t) = r) : c = UInt8.ofNat r.toNat := by
  have h1 := (chr_form hw).1
  rw [hr, form_ascii r h0 h] at h1
  cases hn : wide (c :: t) with
  | zero => exact absurd hn hw
  | succ n =>
    rw [hn, List.take_succ_cons] at h1
    exact (List.cons.inj h1).1.symm
theorem wide_nil : wide [] = 0 := by unfold wide; simp
theorem rune_end {l : List UInt8} {i : Nat} (h : l.length ≤ i) : runeOf l i [] = none := by
  unfold runeOf
  rw [List.drop_of_length_le h, if_pos (.inl wide_nil)]
theorem rune_mark {l : List UInt8} {i : Nat} (h : l[i]? = some 39) : runeOf l i [] = none := by
  have hl : l.drop i = 39 :: l.drop (i + 1) := by
    obtain ⟨h1, h2⟩ := List.getElem?_eq_some_iff.1 h
    rw [List.drop_eq_getElem_cons h1, h2]
  unfold runeOf
  rw [hl, if_pos (.inr (.inl (ascii_head 39 _ (by decide)).2))]
theorem rune_step {l : List UInt8} {i : Nat} {c : UInt8} (h : l[i]? = some c) (hc : c ≠ 39) : runeOf l i [] = (docItem 39 c (l.drop (i + 1))).bind fun x => closeOf l (i + x.2) x.1 := by
  have hl : l.drop i = c :: l.drop (i + 1) := by
    obtain ⟨h1, h2⟩ := List.getElem?_eq_some_iff.1 h
    rw [List.drop_eq_getElem_cons h1, h2]
  unfold runeOf docItem
  rw [hl]
  by_cases h92 : c = 92
  · obtain ⟨h1, h2⟩ := ascii_head c (l.drop (i + 1)) (by rw [h92]; decide)
    rw [h1, h2, if_neg (by rw [h92]; decide), if_pos (by rw [h92]; rfl), if_pos h92, escOf_shift 39 i 1]
    cases escOf 39 1 (l.drop (i + 1)) with
    | none => rfl
    | some x => rfl
  · rw [if_neg h92]
    by_cases h10 : c = 10
    · obtain ⟨h1, h2⟩ := ascii_head c (l.drop (i + 1)) (by rw [h10]; decide)
      rw [if_pos (.inr (.inr (by rw [h2, h10]; rfl))), if_pos h10]; rfl
    · rw [if_neg h10, if_neg (show ¬ ((39 : UInt8) = 34) by decide)]
      by_cases hw : wide (c :: l.drop (i + 1)) = 0
      · rw [if_pos (.inl hw), if_pos hw]; rfl
      · have n39 : chr (c :: l.drop (i + 1)) ≠ 39 := fun e => hc (chr_ascii hw 39 (by decide) (by decide) e)
        have n10 : chr (c :: l.drop (i + 1)) ≠ 10 := fun e => h10 (chr_ascii hw 10 (by decide) (by decide) e)
        have n92 : chr (c :: l.drop (i + 1)) ≠ 92 := fun e => h92 (chr_ascii hw 92 (by decide) (by decide) e)
        rw [if_neg (by rintro (e | e | e); exact hw e; exact n39 e; exact n10 e), if_neg n92, if_neg hw, (chr_form hw).1]; rfl
end Go.Proofs.Ytpbkdgbmnffooaa

/-
  Layer 3: what takes edits back (plain lists).
-/
import Derived.Test.YtigmakdfladjnaaCa
namespace Go.Proofs.Ytigmakdfladjnaa

theorem bytes_ext {x y : ByteArray} (h : x.data.toList = y.data.toList) : x = y := ByteArray.ext (Array.toList_inj.1 h)
theorem undo_back (s tb : ByteArray) : ∀ (es : List Ed) (r : Nat) (m : Int) (P : List UInt8), stands s.size r es = true → r ≤ s.size → (P.length : Int) = r + m → tb.data.toList = P ++ textOf s.data.toList r es →
    stands tb.size P.length (undos s m es) = true ∧ textOf tb.data.toList P.length (undos s m es) = s.data.toList.drop r ∧ undos tb (-m) (undos s m es) = es ∧
    (puts (undos s m es) ≤ s.size - r) ∧
    ∀ (i : Nat) (x y : Ed), es[i]? = some x → (undos s m es)[i]? = some y → tb.extract y.lo.toNat y.hi.toNat = x.tx ∧ y.tx = s.extract x.lo.toNat x.hi.toNat ∧ Good tb y
  | [], r, m, P, _, _, _, htb => by
    refine ⟨rfl, ?_, rfl, Nat.zero_le _, fun i x y h => by simp at h⟩
    simp only [undos, textOf] at htb ⊢
    rw [htb, List.drop_left]
  | x :: l, r, m, P, hst, hr, hP, htb => by
    unfold stands at hst
    rw [Bool.and_eq_true, decide_eq_true_iff] at hst
    obtain ⟨⟨h1, h2, h3⟩, hst⟩ := hst
    obtain ⟨lo, hlo⟩ : ∃ lo : Nat, x.lo = lo := ⟨x.lo.toNat, by omega⟩
    obtain ⟨hi, hhi⟩ : ∃ hi : Nat, x.hi = hi := ⟨x.hi.toNat, by omega⟩
    have hsl : s.data.toList.length = s.size := rfl
    have htl : x.tx.data.toList.length = x.tx.size := rfl
    have htbl : tb.data.toList.length = tb.size := rfl
    obtain ⟨Q, hQ⟩ : ∃ Q, Q = (s.data.toList.drop r).take (lo - r) := ⟨_, rfl⟩
    have hQl : Q.length = lo - r := by rw [hQ, List.length_take, List.length_drop]; omega
    have htb1 : tb.data.toList = (P ++ Q ++ x.tx.data.toList) ++ textOf s.data.toList hi l := by
      rw [htb]
      simp only [textOf]
      rw [hlo, hhi, Int.toNat_natCast, Int.toNat_natCast, ← hQ]
      simp only [List.append_assoc]
    have hP2 : (((P ++ Q ++ x.tx.data.toList).length : Nat) : Int) = hi + (m + gain' x) := by
      simp only [List.length_append, gain']
      omega
    have hst' : stands s.size hi l = true := by rw [← hhi]; exact hst
    obtain ⟨i1, i2, i3, i4, i5⟩ := undo_back s tb l hi (m + gain' x) (P ++ Q ++ x.tx.data.toList) hst' (by omega) hP2 htb1
    have hA : (x.lo + m).toNat = P.length + (lo - r) := by omega
    have hA2 : (x.lo + m + (x.tx.size : Int)).toNat = P.length + (lo - r) + x.tx.size := by omega
    have hpl : (P ++ Q ++ x.tx.data.toList).length = P.length + (lo - r) + x.tx.size := by simp only [List.length_append]; omega
    have htbs : P.length + (lo - r) + x.tx.size ≤ tb.size := by rw [← htbl, htb1, List.length_append, hpl]; omega
    have hex : (s.extract lo hi).data.toList = (s.data.toList.drop lo).take (hi - lo) := ext_list s lo hi
    have hexs : (s.extract lo hi).size = hi - lo := by rw [ByteArray.size_extract]; omega
    have hcut : tb.extract (P.length + (lo - r)) (P.length + (lo - r) + x.tx.size) = x.tx := by
      apply bytes_ext
      rw [ext_list, htb1, List.append_assoc (P ++ Q)]
      rw [show P.length + (lo - r) = (P ++ Q).length by rw [List.length_append, hQl], List.drop_left, Nat.add_sub_cancel_left, ← htl, List.take_left]
    have hsd : s.data.toList.drop r = Q ++ ((s.data.toList.drop lo).take (hi - lo) ++ s.data.toList.drop hi) := by
      have e1 : s.data.toList.drop hi = (s.data.toList.drop lo).drop (hi - lo) := by rw [List.drop_drop]; congr 1; omega
      have e2 : s.data.toList.drop lo = (s.data.toList.drop r).drop (lo - r) := by rw [List.drop_drop]; congr 1; omega
      rw [e1, List.take_append_drop, hQ, e2, List.take_append_drop]
    refine ⟨?_, ?_, ?_, ?_, ?_⟩
    · simp only [undos]
      unfold stands
      rw [Bool.and_eq_true, decide_eq_true_iff]
      simp only [undo1]
      refine ⟨⟨by omega, by omega, by omega⟩, ?_⟩
      have : x.lo + m + (x.tx.size : Int) = (((P ++ Q ++ x.tx.data.toList).length : Nat) : Int) := by rw [hpl]; omega
      rw [this]; exact i1
    · simp only [undos, textOf, undo1]
      rw [hA, hA2, ← hpl, i2, hlo, hhi, Int.toNat_natCast, Int.toNat_natCast, hex, hsd]
      rw [htb1, show P.length + (lo - r) - P.length = Q.length by omega]
      simp only [List.append_assoc]
      rw [List.drop_left, List.take_left]
    · simp only [undos]
      have e1 : gain' (undo1 s m x) = - gain' x := by
        simp only [gain', undo1]
        rw [hlo, hhi, Int.toNat_natCast, Int.toNat_natCast, hexs]
        omega
      have e2 : -m + -gain' x = -(m + gain' x) := by omega
      rw [e1, e2, i3]
      have f4 : (s.extract x.lo.toNat x.hi.toNat).size = hi - lo := by rw [hlo, hhi, Int.toNat_natCast, Int.toNat_natCast, hexs]
      have g1 : x.lo + m + -m = x.lo := by omega
      have g2 : x.lo + m + -m + ((hi - lo : Nat) : Int) = x.hi := by omega
      have u1 : undo1 tb (-m) (undo1 s m x) = x := by
        show (⟨x.lo + m + -m, x.lo + m + -m + ((s.extract x.lo.toNat x.hi.toNat).size : Int), tb.extract (x.lo + m).toNat (x.lo + m + (x.tx.size : Int)).toNat⟩ : Ed) = x
        rw [f4, g2, g1, hA, hA2, hcut]
      rw [u1]
    · simp only [undos, puts, undo1]
      rw [hlo, hhi, Int.toNat_natCast, Int.toNat_natCast, hexs]
      omega
    · intro i y z hy hz
      cases i with
      | zero =>
        simp only [undos, List.getElem?_cons_zero, Option.some.injEq] at hy hz
        subst hy hz
        simp only [undo1]
        refine ⟨by rw [hA, hA2]; exact hcut, by first | rfl | trivial, ⟨by show 0 ≤ x.lo + m; omega, by dsimp only; omega, by dsimp only; omega⟩⟩
      | succ i =>
        simp only [undos, List.getElem?_cons_succ] at hy hz
        exact i5 i y z hy hz
end Go.Proofs.Ytigmakdfladjnaa

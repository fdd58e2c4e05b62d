/-
  Layer 5: contracts of the document's headed, under and Power.
-/
import Derived.Test.YtakbhbhikknhkaaE
namespace Go.Proofs.Ytakbhbhikknhkaa
open Go.ChangeShapes Go.WideShapes Go.ChangeAt Go.RowKit

/-- does a text begin with 0 and one of two letters? -/
def head? (small big : UInt8) : List UInt8 → Bool
  | c :: d :: _ => decide (c = 48) && (decide (d = small) || decide (d = big))
  | _ => false
theorem bytes_eq (a b : UInt8) : ((a.toNat : Int) == (b.toNat : Int)) = decide (a = b) := by
  rw [Bool.eq_iff_iff, beq_iff_eq, decide_eq_true_iff]
  exact ⟨fun h => UInt8.toNat_inj.1 (by omega), fun h => by rw [h]⟩
theorem bytes_n (a b : UInt8) (n : Int) (hn : (b.toNat : Int) = n) : ((a.toNat : Int) == n) = decide (a = b) := by
  rw [← hn]; exact bytes_eq a b
theorem two_of (s : ByteArray) (h0 : 0 < s.size) (h1 : 1 < s.size) : s.data.toList = s[0] :: s[1] :: s.data.toList.drop 2 := by
  have e0 : 0 < s.data.toList.length := by simpa using h0
  have e1 : 1 < s.data.toList.length := by simpa using h1
  conv => lhs; rw [← List.drop_zero (l := s.data.toList), List.drop_eq_getElem_cons e0, List.drop_eq_getElem_cons e1]
  simp [ByteArray.getElem_eq_getElem_data]
theorem head_short (small big : UInt8) (l : List UInt8) (h : l.length < 2) : head? small big l = false := by
  match l, h with
  | [], _ => rfl
  | [c], _ => rfl

set_option maxHeartbeats 2000000 in
theorem headed_any (s : ByteArray) (hs : s.size ≤ 1048576) (small big : UInt8) (w : World) :
    Calls Try.prog 30 #[.string s, .int .u8 small.toNat, .int .u8 big.toNat] w fun e w' => e = .returned (.bool (head? small big s.data.toList)) ∧ w' = w := by
  have hlen : s.data.toList.length = s.size := by simp
  by_cases h2 : s.size < 2
  · have hr : head? small big s.data.toList = false := head_short _ _ _ (by omega)
    rw [hr]
    have d : ¬ (2 : Int) ≤ s.size := by omega
    go_enter Try.func30, Try.ntmps30
    go_wp2
    go_ret
    exact ⟨ret_bool rfl, rfl⟩
  · have i0 : 0 < s.size := by omega
    have i1 : 1 < s.size := by omega
    have d : (2 : Int) ≤ s.size := by omega
    have hr : head? small big s.data.toList = (decide (s[0] = 48) && (decide (s[1] = small) || decide (s[1] = big))) := by
      rw [two_of s i0 i1]; rfl
    rw [hr]
    have b0 := bytes_n s[0] 48 48 rfl
    have b1 := bytes_eq s[1] small
    have b2 := bytes_eq s[1] big
    clear hr
    go_enter Try.func30, Try.ntmps30
    cases hc0 : decide (s[0] = 48) <;> cases hc1 : decide (s[1] = small) <;> cases hc2 : decide (s[1] = big) <;> rw [hc0] at b0 <;> rw [hc1] at b1 <;> rw [hc2] at b2
    all_goals (go_wp2; go_ret; exact ⟨ret_bool rfl, rfl⟩)
end Go.Proofs.Ytakbhbhikknhkaa

/-
  Layer 11, plain: how long the text of a list of parts is.
-/
import Derived.Test.YtoffjpgobhcipaaGreatDoorHa
import Derived.Test.YtoffjpgobhcipaaGreatDoorIl
import Derived.Test.YtoffjpgobhcipaaGreatDoorIo
namespace Go.Proofs.YtoffjpgobhcipaaGreatDoor.Trm

theorem part_size (p : Pt) : (partTx p).length ≤ 7 + 4 * p.word.size := by
  have h1 := digs_len p.kind
  have h2 := quoteOf_len p.word.data.toList
  have h3 : p.word.data.toList.length = p.word.size := by simp
  have h4 : (wordTx p.word).length ≤ 3 + 4 * p.word.size := by
    unfold wordTx
    split
    · simp
    · rw [List.length_cons]; omega
  unfold partTx
  rw [List.length_cons, List.length_append]; omega
theorem rowTx_size {l : List Pt} {i n e : Nat} {s : List UInt8} (h : RowTx l i n s e) : s.length + 4 * totW (l.take i) + 9 * i ≤ 4 * totW (l.take e) + 9 * e := by
  induction h with
  | zero i => simp
  | succ hp h0 g1 g2 ih1 ih2 =>
    rename_i i n p sa ea sb e
    have h1 := totW_take hp
    have h2 := part_size p
    rw [h1] at ih1
    simp only [List.length_cons, List.length_append]
    omega
theorem show_size {l : List Pt} {T : List UInt8} (h : showT l T) : T.length ≤ 4 * totW l + 9 * l.length := by
  have h1 := rowTx_size h
  rw [List.take_length] at h1
  simp only [List.length_cons] at h1
  omega
end Go.Proofs.YtoffjpgobhcipaaGreatDoor.Trm

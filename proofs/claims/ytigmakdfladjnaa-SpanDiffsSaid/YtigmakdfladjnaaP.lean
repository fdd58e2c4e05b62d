/-
  Layer 3: contract of the document's Trimmed.
-/
import Derived.Test.YtigmakdfladjnaaO
namespace Go.Proofs.Ytigmakdfladjnaa
open Go.ChangeShapes Go.WideShapes Go.ChangeAt Go.RowKit

set_option maxHeartbeats 2000000 in
theorem rtrimmed_nat (s : ByteArray) (l h : Nat) (tx : ByteArray) (hg : Good s ⟨l, h, tx⟩) (hs : s.size ≤ maxLen) (ht : tx.size ≤ maxLen) (w : World) :
    Calls Try.prog 23 #[.string s, .agg #[.int .i64 l, .int .i64 h, .string tx]] w fun e w' => e = .returned (.agg #[.int .i64 (less s ⟨l, h, tx⟩).lo, .int .i64 (less s ⟨l, h, tx⟩).hi, .string (less s ⟨l, h, tx⟩).tx]) ∧ Below w.heap.size w w' := by
  have hT0 := two_start w l h tx
  unfold maxLen at hs ht
  have hfl := front_le s _ hg
  have hfs := front_same s _ hg
  have hfm := front_max s _ hg
  have hbl := back_le s _ hg
  have hbs := back_same s _ hg
  have hbm := back_max s _ hg
  obtain ⟨g1, g2, g3⟩ := hg
  dsimp only at hfl hfs hfm g1 g2 g3 hbl hbs hbm
  rw [Int.toNat_natCast] at hfs hfm hbs hbm
  have e1 : (less s ⟨l, h, tx⟩).lo = (l : Int) + front s ⟨l, h, tx⟩ := rfl
  have e2 : (less s ⟨l, h, tx⟩).hi = (h : Int) - back s ⟨l, h, tx⟩ := rfl
  have e3 : (less s ⟨l, h, tx⟩).tx = tx.extract (front s ⟨l, h, tx⟩) (tx.size - back s ⟨l, h, tx⟩) := rfl
  rw [e1, e2, e3]
  clear e1 e2 e3
  generalize front s ⟨l, h, tx⟩ = K at hfl hfs hfm hbl hbs hbm ⊢
  generalize back s ⟨l, h, tx⟩ = M at hbl hbs hbm ⊢
  have HFS := Lib.hid hfs
  have HFM := Lib.hid hfm
  have HBS := Lib.hid hbs
  have HBM := Lib.hid hbm
  clear hfs hfm hbs hbm g1
  go_enter Try.func23, Try.ntmps23
  go_wp2
  go_loopw [] (fun wr => ∃ (j : Nat), j ≤ K ∧ Two w wr ((l + j : Nat) : Int) h (tx.extract j tx.size)) (fun wr => ((h : Int) - numAt wr w.heap.size 0).toNat)
  case atStart => exact ⟨0, Nat.zero_le _, by simpa using hT0⟩
  case round =>
    clear hT0
    obtain ⟨j, hj, hT⟩ := hrel
    have hts : (tx.extract j tx.size).size = tx.size - j := by rw [ByteArray.size_extract]; omega
    by_cases hlt : j < K
    · have hk1 : l + j < s.size := by omega
      have hk2 : 0 < (tx.extract j tx.size).size := by omega
      have heq := HFS.out j hlt hk1 (by omega)
      have h8 : s[l + j] = (tx.extract j tx.size)[0] := by
        rw [heq, ByteArray.getElem_extract]
        rfl
      have hnx : (tx.extract j tx.size).extract 1 (tx.extract j tx.size).size = tx.extract (j + 1) tx.size := by
        rw [ByteArray.extract_extract, hts]
        congr 1
        omega
      have hts2 : (tx.extract j tx.size).size ≤ 9223372036854775807 := by omega
      have HNX := Lib.hid hnx
      generalize tx.extract j tx.size = t at hT hk2 h8 hnx hts2 HNX
      clear hnx hts heq
      have hi64 : l + j < h := by omega
      obtain ⟨la, hla⟩ : ∃ la, la = l + j := ⟨_, rfl⟩
      have HLA := Lib.hid hla
      rw [← hla] at hT hi64
      have d1 : decide ((la : Int) < (h : Int)) = true := decide_eq_true (by omega)
      have hk1' : la < s.size := by omega
      have d3 : (((s[la]'hk1').toNat : Int) == ((t[0]'hk2).toNat : Int)) = true := by subst hla; rw [h8]; simp
      have hk1'' : (la : Int) < (s.size : Int) := by omega
      have hk2' : (0 : Int) < (t.size : Int) := by omega
      clear hla h8 hk1
      obtain ⟨c0, c1, c2, _, _, _⟩ := box_cells hT.1
      go_wp2
      go_quiet (fail)
      have hT2 := two_drewN hT nq
      generalize wr.drewN nq = w2 at hT2 ⊢
      clear c0 c1 c2
      obtain ⟨c0, c1, c2, f0, f1, f2⟩ := box_cells hT2.1
      have hT3 := two_lo hT2 ((la : Int) + 1)
      obtain ⟨e0, e1, e2, q0, q1, q2⟩ := box_cells hT3.1
      go_wp2
      have hT4 := two_tx hT3 (t.extract 1 t.size)
      rw [HNX.out] at hT4 ⊢
      have hm1 := num_lo hT4.1
      have hm2 := num_lo hT.1
      clear HFS HFM
      refine ⟨⟨j + 1, by omega, ?_⟩, by rw [hm1, hm2]; omega⟩
      have h9 : ((l + (j + 1) : Nat) : Int) = (la : Int) + 1 := by have := HLA.out; omega
      rw [h9]; exact hT4
    · obtain rfl : j = K := by omega
      have hla : ∃ la, la = l + j := ⟨_, rfl⟩
      obtain ⟨la, hla⟩ := hla
      have HLA := Lib.hid hla
      rw [← hla] at hT
      have hts2 : (tx.extract j tx.size).size ≤ 9223372036854775807 := by omega
      have key : (decide (la < h) = false) ∨ ((la < h ∧ decide ((la : Int) < (h : Int)) = true) ∧ decide (0 < (tx.extract j tx.size).size) = false) ∨
          ((la < h ∧ decide ((la : Int) < (h : Int)) = true) ∧ 0 < (tx.extract j tx.size).size ∧ ∃ (q1 : la < s.size) (q2 : 0 < (tx.extract j tx.size).size), (((s[la]'q1).toNat : Int) == (((tx.extract j tx.size)[0]'q2).toNat : Int)) = false) := by
        by_cases k1 : la < h
        · by_cases k2 : (tx.extract j tx.size).size = 0
          · exact .inr (.inl ⟨⟨k1, decide_eq_true (by omega)⟩, decide_eq_false (by omega)⟩)
          · refine .inr (.inr ⟨⟨k1, decide_eq_true (by omega)⟩, (by omega), by omega, by omega, ?_⟩)
            have hne := HFM.out (by omega) (by omega) (by omega)
            rw [beq_eq_false_iff_ne]
            intro e
            apply hne
            subst hla
            have e2 : (tx.extract j tx.size)[0]'(by omega) = tx[j]'(by omega) := by rw [ByteArray.getElem_extract]; rfl
            rw [e2] at e
            exact UInt8.toNat_inj.1 (by omega)
        · exact .inl (decide_eq_false (by omega))
      have hls : la ≤ h := by omega
      clear hla hlt hts
      generalize ht0 : tx.extract j tx.size = t at hT hts2 key
      have HT0 := Lib.hid ht0
      clear ht0
      rcases key with d1 | ⟨⟨d0, d1⟩, d2⟩ | ⟨⟨d0, d1⟩, d2, q1, q2, d3⟩
      case' inr.inr =>
        have q3 : (la : Int) < (s.size : Int) := by omega
        have q4 : (0 : Int) < (t.size : Int) := by omega
      all_goals
        obtain ⟨c0, c1, c2, _, _, _⟩ := box_cells hT.1
        go_wp2
        go_quiet (fail)
        have hT2 := two_drewN hT nq
        generalize wr.drewN nq = w2 at hT2 ⊢
        clear c0 c1 c2
        have hT2' : Two w w2 la ((h - 0 : Nat) : Int) (tx.extract j (tx.size - 0)) := by
          rw [Nat.sub_zero, Nat.sub_zero, HT0.out]; exact hT2
        clear hT hT2
        go_wp2
        go_loopw [] (fun wr => ∃ (i : Nat), i ≤ M ∧ Two w wr la ((h - i : Nat) : Int) (tx.extract j (tx.size - i))) (fun wr => (numAt wr w.heap.size 1).toNat)
        case atStart => exact ⟨0, Nat.zero_le _, hT2'⟩
        case round =>
          clear hT2'
          obtain ⟨i, hi, hT⟩ := hrel
          have hus : (tx.extract j (tx.size - i)).size = tx.size - i - j := by rw [ByteArray.size_extract]; omega
          have hlan := HLA.out
          by_cases hlt : i < M
          · obtain ⟨hp, hhp⟩ : ∃ hp, h - i = hp + 1 := ⟨h - i - 1, by omega⟩
            have k1 : hp < s.size := by omega
            have k2 : (tx.extract j (tx.size - i)).size - 1 < (tx.extract j (tx.size - i)).size := by omega
            have heq := HBS.out i hlt (by omega) (by omega)
            have h8 : s[hp]'k1 = (tx.extract j (tx.size - i))[(tx.extract j (tx.size - i)).size - 1]'k2 := by
              have a1 : (tx.extract j (tx.size - i))[(tx.extract j (tx.size - i)).size - 1]'k2 = tx[tx.size - 1 - i]'(by omega) := by
                rw [ByteArray.getElem_extract]; congr 1; omega
              rw [a1, ← heq]
              congr 1; omega
            have hnx : (tx.extract j (tx.size - i)).extract 0 ((tx.extract j (tx.size - i)).size - 1) = tx.extract j (tx.size - (i + 1)) := by
              rw [ByteArray.extract_extract, hus]
              congr 1; omega
            have HNX := Lib.hid hnx
            have hts3 : (tx.extract j (tx.size - i)).size ≤ 9223372036854775807 := by omega
            have k3 : 0 < (tx.extract j (tx.size - i)).size := by omega
            rw [hhp] at hT
            have hlp : la < hp + 1 := by omega
            have hh64 : hp < 9223372036854775807 := by omega
            generalize tx.extract j (tx.size - i) = u at hT k2 h8 hnx hts3 HNX k3
            have HHP := Lib.hid hhp
            clear hnx hus heq hlan hhp
            obtain ⟨up, hup⟩ : ∃ up, u.size = up + 1 := ⟨u.size - 1, by omega⟩
            have k4 : up < u.size := by omega
            have d4 : (((s[hp]'k1).toNat : Int) == ((u[up]'k4).toNat : Int)) = true := by
              rw [h8]
              have : u[u.size - 1]'k2 = u[up]'k4 := by congr 1; omega
              rw [this]; simp
            have d6 : decide ((la : Int) < (hp : Int) + 1) = true := decide_eq_true (by omega)
            have d7 : (hp : Int) < (s.size : Int) := by omega
            have d8 : (up : Int) < (u.size : Int) := by omega
            have w1' : IntKind.i64.wrap (hp : Int) = hp := by rw [IntKind.wrap_i64]; omega
            have w2' : IntKind.i64.wrap ((u.size : Int) - 1) = up := by rw [IntKind.wrap_i64]; omega
            have HUP := Lib.hid hup
            clear h8 k2 hup
            rw [show ((hp + 1 : Nat) : Int) = (hp : Int) + 1 by omega] at hT
            obtain ⟨c0, c1, c2, _, _, _⟩ := box_cells hT.1
            go_wp2
            go_quiet (fail)
            have hT3 := two_drewN hT nq
            have hm2 := num_hi hT.1
            generalize wr.drewN nq = w3 at hT3 ⊢
            clear c0 c1 c2
            obtain ⟨c0, c1, c2, f0, f1, f2⟩ := box_cells hT3.1
            have hT4 := two_hi hT3 (hp : Int)
            obtain ⟨e0, e1, e2, q0, q1, q2⟩ := box_cells hT4.1
            have hT5 := two_tx hT4 (u.extract 0 (u.size - 1))
            rw [HNX.out] at hT5
            have hm1 := num_hi hT5.1
            go_wp2
            have hup := HUP.out
            have hhp := HHP.out
            have h10 : u.extract 0 up = tx.extract j (tx.size - (i + 1)) := by rw [← HNX.out]; congr 1; omega
            rw [h10]
            refine ⟨⟨i + 1, by omega, ?_⟩, by rw [hm1, hm2]; omega⟩
            have h9 : ((h - (i + 1) : Nat) : Int) = (hp : Int) := by omega
            rw [h9]; exact hT5
          · obtain rfl : i = M := by omega
            have hts3 : (tx.extract j (tx.size - i)).size ≤ 9223372036854775807 := by omega
            obtain ⟨ha, hha⟩ : ∃ ha, ha = h - i := ⟨_, rfl⟩
            have key : (decide (la < ha) = false) ∨ ((la < ha ∧ decide ((la : Int) < (ha : Int)) = true) ∧ decide (0 < (tx.extract j (tx.size - i)).size) = false) ∨
                ((la < ha ∧ decide ((la : Int) < (ha : Int)) = true) ∧ 0 < (tx.extract j (tx.size - i)).size ∧ ∃ (hp up : Nat) (q1 : hp < s.size) (q2 : up < (tx.extract j (tx.size - i)).size), ha = hp + 1 ∧ (tx.extract j (tx.size - i)).size = up + 1 ∧ (((s[hp]'q1).toNat : Int) == (((tx.extract j (tx.size - i))[up]'q2).toNat : Int)) = false) := by
              by_cases k1 : la < ha
              · by_cases k2 : (tx.extract j (tx.size - i)).size = 0
                · exact .inr (.inl ⟨⟨k1, decide_eq_true (by omega)⟩, decide_eq_false (by omega)⟩)
                · refine .inr (.inr ⟨⟨k1, decide_eq_true (by omega)⟩, (by omega), ha - 1, (tx.extract j (tx.size - i)).size - 1, by omega, by omega, by omega, by omega, ?_⟩)
                  have hne := HBM.out (by omega) (by omega) (by omega) (by omega)
                  rw [beq_eq_false_iff_ne]
                  intro e
                  apply hne
                  have a1 : (tx.extract j (tx.size - i))[(tx.extract j (tx.size - i)).size - 1]'(by omega) = tx[tx.size - 1 - i]'(by omega) := by
                    rw [ByteArray.getElem_extract]; congr 1; omega
                  have a2 : s[ha - 1]'(by omega) = s[h - 1 - i]'(by omega) := by congr 1; omega
                  rw [a1, a2] at e
                  exact UInt8.toNat_inj.1 (by omega)
              · exact .inl (decide_eq_false (by omega))
            rw [← hha] at hT
            have hla : la ≤ ha := by omega
            have hva : (l : Int) + j = (la : Int) ∧ (h : Int) - i = (ha : Int) := by omega
            have HVA := Lib.hid hva
            clear hva hha hus hlan hlt
            generalize hu0 : tx.extract j (tx.size - i) = u at hT hts3 key ⊢
            have HU0 := Lib.hid hu0
            clear hu0
            rcases key with d1 | ⟨⟨d0, d1⟩, d2⟩ | ⟨⟨d0, d1⟩, d2, hp, up, q1, q2, hhp, hup, d3⟩
            case' inr.inr =>
              have q3 : (hp : Int) < (s.size : Int) := by omega
              have q4 : (up : Int) < (u.size : Int) := by omega
              have w1' : IntKind.i64.wrap (hp : Int) = hp := by rw [IntKind.wrap_i64]; omega
              have w2' : IntKind.i64.wrap ((u.size : Int) - 1) = up := by rw [IntKind.wrap_i64]; omega
              have w3' : IntKind.i64.wrap ((ha : Int) - 1) = hp := by rw [IntKind.wrap_i64]; omega
              clear hup hhp
            all_goals
              obtain ⟨c0, c1, c2, _, _, _⟩ := box_cells hT.1
              go_wp2
              go_quiet (fail)
              have hT3 := two_drewN hT nq
              generalize wr.drewN nq = w3 at hT3 ⊢
              clear c0 c1 c2
              obtain ⟨c0, c1, c2, _, _, _⟩ := box_cells hT3.1
              go_wp2_with (first
                | (refine wpList_store_rowTo rfl 36 (.tmp 4) (.tmp 72) rfl rfl (w.heap.size + 1) #[.int .i64 la, .int .i64 ha, .string u] rfl rfl 36 #[.int .i64 0, .int .i64 0, .string ⟨#[]⟩] hT3.2.1 info36 rfl (by simp [Value.oneCell']) ?_))
              (try simp only [Exit.inBlock, Exit.then])
              refine bodyPost_ret (v := .agg #[.int .i64 la, .int .i64 ha, .string u]) (results_cell_row rfl _ _ (w.heap.size + 1) 36 _ (0, 0) _ rfl (setRow_heap _ _ _ _ _ _ hT3.2.1) Try.underlying36 rfl info36) rfl ⟨?_, below_setRow hT3.2.2 (by omega) _⟩
              rw [HVA.out.1, HVA.out.2, HU0.out]
theorem rtrimmed_any (s : ByteArray) (x : Ed) (hg : Good s x) (hs : s.size ≤ maxLen) (ht : x.tx.size ≤ maxLen) (w : World) :
    Calls Try.prog 23 #[.string s, .agg #[.int .i64 x.lo, .int .i64 x.hi, .string x.tx]] w fun e w' => e = .returned (.agg #[.int .i64 (less s x).lo, .int .i64 (less s x).hi, .string (less s x).tx]) ∧ Below w.heap.size w w' := by
  obtain ⟨lo, hi, tx⟩ := x
  obtain ⟨l, rfl⟩ : ∃ l : Nat, lo = (l : Int) := ⟨lo.toNat, by have := hg.1; dsimp only at this; omega⟩
  obtain ⟨h, rfl⟩ : ∃ h : Nat, hi = (h : Int) := ⟨hi.toNat, by have := hg.2.1; dsimp only at this; omega⟩
  exact rtrimmed_nat s l h tx hg hs ht w
end Go.Proofs.Ytigmakdfladjnaa

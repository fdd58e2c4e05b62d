/-
  Layer 11: contract of term.Show: the walk.
-/
import Derived.Test.YtoffjpgobhcipaaDoorKa
import Derived.Deep.Cut
namespace Go.Proofs.YtoffjpgobhcipaaDoor.Trm
open Go.ChangeShapes Go.WideShapes Go.ChangeAt Go.RowKit

theorem stack_cases (st : List Nat) : st = [] ∨ (∃ r, st = 0 :: r) ∨ ∃ c r, st = (c + 1) :: r := by
  rcases st with _ | ⟨_ | c, r⟩
  · exact .inl rfl
  · exact .inr (.inl ⟨r, rfl⟩)
  · exact .inr (.inr ⟨c, r, rfl⟩)
/-- the length of a slice -/
def lenOf : Value → Nat
  | .slice _ n _ => n
  | _ => 0
theorem keeps_grown {w w' : World} {B n : Nat} {v : Value} {xs : List Value} {o : Obj} (h : w.ownsRow B 3 1 v n xs) (hg : (w.alloc o).grownBy w' v.ownBlock) : Keeps (fun t => t ≠ 3) w w' := fun k cur t fr ht hk => by
  have hkl := (Array.getElem?_eq_some_iff.1 hk).1
  rw [hg.block k (by simp; omega) (fun e => own_type h (by rw [← e]) hk ht)]
  show (w.heap.push _)[k]? = _
  rw [Array.getElem?_push, if_neg (by omega), hk]
theorem keeps_alloc (S : TypeId → Prop) (w : World) (o : Obj) : Keeps S w (w.alloc o) := fun k cur t fr _ hk => by
  have hkl := (Array.getElem?_eq_some_iff.1 hk).1
  show (w.heap.push _)[k]? = _
  rw [Array.getElem?_push, if_neg (by omega), hk]
theorem mineI_zero {w : World} {B : Nat} {v : Value} (h : MineI w B v (revI [])) : ∃ a cap, v = .slice a 0 cap := by
  obtain ⟨a, cap, rfl, _⟩ := mineI_ints h
  exact ⟨a, cap, rfl⟩
set_option maxRecDepth 100000 in
set_option maxHeartbeats 4000000 in
theorem show_no (w : World) (a : Option Addr) (n cap : Nat) (l : List Pt) (hl : Parts w a n l) (hn : n ≤ 4398046511104) (hwb : wellB (kidsP l) = false) :
    Calls Tryd.prog 6 #[.slice a n cap] w fun e w' => ShowIs l e ∧ Below w.heap.size w w' := by
  have hw := well_any w a n cap l hl hn
  rw [hwb] at hw
  have HR : Hid (ShowIs l (.returned (.tuple #[.string ⟨#[]⟩, .int .i64 8]))) := Lib.hid ⟨[], 8, rfl, fun _ => ⟨rfl, rfl⟩, fun T hT => by have := show_well hT; rw [hwb] at this; cases this⟩
  clear hl hwb
  go_enter Tryd.func6, Tryd.ntmps6
  go_wp2_with (go_at_call 10; refine hw.mono ?_; rintro e w1 ⟨rfl, hB⟩)
  go_ret2
  exact ⟨HR.out, hB⟩
set_option maxRecDepth 100000 in
set_option maxHeartbeats 40000000 in
theorem show_yes (w : World) (a : Option Addr) (n cap : Nat) (l : List Pt) (hl : Parts w a n l) (hn : n ≤ 4398046511104) (hW : WordsFit l) (hK : KindsFit l) (hTab : Tab w) (T : List UInt8) (hT : showT l T) :
    Calls Tryd.prog 6 #[.slice a n cap] w fun e w' => ShowIs l e ∧ Below w.heap.size w w' := by
  have hw := well_any w a n cap l hl hn
  rw [show_well hT] at hw
  have HR0 : Hid (T.length ≤ 1048576 → ShowIs l (.returned (.tuple #[.string ⟨T.toArray⟩, .int .i64 0]))) := Lib.hid (fun h => ⟨T, 0, rfl, (fun e => by rw [show_well hT] at e; cases e), fun T' hT' => by rw [← show_fun hT hT']; exact ⟨fun _ => ⟨rfl, rfl⟩, fun h' => by omega⟩⟩)
  have HR2 : Hid (1048576 < T.length → ShowIs l (.returned (.tuple #[.string ⟨#[]⟩, .int .i64 2]))) := Lib.hid (fun h => ⟨[], 2, rfl, (fun e => by rw [show_well hT] at e; cases e), fun T' hT' => by rw [← show_fun hT hT']; exact ⟨fun h' => by omega, fun _ => ⟨rfl, rfl⟩⟩⟩)
  have hpos : 0 < n := by
    have := goes_le (well_goes.1 (show_well hT))
    rw [kidsP_len, hl.1] at this; omega
  have HL := Lib.hid hl
  have HLN := Lib.hid hl.1
  have HTT := Lib.hid hT
  have HTB := Lib.hid hTab
  clear hl hT hTab
  obtain ⟨i0, hi0, hz0, hz1, hz2⟩ := info_parts info3
  have H1 := Lib.hid hi0
  have H2 := Lib.hid hz0
  have H3 := Lib.hid hz1
  have H4 := Lib.hid hz2
  clear hi0 hz0 hz1 hz2
  go_enter Tryd.func6, Tryd.ntmps6
  go_wp2_with (go_at_call 10; refine hw.mono ?_; rintro e w1 ⟨rfl, hB1⟩; have HB1 := Lib.hid hB1; clear hB1)
  go_loopw [5, 7, 8, 14] (fun v _ _ t wr => ∃ (i : Nat) (B : List UInt8) (st : List Nat), i ≤ n ∧ t = .int .i64 i ∧ Hid (InvS l T i B st) ∧ Hid (MineI wr w1.heap.size v (revI st)) ∧ Hid (Lib.IsBuilder 42 5 w1.heap.size w1.heap.size (Lib.byteCells B) wr) ∧ Hid (Below w1.heap.size w1 wr)) (fun _ _ _ t _ => n - (intOf t).toNat)
  case atStart => exact ⟨0, [], [], Nat.zero_le _, rfl, Lib.hid (inv_zero _ _), Lib.hid (mineI_nil _ _), Lib.hid (Lib.fresh_isBuilder 42 5 w1), Lib.hid ((Below.refl _ w1).alloc (Nat.le_refl _) _)⟩
  case round =>
    obtain ⟨i, B, st, hi, rfl, HV, HM, HI, HB⟩ := hrel
    obtain ⟨wo, rfl⟩ : ∃ wo : World, wo = wr := ⟨_, rfl⟩
    have hbl := HV.out.1
    have hsl := HV.out.2.1
    by_cases hlt : i < n
    · have HBW := Lib.hid (below_chain HB1.out HB.out)
      have hx := parts_some (parts_below HL.out HBW.out) hlt
      obtain ⟨g, off, rfl, c0, c1, c2⟩ := (parts_below HL.out HBW.out).2 i _ hx
      have HX := Lib.hid hx
      have hwf := hW _ (List.mem_of_getElem? hx)
      have hkf := hK _ (List.mem_of_getElem? hx)
      generalize l.getD i pt0 = x at c0 c1 c2 HX hwf hkf
      clear hx
      have HBa := Lib.hid (HB.out.alloc HB.out.size (.cells #[.int .u8 x.kind, .int .i64 x.kids, .string x.word] 33))
      have HPa : Hid ((wo.alloc (.cells #[.int .u8 x.kind, .int .i64 x.kids, .string x.word] 33)).heap[wo.heap.size]? = some (.cells #[.int .u8 x.kind, .int .i64 x.kids, .string x.word] 33 (0, 0))) := Lib.hid (heap_alloc_new wo _)
      have HIa := Lib.hid (builder_keep HI.out (keeps_alloc _ wo (.cells #[.int .u8 x.kind, .int .i64 x.kids, .string x.word] 33)))
      have HMa := Lib.hid (mineI_keep HM.out (keeps_alloc _ wo (.cells #[.int .u8 x.kind, .int .i64 x.kids, .string x.word] 33)))
      rcases inv_part HTT.out HV.out HX.out with ⟨hi00, rfl, rfl, s', h0, hTX, hST⟩ | ⟨hi0', c, r, s', rfl, h0, hTX, hST⟩
      · obtain ⟨a9, cap9, rfl⟩ := mineI_zero HM.out
        obtain ⟨B1, hB1⟩ : ∃ B1 : List UInt8, B1 = [] := ⟨_, rfl⟩
        obtain ⟨st1, hst1⟩ : ∃ st1 : List Nat, st1 = [] := ⟨_, rfl⟩
        have hB1l : B1.length ≤ 1048577 := by rw [hB1]; simp
        have hst1l : st1.length ≤ i := by rw [hst1]; simp
        obtain ⟨q, hq⟩ : ∃ q : Nat, x.kids = q := ⟨x.kids.toNat, by omega⟩
        rw [hq, Int.toNat_natCast] at hST
        rw [hq] at c1 HPa HIa HMa HBa
        have HTX : Hid (T = B1 ++ (partTx x ++ s')) := Lib.hid (by rw [hB1]; exact hTX)
        have HST : Hid (StTx l (i + 1) (q :: st1) s') := Lib.hid (by rw [hst1]; exact hST)
        obtain ⟨w2, hw2⟩ : ∃ w2, w2 = wo.alloc (.cells #[.int .u8 x.kind, .int .i64 q, .string x.word] 33) := ⟨_, rfl⟩
        rw [← hw2] at HPa HIa HMa HBa
        have HI2 : Hid (Lib.IsBuilder 42 5 w1.heap.size w1.heap.size (Lib.byteCells B1) w2) := Lib.hid (by rw [hB1]; exact HIa.out)
        have HM2 : Hid (MineI w2 w1.heap.size (.slice a9 0 cap9) (revI st1)) := Lib.hid (by rw [hst1]; exact HMa.out)
        have HP2 := HPa
        have HB2 := HBa
        have HW2 := Lib.hid hw2
        clear hTX hST hB1 hst1 HIa HMa HPa HBa hq h0 HI HM HB HV hw2 hbl hsl hi00
        go_upto_region 12 with fail
        rw [← HW2.out]
        go_wp2_with fail
        go_at_call 15
        refine (writeByte_keep _ _ _ 40 _ HI2.out (by rw [Lib.byteCells_length]; (try simp only [List.length_append, List.length_cons, List.length_nil]); omega) HB2.out.size).mono ?_
        rintro e w3 ⟨rfl, hI, hB, hK⟩
        have HI3 := Lib.hid (show Lib.IsBuilder 42 5 w1.heap.size w1.heap.size (Lib.byteCells (B1 ++ [40])) w3 by rw [Lib.byteCells_append]; exact .inr hI)
        have HM3 := Lib.hid (mineI_keep HM2.out (hK.sub (fun t ht => by subst ht; exact ⟨by decide, by decide⟩)))
        have HP3 := Lib.hid (hK _ _ _ _ ⟨by decide, by decide⟩ HP2.out)
        have HB3 := Lib.hid (HB2.out.trans hB)
        clear hI hB hK
        have k0 : w3.cell? ⟨wo.heap.size, 0, none⟩ = some (.int .u8 x.kind) := (cell_of_row w3 wo.heap.size 0 _ 33 (0, 0) HP3.out).trans rfl
        go_wp2_with fail
        go_at_call 17
        refine (itoa_any x.kind hkf _ (tab_below HTB.out (below_chain HB1.out HB3.out))).mono ?_
        rintro e w4 ⟨rfl, hB⟩
        clear k0
        have HI4 := Lib.hid (builder_keep HI3.out (Keeps.below hB))
        have HM4 := Lib.hid (mineI_keep HM3.out (Keeps.below hB))
        have HP4 := Lib.hid (Keeps.below (S := fun _ => True) hB _ _ _ _ trivial HP3.out)
        have HB4 := Lib.hid (HB3.out.trans (hB.mono HB3.out.size))
        clear hB
        go_wp2_with fail
        go_at_call 16
        refine (writeString_keep _ _ _ ⟨(digs x.kind).toArray⟩ _ HI4.out (by rw [Lib.byteCells_length, show (⟨(digs x.kind).toArray⟩ : ByteArray).size = (digs x.kind).length from rfl]; have := digs_len x.kind; simp only [List.length_append, List.length_cons, List.length_nil]; omega) HB4.out.size).mono ?_
        rintro e w5 ⟨rfl, hI, hB, hK⟩
        have HI5 := Lib.hid (show Lib.IsBuilder 42 5 w1.heap.size w1.heap.size (Lib.byteCells (B1 ++ [40] ++ digs x.kind)) w5 by rw [Lib.byteCells_append]; exact .inr hI)
        have HM5 := Lib.hid (mineI_keep HM4.out (hK.sub (fun t ht => by subst ht; exact ⟨by decide, by decide⟩)))
        have HP5 := Lib.hid (hK _ _ _ _ ⟨by decide, by decide⟩ HP4.out)
        have HB5 := Lib.hid (HB4.out.trans hB)
        clear hI hB hK
        have k2 : w5.cell? ⟨wo.heap.size, 2, none⟩ = some (.string x.word) := (cell_of_row w5 wo.heap.size 2 _ 33 (0, 0) HP5.out).trans rfl
        have hdl := digs_len x.kind
        by_cases hw0 : x.word.size = 0
        · have e0 : x.word.toList = [] := by rw [ByteArray.toList_eq]; exact List.eq_nil_of_length_eq_zero (by simpa using hw0)
          have e1 : x.word.toList.isEmpty = true := by rw [e0]; rfl
          obtain ⟨B2, hB2⟩ : ∃ B2, B2 = B1 ++ [40] ++ digs x.kind := ⟨_, rfl⟩
          have hB2l : B2.length ≤ 6000000 := by rw [hB2]; simp only [List.length_append, List.length_cons, List.length_nil]; omega
          have HTQ : Hid (x.word.size ≤ 1048576 → T = B2 ++ s') := Lib.hid (fun _ => by
            rw [HTX.out, hB2]; unfold partTx wordTx; rw [if_pos hw0]; simp)
          have HG : Hid (1048576 < x.word.size → 1048576 < T.length) := Lib.hid (fun h => by omega)
          rw [← hB2] at HI5
          clear hB2
          have hrl : (revI st1).length ≤ 4398046511104 := by rw [revI_len]; omega
          have hob := fun q hq => (HM5.out.lt q hq)
          have k1 : w5.cell? ⟨wo.heap.size, 1, none⟩ = some (.int .i64 (q : Int)) := (cell_of_row w5 wo.heap.size 1 _ 33 (0, 0) HP5.out).trans rfl
          go_wp2_with (at_builtin; refine wpList_append_own _ rfl _ _ 35 rfl w1.heap.size 3 i0 (.int .i64 0) 1 8 Tryd.underlying35 H1.out H2.out H3.out H4.out rfl (by decide) _ _ _ rfl (HM5.out.alloc _) ⟨_, 0, none⟩ 1 1 [.int .i64 q] rfl rfl (one_new _ _ _) (by intro u hu; simp at hu; subst hu; rfl) (by unfold maxLen; omega) (by omega) (by have := HB5.out.size; simp; omega) ?_)
          intro v6 w6 hown6 hg6 _
          have HM6 : Hid (MineI w6 w1.heap.size v6 (revI (q :: st1))) := Lib.hid (by rw [revI_cons]; exact mineI_snoc hown6)
          have hK6 := keeps_grown HM5.out hg6
          have hB6 : Below w1.heap.size w5 w6 := ((Below.refl _ w5).alloc HB5.out.size _).grown hg6 (by have := HB5.out.size; simp; omega) (fun q hq => (hob q hq).1)
          have HI6 := Lib.hid (builder_keep HI5.out (hK6.sub (fun t ht => by rcases ht with rfl | rfl <;> decide)))
          have HP6 := Lib.hid (hK6 _ _ _ _ (by decide) HP5.out)
          have HB6 := Lib.hid (HB5.out.trans hB6)
          clear hown6 hg6 hob hK6 hB6 k1
          obtain ⟨va6, vc6, rfl, _, _, _⟩ := mineI_ints HM6.out
          go_wp2
          go_loopw [5] (fun v wr => ∃ (z : Nat) (st2 : List Nat), Hid (q :: st1 = List.replicate z 0 ++ st2) ∧ Hid (MineI wr w1.heap.size v (revI st2)) ∧ Hid (Lib.IsBuilder 42 5 w1.heap.size w1.heap.size (Lib.byteCells (B2 ++ List.replicate z 41)) wr) ∧ Hid (wr.heap[wo.heap.size]? = some (.cells #[.int .u8 x.kind, .int .i64 q, .string x.word] 33 (0, 0))) ∧ Hid (Below w1.heap.size w1 wr)) (fun v _ => lenOf v)
          case atStart => exact ⟨0, q :: st1, Lib.hid rfl, HM6, Lib.hid (by rw [List.replicate_zero, List.append_nil]; exact HI6.out), HP6, HB6⟩
          case round =>
            obtain ⟨z, st2, HZ, HMz, HIz, HPz, HBz⟩ := hrel
            have hzl : z + st2.length = st1.length + 1 := by have := congrArg List.length HZ.out; simp at this; omega
            have hBz := HBz.out.size
            rcases stack_cases st2 with rfl | ⟨r2, rfl⟩ | ⟨c2, r2, rfl⟩
            rotate_left
            · obtain ⟨g2, cap2, cur2, rfl, hg2, hh2, hc2, hcap2, hcm2⟩ := mineI_top HMz.out
              have hl2 : r2.length ≤ 4398046511104 := by simp only [List.length_cons] at hzl; omega
              unfold maxLen at hcm2
              have HZ2 := Lib.hid (pops_step (st2 := r2) HZ.out rfl)
              go_wp2_with fail
              go_at_call 15
              refine (writeByte_keep _ _ _ 41 _ HIz.out (by rw [Lib.byteCells_length]; simp only [List.length_append, List.length_replicate, List.length_cons] at *; omega) HBz.out.size).mono ?_
              rintro e w7 ⟨rfl, hI, hB, hK⟩
              have HI7 := Lib.hid (show Lib.IsBuilder 42 5 w1.heap.size w1.heap.size (Lib.byteCells (B2 ++ List.replicate (z + 1) 41)) w7 by rw [List.replicate_succ', ← List.append_assoc, Lib.byteCells_append]; exact .inr hI)
              have HM7 := Lib.hid (mineI_pop (mineI_keep HMz.out (hK.sub (fun t ht => by subst ht; exact ⟨by decide, by decide⟩))))
              have HP7 := Lib.hid (hK _ _ _ _ ⟨by decide, by decide⟩ HPz.out)
              have HB7 := Lib.hid (HBz.out.trans hB)
              clear hI hB hK
              go_wp2
              go_roundw
              case rel => exact ⟨z + 1, r2, HZ2, HM7, HI7, HP7, HB7⟩
              case measure => simp [lenOf]
            rotate_left
            all_goals
              first
                | (obtain ⟨a9, cap9, rfl⟩ := mineI_zero HMz.out; obtain ⟨st2, hst2⟩ : ∃ st2 : List Nat, st2 = [] := ⟨_, rfl⟩; have HEX : Hid (st2 = [] ∨ ∃ c r, st2 = (c + 1) :: r) := Lib.hid (.inl hst2); rw [← hst2] at HZ HMz hzl; clear hst2)
                | (obtain ⟨g2, cap2, cur2, rfl, hg2, hh2, hc2, hcap2, hcm2⟩ := mineI_top HMz.out; have hl2 : r2.length ≤ 4398046511104 := by simp only [List.length_cons] at hzl; omega
                   unfold maxLen at hcm2
                   have hne2 : ¬ ((c2 + 1 : Nat) : Int) = 0 := by omega
                   obtain ⟨st2, hst2⟩ : ∃ st2 : List Nat, st2 = (c2 + 1) :: r2 := ⟨_, rfl⟩
                   have HEX : Hid (st2 = [] ∨ ∃ c r, st2 = (c + 1) :: r) := Lib.hid (.inr ⟨c2, r2, hst2⟩)
                   rw [← hst2] at HZ HMz hzl; have HS2 := Lib.hid hst2; clear hst2)
              have hxl : (B2 ++ List.replicate z 41).length ≤ 5000000000000 := by simp only [List.length_append, List.length_replicate]; omega
              have hXT := fun hw => inv_next (z := z) (st2 := st2) (HTQ.out hw) (by rw [← HZ.out]; exact HST.out) HEX.out (by omega)
              have HXT := Lib.hid hXT
              clear hXT
              obtain ⟨X, hX⟩ : ∃ X, X = B2 ++ List.replicate z 41 := ⟨_, rfl⟩
              rw [← hX] at HIz hxl HXT
              have k2 : wr.cell? ⟨wo.heap.size, 2, none⟩ = some (.string x.word) := (cell_of_row wr wo.heap.size 2 _ 33 (0, 0) HPz.out).trans rfl
              clear hX
              by_cases hbig : 1048576 < X.length
              · have d1 : decide (1048576 < X.length) = true := decide_eq_true hbig
                have HLT : Hid (1048576 < T.length) := Lib.hid (by
                  by_cases hw : x.word.size ≤ 1048576
                  · have := (HXT.out hw).1; omega
                  · exact HG.out (by omega))
                go_wp2_with (go_at_call 19; refine (Tryd.Builder_Len _ _ _ _ HIz.out).mono ?_; rintro e w8 ⟨rfl, rfl⟩; rw [Lib.byteCells_length])
                (try rw [Exit.noGoto_ret])
                go_ret2
                exact ⟨HR2.out HLT.out, below_chain HB1.out HBz.out⟩
              · have d1 : decide (1048576 < X.length) = false := decide_eq_false hbig
                by_cases hw : 1048576 < x.word.size
                · first
                    | (exfalso; omega)
                    | (have d2 : decide (1048576 < x.word.size) = true := decide_eq_true hw
                       have HLT := Lib.hid (HG.out hw)
                       go_wp2_with (go_at_call 19; refine (Tryd.Builder_Len _ _ _ _ HIz.out).mono ?_; rintro e w8 ⟨rfl, rfl⟩; rw [Lib.byteCells_length])
                       go_ret2
                       exact ⟨HR2.out HLT.out, below_chain HB1.out HBz.out⟩)
                · first
                    | (exfalso; omega)
                    | (have d2 : decide (1048576 < x.word.size) = false := decide_eq_false hw
                       have HNX := Lib.hid ((HXT.out (by omega)).2 (by omega))
                       go_wp2_with (go_at_call 19; refine (Tryd.Builder_Len _ _ _ _ HIz.out).mono ?_; rintro e w8 ⟨rfl, rfl⟩; rw [Lib.byteCells_length])
                       go_roundw
                       case rel => exact ⟨i + 1, X, st2, hlt, by go_num, HNX, HMz, HIz, HBz⟩
                       case measure => simp [intOf]; omega)

        · have e0 : ¬ x.word.toList = [] := by
            intro e; apply hw0
            rw [ByteArray.toList_eq] at e
            have := congrArg List.length e
            simpa using this
          have e1 : x.word.toList.isEmpty = false := by simpa using e0
          by_cases hw1 : x.word.size ≤ 1048576
          · have d0 : decide (x.word.size ≤ 1048576) = true := decide_eq_true hw1
            go_wp2_with fail
            go_at_call 15
            refine (writeByte_keep _ _ _ 32 _ HI5.out (by rw [Lib.byteCells_length]; (try simp only [List.length_append, List.length_cons, List.length_nil]); omega) HB5.out.size).mono ?_
            rintro e wa ⟨rfl, hI, hB, hK⟩
            have HIa := Lib.hid (show Lib.IsBuilder 42 5 w1.heap.size w1.heap.size (Lib.byteCells (B1 ++ [40] ++ digs x.kind ++ [32])) wa by rw [Lib.byteCells_append]; exact .inr hI)
            have HMa := Lib.hid (mineI_keep HM5.out (hK.sub (fun t ht => by subst ht; exact ⟨by decide, by decide⟩)))
            have HPa := Lib.hid (hK _ _ _ _ ⟨by decide, by decide⟩ HP5.out)
            have HBa := Lib.hid (HB5.out.trans hB)
            clear hI hB hK

            have k3 : wa.cell? ⟨wo.heap.size, 2, none⟩ = some (.string x.word) := (cell_of_row wa wo.heap.size 2 _ 33 (0, 0) HPa.out).trans rfl
            go_wp2_with fail
            go_at_call 18
            refine (quote_any x.word (by omega) _).mono ?_
            rintro e wb ⟨rfl, hB⟩
            clear k3
            have HIb := Lib.hid (builder_keep HIa.out (Keeps.below hB))
            have HMb := Lib.hid (mineI_keep HMa.out (Keeps.below hB))
            have HPb := Lib.hid (Keeps.below (S := fun _ => True) hB _ _ _ _ trivial HPa.out)
            have HBb := Lib.hid (HBa.out.trans (hB.mono HBa.out.size))
            clear hB

            have hql := quoteOf_len x.word.data.toList
            have hwl : x.word.data.toList.length = x.word.size := by simp
            rw [hwl] at hql
            go_wp2_with fail
            go_at_call 16
            refine (writeString_keep _ _ _ ⟨(quoteOf x.word.data.toList).toArray⟩ _ HIb.out (by rw [Lib.byteCells_length, show (⟨(quoteOf x.word.data.toList).toArray⟩ : ByteArray).size = (quoteOf x.word.data.toList).length from rfl]; simp only [List.length_append, List.length_cons, List.length_nil]; omega) HBb.out.size).mono ?_
            rintro e wc ⟨rfl, hI, hB, hK⟩
            have HIc := Lib.hid (show Lib.IsBuilder 42 5 w1.heap.size w1.heap.size (Lib.byteCells (B1 ++ [40] ++ digs x.kind ++ [32] ++ quoteOf x.word.data.toList)) wc by rw [Lib.byteCells_append]; exact .inr hI)
            have HMc := Lib.hid (mineI_keep HMb.out (hK.sub (fun t ht => by subst ht; exact ⟨by decide, by decide⟩)))
            have HPc := Lib.hid (hK _ _ _ _ ⟨by decide, by decide⟩ HPb.out)
            have HBc := Lib.hid (HBb.out.trans hB)
            clear hI hB hK

            obtain ⟨B2, hB2⟩ : ∃ B2, B2 = B1 ++ [40] ++ digs x.kind ++ [32] ++ quoteOf x.word.data.toList := ⟨_, rfl⟩
            have hB2l : B2.length ≤ 6000000 := by rw [hB2]; simp only [List.length_append, List.length_cons, List.length_nil]; omega
            have HTQ : Hid (x.word.size ≤ 1048576 → T = B2 ++ s') := Lib.hid (fun _ => by
              rw [HTX.out, hB2]; unfold partTx wordTx; rw [if_neg hw0]; simp)
            have HG : Hid (1048576 < x.word.size → 1048576 < T.length) := Lib.hid (fun h => by omega)
            rw [← hB2] at HIc
            clear hB2 hql hwl
            have hrl : (revI st1).length ≤ 4398046511104 := by rw [revI_len]; omega
            have hob := fun q hq => (HMc.out.lt q hq)
            have k1 : wc.cell? ⟨wo.heap.size, 1, none⟩ = some (.int .i64 (q : Int)) := (cell_of_row wc wo.heap.size 1 _ 33 (0, 0) HPc.out).trans rfl
            go_wp2_with (at_builtin; refine wpList_append_own _ rfl _ _ 35 rfl w1.heap.size 3 i0 (.int .i64 0) 1 8 Tryd.underlying35 H1.out H2.out H3.out H4.out rfl (by decide) _ _ _ rfl (HMc.out.alloc _) ⟨_, 0, none⟩ 1 1 [.int .i64 q] rfl rfl (one_new _ _ _) (by intro u hu; simp at hu; subst hu; rfl) (by unfold maxLen; omega) (by omega) (by have := HBc.out.size; simp; omega) ?_)
            intro v6 w6 hown6 hg6 _
            have HM6 : Hid (MineI w6 w1.heap.size v6 (revI (q :: st1))) := Lib.hid (by rw [revI_cons]; exact mineI_snoc hown6)
            have hK6 := keeps_grown HMc.out hg6
            have hB6 : Below w1.heap.size wc w6 := ((Below.refl _ wc).alloc HBc.out.size _).grown hg6 (by have := HBc.out.size; simp; omega) (fun q hq => (hob q hq).1)
            have HI6 := Lib.hid (builder_keep HIc.out (hK6.sub (fun t ht => by rcases ht with rfl | rfl <;> decide)))
            have HP6 := Lib.hid (hK6 _ _ _ _ (by decide) HPc.out)
            have HB6 := Lib.hid (HBc.out.trans hB6)
            clear hown6 hg6 hob hK6 hB6 k1
            obtain ⟨va6, vc6, rfl, _, _, _⟩ := mineI_ints HM6.out
            go_wp2
            go_loopw [5] (fun v wr => ∃ (z : Nat) (st2 : List Nat), Hid (q :: st1 = List.replicate z 0 ++ st2) ∧ Hid (MineI wr w1.heap.size v (revI st2)) ∧ Hid (Lib.IsBuilder 42 5 w1.heap.size w1.heap.size (Lib.byteCells (B2 ++ List.replicate z 41)) wr) ∧ Hid (wr.heap[wo.heap.size]? = some (.cells #[.int .u8 x.kind, .int .i64 q, .string x.word] 33 (0, 0))) ∧ Hid (Below w1.heap.size w1 wr)) (fun v _ => lenOf v)
            case atStart => exact ⟨0, q :: st1, Lib.hid rfl, HM6, Lib.hid (by rw [List.replicate_zero, List.append_nil]; exact HI6.out), HP6, HB6⟩
            case round =>
              obtain ⟨z, st2, HZ, HMz, HIz, HPz, HBz⟩ := hrel
              have hzl : z + st2.length = st1.length + 1 := by have := congrArg List.length HZ.out; simp at this; omega
              have hBz := HBz.out.size
              rcases stack_cases st2 with rfl | ⟨r2, rfl⟩ | ⟨c2, r2, rfl⟩
              rotate_left
              · obtain ⟨g2, cap2, cur2, rfl, hg2, hh2, hc2, hcap2, hcm2⟩ := mineI_top HMz.out
                have hl2 : r2.length ≤ 4398046511104 := by simp only [List.length_cons] at hzl; omega
                unfold maxLen at hcm2
                have HZ2 := Lib.hid (pops_step (st2 := r2) HZ.out rfl)
                go_wp2_with fail
                go_at_call 15
                refine (writeByte_keep _ _ _ 41 _ HIz.out (by rw [Lib.byteCells_length]; simp only [List.length_append, List.length_replicate, List.length_cons] at *; omega) HBz.out.size).mono ?_
                rintro e w7 ⟨rfl, hI, hB, hK⟩
                have HI7 := Lib.hid (show Lib.IsBuilder 42 5 w1.heap.size w1.heap.size (Lib.byteCells (B2 ++ List.replicate (z + 1) 41)) w7 by rw [List.replicate_succ', ← List.append_assoc, Lib.byteCells_append]; exact .inr hI)
                have HM7 := Lib.hid (mineI_pop (mineI_keep HMz.out (hK.sub (fun t ht => by subst ht; exact ⟨by decide, by decide⟩))))
                have HP7 := Lib.hid (hK _ _ _ _ ⟨by decide, by decide⟩ HPz.out)
                have HB7 := Lib.hid (HBz.out.trans hB)
                clear hI hB hK
                go_wp2
                go_roundw
                case rel => exact ⟨z + 1, r2, HZ2, HM7, HI7, HP7, HB7⟩
                case measure => simp [lenOf]
              rotate_left
              all_goals
                first
                  | (obtain ⟨a9, cap9, rfl⟩ := mineI_zero HMz.out; obtain ⟨st2, hst2⟩ : ∃ st2 : List Nat, st2 = [] := ⟨_, rfl⟩; have HEX : Hid (st2 = [] ∨ ∃ c r, st2 = (c + 1) :: r) := Lib.hid (.inl hst2); rw [← hst2] at HZ HMz hzl; clear hst2)
                  | (obtain ⟨g2, cap2, cur2, rfl, hg2, hh2, hc2, hcap2, hcm2⟩ := mineI_top HMz.out; have hl2 : r2.length ≤ 4398046511104 := by simp only [List.length_cons] at hzl; omega
                     unfold maxLen at hcm2
                     have hne2 : ¬ ((c2 + 1 : Nat) : Int) = 0 := by omega
                     obtain ⟨st2, hst2⟩ : ∃ st2 : List Nat, st2 = (c2 + 1) :: r2 := ⟨_, rfl⟩
                     have HEX : Hid (st2 = [] ∨ ∃ c r, st2 = (c + 1) :: r) := Lib.hid (.inr ⟨c2, r2, hst2⟩)
                     rw [← hst2] at HZ HMz hzl; have HS2 := Lib.hid hst2; clear hst2)
                have hxl : (B2 ++ List.replicate z 41).length ≤ 5000000000000 := by simp only [List.length_append, List.length_replicate]; omega
                have hXT := fun hw => inv_next (z := z) (st2 := st2) (HTQ.out hw) (by rw [← HZ.out]; exact HST.out) HEX.out (by omega)
                have HXT := Lib.hid hXT
                clear hXT
                obtain ⟨X, hX⟩ : ∃ X, X = B2 ++ List.replicate z 41 := ⟨_, rfl⟩
                rw [← hX] at HIz hxl HXT
                have k2 : wr.cell? ⟨wo.heap.size, 2, none⟩ = some (.string x.word) := (cell_of_row wr wo.heap.size 2 _ 33 (0, 0) HPz.out).trans rfl
                clear hX
                by_cases hbig : 1048576 < X.length
                · have d1 : decide (1048576 < X.length) = true := decide_eq_true hbig
                  have HLT : Hid (1048576 < T.length) := Lib.hid (by
                    by_cases hw : x.word.size ≤ 1048576
                    · have := (HXT.out hw).1; omega
                    · exact HG.out (by omega))
                  go_wp2_with (go_at_call 19; refine (Tryd.Builder_Len _ _ _ _ HIz.out).mono ?_; rintro e w8 ⟨rfl, rfl⟩; rw [Lib.byteCells_length])
                  (try rw [Exit.noGoto_ret])
                  go_ret2
                  exact ⟨HR2.out HLT.out, below_chain HB1.out HBz.out⟩
                · have d1 : decide (1048576 < X.length) = false := decide_eq_false hbig
                  by_cases hw : 1048576 < x.word.size
                  · first
                      | (exfalso; omega)
                      | (have d2 : decide (1048576 < x.word.size) = true := decide_eq_true hw
                         have HLT := Lib.hid (HG.out hw)
                         go_wp2_with (go_at_call 19; refine (Tryd.Builder_Len _ _ _ _ HIz.out).mono ?_; rintro e w8 ⟨rfl, rfl⟩; rw [Lib.byteCells_length])
                         go_ret2
                         exact ⟨HR2.out HLT.out, below_chain HB1.out HBz.out⟩)
                  · first
                      | (exfalso; omega)
                      | (have d2 : decide (1048576 < x.word.size) = false := decide_eq_false hw
                         have HNX := Lib.hid ((HXT.out (by omega)).2 (by omega))
                         go_wp2_with (go_at_call 19; refine (Tryd.Builder_Len _ _ _ _ HIz.out).mono ?_; rintro e w8 ⟨rfl, rfl⟩; rw [Lib.byteCells_length])
                         go_roundw
                         case rel => exact ⟨i + 1, X, st2, hlt, by go_num, HNX, HMz, HIz, HBz⟩
                         case measure => simp [intOf]; omega)

          · have d0 : decide (x.word.size ≤ 1048576) = false := decide_eq_false hw1
            obtain ⟨B2, hB2⟩ : ∃ B2, B2 = B1 ++ [40] ++ digs x.kind := ⟨_, rfl⟩
            have hB2l : B2.length ≤ 6000000 := by rw [hB2]; simp only [List.length_append, List.length_cons, List.length_nil]; omega
            have HTQ : Hid (x.word.size ≤ 1048576 → T = B2 ++ s') := Lib.hid (fun h => absurd h hw1)
            have HG : Hid (1048576 < x.word.size → 1048576 < T.length) := Lib.hid (fun h => by
              have := part_len x
              rw [HTX.out]; simp only [List.length_append]; omega)
            rw [← hB2] at HI5
            clear hB2
            have hrl : (revI st1).length ≤ 4398046511104 := by rw [revI_len]; omega
            have hob := fun q hq => (HM5.out.lt q hq)
            have k1 : w5.cell? ⟨wo.heap.size, 1, none⟩ = some (.int .i64 (q : Int)) := (cell_of_row w5 wo.heap.size 1 _ 33 (0, 0) HP5.out).trans rfl
            go_wp2_with (at_builtin; refine wpList_append_own _ rfl _ _ 35 rfl w1.heap.size 3 i0 (.int .i64 0) 1 8 Tryd.underlying35 H1.out H2.out H3.out H4.out rfl (by decide) _ _ _ rfl (HM5.out.alloc _) ⟨_, 0, none⟩ 1 1 [.int .i64 q] rfl rfl (one_new _ _ _) (by intro u hu; simp at hu; subst hu; rfl) (by unfold maxLen; omega) (by omega) (by have := HB5.out.size; simp; omega) ?_)
            intro v6 w6 hown6 hg6 _
            have HM6 : Hid (MineI w6 w1.heap.size v6 (revI (q :: st1))) := Lib.hid (by rw [revI_cons]; exact mineI_snoc hown6)
            have hK6 := keeps_grown HM5.out hg6
            have hB6 : Below w1.heap.size w5 w6 := ((Below.refl _ w5).alloc HB5.out.size _).grown hg6 (by have := HB5.out.size; simp; omega) (fun q hq => (hob q hq).1)
            have HI6 := Lib.hid (builder_keep HI5.out (hK6.sub (fun t ht => by rcases ht with rfl | rfl <;> decide)))
            have HP6 := Lib.hid (hK6 _ _ _ _ (by decide) HP5.out)
            have HB6 := Lib.hid (HB5.out.trans hB6)
            clear hown6 hg6 hob hK6 hB6 k1
            obtain ⟨va6, vc6, rfl, _, _, _⟩ := mineI_ints HM6.out
            go_wp2
            go_loopw [5] (fun v wr => ∃ (z : Nat) (st2 : List Nat), Hid (q :: st1 = List.replicate z 0 ++ st2) ∧ Hid (MineI wr w1.heap.size v (revI st2)) ∧ Hid (Lib.IsBuilder 42 5 w1.heap.size w1.heap.size (Lib.byteCells (B2 ++ List.replicate z 41)) wr) ∧ Hid (wr.heap[wo.heap.size]? = some (.cells #[.int .u8 x.kind, .int .i64 q, .string x.word] 33 (0, 0))) ∧ Hid (Below w1.heap.size w1 wr)) (fun v _ => lenOf v)
            case atStart => exact ⟨0, q :: st1, Lib.hid rfl, HM6, Lib.hid (by rw [List.replicate_zero, List.append_nil]; exact HI6.out), HP6, HB6⟩
            case round =>
              obtain ⟨z, st2, HZ, HMz, HIz, HPz, HBz⟩ := hrel
              have hzl : z + st2.length = st1.length + 1 := by have := congrArg List.length HZ.out; simp at this; omega
              have hBz := HBz.out.size
              rcases stack_cases st2 with rfl | ⟨r2, rfl⟩ | ⟨c2, r2, rfl⟩
              rotate_left
              · obtain ⟨g2, cap2, cur2, rfl, hg2, hh2, hc2, hcap2, hcm2⟩ := mineI_top HMz.out
                have hl2 : r2.length ≤ 4398046511104 := by simp only [List.length_cons] at hzl; omega
                unfold maxLen at hcm2
                have HZ2 := Lib.hid (pops_step (st2 := r2) HZ.out rfl)
                go_wp2_with fail
                go_at_call 15
                refine (writeByte_keep _ _ _ 41 _ HIz.out (by rw [Lib.byteCells_length]; simp only [List.length_append, List.length_replicate, List.length_cons] at *; omega) HBz.out.size).mono ?_
                rintro e w7 ⟨rfl, hI, hB, hK⟩
                have HI7 := Lib.hid (show Lib.IsBuilder 42 5 w1.heap.size w1.heap.size (Lib.byteCells (B2 ++ List.replicate (z + 1) 41)) w7 by rw [List.replicate_succ', ← List.append_assoc, Lib.byteCells_append]; exact .inr hI)
                have HM7 := Lib.hid (mineI_pop (mineI_keep HMz.out (hK.sub (fun t ht => by subst ht; exact ⟨by decide, by decide⟩))))
                have HP7 := Lib.hid (hK _ _ _ _ ⟨by decide, by decide⟩ HPz.out)
                have HB7 := Lib.hid (HBz.out.trans hB)
                clear hI hB hK
                go_wp2
                go_roundw
                case rel => exact ⟨z + 1, r2, HZ2, HM7, HI7, HP7, HB7⟩
                case measure => simp [lenOf]
              rotate_left
              all_goals
                first
                  | (obtain ⟨a9, cap9, rfl⟩ := mineI_zero HMz.out; obtain ⟨st2, hst2⟩ : ∃ st2 : List Nat, st2 = [] := ⟨_, rfl⟩; have HEX : Hid (st2 = [] ∨ ∃ c r, st2 = (c + 1) :: r) := Lib.hid (.inl hst2); rw [← hst2] at HZ HMz hzl; clear hst2)
                  | (obtain ⟨g2, cap2, cur2, rfl, hg2, hh2, hc2, hcap2, hcm2⟩ := mineI_top HMz.out; have hl2 : r2.length ≤ 4398046511104 := by simp only [List.length_cons] at hzl; omega
                     unfold maxLen at hcm2
                     have hne2 : ¬ ((c2 + 1 : Nat) : Int) = 0 := by omega
                     obtain ⟨st2, hst2⟩ : ∃ st2 : List Nat, st2 = (c2 + 1) :: r2 := ⟨_, rfl⟩
                     have HEX : Hid (st2 = [] ∨ ∃ c r, st2 = (c + 1) :: r) := Lib.hid (.inr ⟨c2, r2, hst2⟩)
                     rw [← hst2] at HZ HMz hzl; have HS2 := Lib.hid hst2; clear hst2)
                have hxl : (B2 ++ List.replicate z 41).length ≤ 5000000000000 := by simp only [List.length_append, List.length_replicate]; omega
                have hXT := fun hw => inv_next (z := z) (st2 := st2) (HTQ.out hw) (by rw [← HZ.out]; exact HST.out) HEX.out (by omega)
                have HXT := Lib.hid hXT
                clear hXT
                obtain ⟨X, hX⟩ : ∃ X, X = B2 ++ List.replicate z 41 := ⟨_, rfl⟩
                rw [← hX] at HIz hxl HXT
                have k2 : wr.cell? ⟨wo.heap.size, 2, none⟩ = some (.string x.word) := (cell_of_row wr wo.heap.size 2 _ 33 (0, 0) HPz.out).trans rfl
                clear hX
                by_cases hbig : 1048576 < X.length
                · have d1 : decide (1048576 < X.length) = true := decide_eq_true hbig
                  have HLT : Hid (1048576 < T.length) := Lib.hid (by
                    by_cases hw : x.word.size ≤ 1048576
                    · have := (HXT.out hw).1; omega
                    · exact HG.out (by omega))
                  go_wp2_with (go_at_call 19; refine (Tryd.Builder_Len _ _ _ _ HIz.out).mono ?_; rintro e w8 ⟨rfl, rfl⟩; rw [Lib.byteCells_length])
                  (try rw [Exit.noGoto_ret])
                  go_ret2
                  exact ⟨HR2.out HLT.out, below_chain HB1.out HBz.out⟩
                · have d1 : decide (1048576 < X.length) = false := decide_eq_false hbig
                  by_cases hw : 1048576 < x.word.size
                  · first
                      | (exfalso; omega)
                      | (have d2 : decide (1048576 < x.word.size) = true := decide_eq_true hw
                         have HLT := Lib.hid (HG.out hw)
                         go_wp2_with (go_at_call 19; refine (Tryd.Builder_Len _ _ _ _ HIz.out).mono ?_; rintro e w8 ⟨rfl, rfl⟩; rw [Lib.byteCells_length])
                         go_ret2
                         exact ⟨HR2.out HLT.out, below_chain HB1.out HBz.out⟩)
                  · first
                      | (exfalso; omega)
                      | (have d2 : decide (1048576 < x.word.size) = false := decide_eq_false hw
                         have HNX := Lib.hid ((HXT.out (by omega)).2 (by omega))
                         go_wp2_with (go_at_call 19; refine (Tryd.Builder_Len _ _ _ _ HIz.out).mono ?_; rintro e w8 ⟨rfl, rfl⟩; rw [Lib.byteCells_length])
                         go_roundw
                         case rel => exact ⟨i + 1, X, st2, hlt, by go_num, HNX, HMz, HIz, HBz⟩
                         case measure => simp [intOf]; omega)

      · obtain ⟨gs, caps, curs, rfl, hgs, hhs, hcs, hcaps, hcms⟩ := mineI_top HM.out
        obtain ⟨q, hq⟩ : ∃ q : Nat, x.kids = q := ⟨x.kids.toNat, by omega⟩
        obtain ⟨B1, hB1⟩ : ∃ B1 : List UInt8, B1 = B ++ [32] := ⟨_, rfl⟩
        obtain ⟨st1, hst1⟩ : ∃ st1 : List Nat, st1 = c :: r := ⟨_, rfl⟩
        have hB1l : B1.length ≤ 1048577 := by rw [hB1]; simp; omega
        have hst1l : st1.length ≤ i := by rw [hst1]; exact hsl
        have hrl0 : r.length ≤ 4398046511104 := by simp only [List.length_cons] at hsl; omega
        unfold maxLen at hcms
        rw [hq, Int.toNat_natCast] at hST
        rw [hq] at c1 HPa HIa HMa HBa
        have HTX : Hid (T = B1 ++ (partTx x ++ s')) := Lib.hid (by rw [hB1]; exact hTX)
        have HST : Hid (StTx l (i + 1) (q :: st1) s') := Lib.hid (by rw [hst1]; exact hST)
        have hcl : c ≤ 4398046511104 := by have := st_le n hST HLN.out.symm; omega
        have hfr0 := frozen_of_row wo gs r.length _ 3 hhs
        have hgl : gs < wo.heap.size := (Array.getElem?_eq_some_iff.1 hhs).1
        obtain ⟨w2, hw2⟩ : ∃ w2, w2 = (wo.setCell ⟨gs, r.length, none⟩ (.int .i64 (c : Int))).alloc (.cells #[.int .u8 x.kind, .int .i64 q, .string x.word] 33) := ⟨_, rfl⟩
        have hKs : Keeps (fun t => t ≠ 3) wo w2 := by rw [hw2]; exact (keeps_set hhs).trans (keeps_alloc _ _ _)
        have HI2s := Lib.hid (builder_keep HI.out (hKs.sub (fun t ht => by rcases ht with rfl | rfl <;> decide)))
        have HM2s : Hid (MineI w2 w1.heap.size (.slice (some ⟨gs, 0, none⟩) (r.length + 1) caps) (revI st1)) := Lib.hid (by rw [hw2, hst1]; exact mineI_keep (mineI_set c HM.out) (keeps_alloc _ _ _))
        have HP2s : Hid (w2.heap[wo.heap.size]? = some (.cells #[.int .u8 x.kind, .int .i64 q, .string x.word] 33 (0, 0))) := Lib.hid (by
          rw [hw2]
          have := heap_alloc_new (wo.setCell ⟨gs, r.length, none⟩ (.int .i64 (c : Int))) (.cells #[.int .u8 x.kind, .int .i64 q, .string x.word] 33)
          rwa [World.size_setCell] at this)
        have HB2s : Hid (Below w1.heap.size w1 w2) := Lib.hid (by rw [hw2]; exact (HB.out.setCell (p := ⟨gs, r.length, none⟩) hgs _).alloc (by rw [World.size_setCell]; exact HB.out.size) _)
        have HW2 := Lib.hid hw2
        have hBl : B.length ≤ 1048576 := hbl
        have HB1E := Lib.hid hB1
        clear hTX hST hB1 hst1 HIa HMa HPa HBa hq h0 HI HM HB HV hw2 hbl hsl hKs hhs hcaps
        go_upto_region 11 with fail
        rw [← HW2.out]
        go_wp2_with fail
        go_at_call 15
        refine (writeByte_keep _ _ _ 32 _ HI2s.out (by rw [Lib.byteCells_length]; omega) HB2s.out.size).mono ?_
        rintro e w2b ⟨rfl, hI, hB, hK⟩
        have HI2 := Lib.hid (show Lib.IsBuilder 42 5 w1.heap.size w1.heap.size (Lib.byteCells B1) w2b by rw [HB1E.out, Lib.byteCells_append]; exact .inr hI)
        have HM2 := Lib.hid (mineI_keep HM2s.out (hK.sub (fun t ht => by subst ht; exact ⟨by decide, by decide⟩)))
        have HP2 := Lib.hid (hK _ _ _ _ ⟨by decide, by decide⟩ HP2s.out)
        have HB2 := Lib.hid (HB2s.out.trans hB)
        clear hI hB hK
        go_wp2_with fail
        go_at_call 15
        refine (writeByte_keep _ _ _ 40 _ HI2.out (by rw [Lib.byteCells_length]; (try simp only [List.length_append, List.length_cons, List.length_nil]); omega) HB2.out.size).mono ?_
        rintro e w3 ⟨rfl, hI, hB, hK⟩
        have HI3 := Lib.hid (show Lib.IsBuilder 42 5 w1.heap.size w1.heap.size (Lib.byteCells (B1 ++ [40])) w3 by rw [Lib.byteCells_append]; exact .inr hI)
        have HM3 := Lib.hid (mineI_keep HM2.out (hK.sub (fun t ht => by subst ht; exact ⟨by decide, by decide⟩)))
        have HP3 := Lib.hid (hK _ _ _ _ ⟨by decide, by decide⟩ HP2.out)
        have HB3 := Lib.hid (HB2.out.trans hB)
        clear hI hB hK
        have k0 : w3.cell? ⟨wo.heap.size, 0, none⟩ = some (.int .u8 x.kind) := (cell_of_row w3 wo.heap.size 0 _ 33 (0, 0) HP3.out).trans rfl
        go_wp2_with fail
        go_at_call 17
        refine (itoa_any x.kind hkf _ (tab_below HTB.out (below_chain HB1.out HB3.out))).mono ?_
        rintro e w4 ⟨rfl, hB⟩
        clear k0
        have HI4 := Lib.hid (builder_keep HI3.out (Keeps.below hB))
        have HM4 := Lib.hid (mineI_keep HM3.out (Keeps.below hB))
        have HP4 := Lib.hid (Keeps.below (S := fun _ => True) hB _ _ _ _ trivial HP3.out)
        have HB4 := Lib.hid (HB3.out.trans (hB.mono HB3.out.size))
        clear hB
        go_wp2_with fail
        go_at_call 16
        refine (writeString_keep _ _ _ ⟨(digs x.kind).toArray⟩ _ HI4.out (by rw [Lib.byteCells_length, show (⟨(digs x.kind).toArray⟩ : ByteArray).size = (digs x.kind).length from rfl]; have := digs_len x.kind; simp only [List.length_append, List.length_cons, List.length_nil]; omega) HB4.out.size).mono ?_
        rintro e w5 ⟨rfl, hI, hB, hK⟩
        have HI5 := Lib.hid (show Lib.IsBuilder 42 5 w1.heap.size w1.heap.size (Lib.byteCells (B1 ++ [40] ++ digs x.kind)) w5 by rw [Lib.byteCells_append]; exact .inr hI)
        have HM5 := Lib.hid (mineI_keep HM4.out (hK.sub (fun t ht => by subst ht; exact ⟨by decide, by decide⟩)))
        have HP5 := Lib.hid (hK _ _ _ _ ⟨by decide, by decide⟩ HP4.out)
        have HB5 := Lib.hid (HB4.out.trans hB)
        clear hI hB hK
        have k2 : w5.cell? ⟨wo.heap.size, 2, none⟩ = some (.string x.word) := (cell_of_row w5 wo.heap.size 2 _ 33 (0, 0) HP5.out).trans rfl
        have hdl := digs_len x.kind
        by_cases hw0 : x.word.size = 0
        · have e0 : x.word.toList = [] := by rw [ByteArray.toList_eq]; exact List.eq_nil_of_length_eq_zero (by simpa using hw0)
          have e1 : x.word.toList.isEmpty = true := by rw [e0]; rfl
          obtain ⟨B2, hB2⟩ : ∃ B2, B2 = B1 ++ [40] ++ digs x.kind := ⟨_, rfl⟩
          have hB2l : B2.length ≤ 6000000 := by rw [hB2]; simp only [List.length_append, List.length_cons, List.length_nil]; omega
          have HTQ : Hid (x.word.size ≤ 1048576 → T = B2 ++ s') := Lib.hid (fun _ => by
            rw [HTX.out, hB2]; unfold partTx wordTx; rw [if_pos hw0]; simp)
          have HG : Hid (1048576 < x.word.size → 1048576 < T.length) := Lib.hid (fun h => by omega)
          rw [← hB2] at HI5
          clear hB2
          have hrl : (revI st1).length ≤ 4398046511104 := by rw [revI_len]; omega
          have hob := fun q hq => (HM5.out.lt q hq)
          have k1 : w5.cell? ⟨wo.heap.size, 1, none⟩ = some (.int .i64 (q : Int)) := (cell_of_row w5 wo.heap.size 1 _ 33 (0, 0) HP5.out).trans rfl
          go_wp2_with (at_builtin; refine wpList_append_own _ rfl _ _ 35 rfl w1.heap.size 3 i0 (.int .i64 0) 1 8 Tryd.underlying35 H1.out H2.out H3.out H4.out rfl (by decide) _ _ _ rfl (HM5.out.alloc _) ⟨_, 0, none⟩ 1 1 [.int .i64 q] rfl rfl (one_new _ _ _) (by intro u hu; simp at hu; subst hu; rfl) (by unfold maxLen; omega) (by omega) (by have := HB5.out.size; simp; omega) ?_)
          intro v6 w6 hown6 hg6 _
          have HM6 : Hid (MineI w6 w1.heap.size v6 (revI (q :: st1))) := Lib.hid (by rw [revI_cons]; exact mineI_snoc hown6)
          have hK6 := keeps_grown HM5.out hg6
          have hB6 : Below w1.heap.size w5 w6 := ((Below.refl _ w5).alloc HB5.out.size _).grown hg6 (by have := HB5.out.size; simp; omega) (fun q hq => (hob q hq).1)
          have HI6 := Lib.hid (builder_keep HI5.out (hK6.sub (fun t ht => by rcases ht with rfl | rfl <;> decide)))
          have HP6 := Lib.hid (hK6 _ _ _ _ (by decide) HP5.out)
          have HB6 := Lib.hid (HB5.out.trans hB6)
          clear hown6 hg6 hob hK6 hB6 k1
          obtain ⟨va6, vc6, rfl, _, _, _⟩ := mineI_ints HM6.out
          go_wp2
          go_loopw [5] (fun v wr => ∃ (z : Nat) (st2 : List Nat), Hid (q :: st1 = List.replicate z 0 ++ st2) ∧ Hid (MineI wr w1.heap.size v (revI st2)) ∧ Hid (Lib.IsBuilder 42 5 w1.heap.size w1.heap.size (Lib.byteCells (B2 ++ List.replicate z 41)) wr) ∧ Hid (wr.heap[wo.heap.size]? = some (.cells #[.int .u8 x.kind, .int .i64 q, .string x.word] 33 (0, 0))) ∧ Hid (Below w1.heap.size w1 wr)) (fun v _ => lenOf v)
          case atStart => exact ⟨0, q :: st1, Lib.hid rfl, HM6, Lib.hid (by rw [List.replicate_zero, List.append_nil]; exact HI6.out), HP6, HB6⟩
          case round =>
            obtain ⟨z, st2, HZ, HMz, HIz, HPz, HBz⟩ := hrel
            have hzl : z + st2.length = st1.length + 1 := by have := congrArg List.length HZ.out; simp at this; omega
            have hBz := HBz.out.size
            rcases stack_cases st2 with rfl | ⟨r2, rfl⟩ | ⟨c2, r2, rfl⟩
            rotate_left
            · obtain ⟨g2, cap2, cur2, rfl, hg2, hh2, hc2, hcap2, hcm2⟩ := mineI_top HMz.out
              have hl2 : r2.length ≤ 4398046511104 := by simp only [List.length_cons] at hzl; omega
              unfold maxLen at hcm2
              have HZ2 := Lib.hid (pops_step (st2 := r2) HZ.out rfl)
              go_wp2_with fail
              go_at_call 15
              refine (writeByte_keep _ _ _ 41 _ HIz.out (by rw [Lib.byteCells_length]; simp only [List.length_append, List.length_replicate, List.length_cons] at *; omega) HBz.out.size).mono ?_
              rintro e w7 ⟨rfl, hI, hB, hK⟩
              have HI7 := Lib.hid (show Lib.IsBuilder 42 5 w1.heap.size w1.heap.size (Lib.byteCells (B2 ++ List.replicate (z + 1) 41)) w7 by rw [List.replicate_succ', ← List.append_assoc, Lib.byteCells_append]; exact .inr hI)
              have HM7 := Lib.hid (mineI_pop (mineI_keep HMz.out (hK.sub (fun t ht => by subst ht; exact ⟨by decide, by decide⟩))))
              have HP7 := Lib.hid (hK _ _ _ _ ⟨by decide, by decide⟩ HPz.out)
              have HB7 := Lib.hid (HBz.out.trans hB)
              clear hI hB hK
              go_wp2
              go_roundw
              case rel => exact ⟨z + 1, r2, HZ2, HM7, HI7, HP7, HB7⟩
              case measure => simp [lenOf]
            rotate_left
            all_goals
              first
                | (obtain ⟨a9, cap9, rfl⟩ := mineI_zero HMz.out; obtain ⟨st2, hst2⟩ : ∃ st2 : List Nat, st2 = [] := ⟨_, rfl⟩; have HEX : Hid (st2 = [] ∨ ∃ c r, st2 = (c + 1) :: r) := Lib.hid (.inl hst2); rw [← hst2] at HZ HMz hzl; clear hst2)
                | (obtain ⟨g2, cap2, cur2, rfl, hg2, hh2, hc2, hcap2, hcm2⟩ := mineI_top HMz.out; have hl2 : r2.length ≤ 4398046511104 := by simp only [List.length_cons] at hzl; omega
                   unfold maxLen at hcm2
                   have hne2 : ¬ ((c2 + 1 : Nat) : Int) = 0 := by omega
                   obtain ⟨st2, hst2⟩ : ∃ st2 : List Nat, st2 = (c2 + 1) :: r2 := ⟨_, rfl⟩
                   have HEX : Hid (st2 = [] ∨ ∃ c r, st2 = (c + 1) :: r) := Lib.hid (.inr ⟨c2, r2, hst2⟩)
                   rw [← hst2] at HZ HMz hzl; have HS2 := Lib.hid hst2; clear hst2)
              have hxl : (B2 ++ List.replicate z 41).length ≤ 5000000000000 := by simp only [List.length_append, List.length_replicate]; omega
              have hXT := fun hw => inv_next (z := z) (st2 := st2) (HTQ.out hw) (by rw [← HZ.out]; exact HST.out) HEX.out (by omega)
              have HXT := Lib.hid hXT
              clear hXT
              obtain ⟨X, hX⟩ : ∃ X, X = B2 ++ List.replicate z 41 := ⟨_, rfl⟩
              rw [← hX] at HIz hxl HXT
              have k2 : wr.cell? ⟨wo.heap.size, 2, none⟩ = some (.string x.word) := (cell_of_row wr wo.heap.size 2 _ 33 (0, 0) HPz.out).trans rfl
              clear hX
              by_cases hbig : 1048576 < X.length
              · have d1 : decide (1048576 < X.length) = true := decide_eq_true hbig
                have HLT : Hid (1048576 < T.length) := Lib.hid (by
                  by_cases hw : x.word.size ≤ 1048576
                  · have := (HXT.out hw).1; omega
                  · exact HG.out (by omega))
                go_wp2_with (go_at_call 19; refine (Tryd.Builder_Len _ _ _ _ HIz.out).mono ?_; rintro e w8 ⟨rfl, rfl⟩; rw [Lib.byteCells_length])
                (try rw [Exit.noGoto_ret])
                go_ret2
                exact ⟨HR2.out HLT.out, below_chain HB1.out HBz.out⟩
              · have d1 : decide (1048576 < X.length) = false := decide_eq_false hbig
                by_cases hw : 1048576 < x.word.size
                · first
                    | (exfalso; omega)
                    | (have d2 : decide (1048576 < x.word.size) = true := decide_eq_true hw
                       have HLT := Lib.hid (HG.out hw)
                       go_wp2_with (go_at_call 19; refine (Tryd.Builder_Len _ _ _ _ HIz.out).mono ?_; rintro e w8 ⟨rfl, rfl⟩; rw [Lib.byteCells_length])
                       go_ret2
                       exact ⟨HR2.out HLT.out, below_chain HB1.out HBz.out⟩)
                · first
                    | (exfalso; omega)
                    | (have d2 : decide (1048576 < x.word.size) = false := decide_eq_false hw
                       have HNX := Lib.hid ((HXT.out (by omega)).2 (by omega))
                       go_wp2_with (go_at_call 19; refine (Tryd.Builder_Len _ _ _ _ HIz.out).mono ?_; rintro e w8 ⟨rfl, rfl⟩; rw [Lib.byteCells_length])
                       go_roundw
                       case rel => exact ⟨i + 1, X, st2, hlt, by go_num, HNX, HMz, HIz, HBz⟩
                       case measure => simp [intOf]; omega)

        · have e0 : ¬ x.word.toList = [] := by
            intro e; apply hw0
            rw [ByteArray.toList_eq] at e
            have := congrArg List.length e
            simpa using this
          have e1 : x.word.toList.isEmpty = false := by simpa using e0
          by_cases hw1 : x.word.size ≤ 1048576
          · have d0 : decide (x.word.size ≤ 1048576) = true := decide_eq_true hw1
            go_wp2_with fail
            go_at_call 15
            refine (writeByte_keep _ _ _ 32 _ HI5.out (by rw [Lib.byteCells_length]; (try simp only [List.length_append, List.length_cons, List.length_nil]); omega) HB5.out.size).mono ?_
            rintro e wa ⟨rfl, hI, hB, hK⟩
            have HIa := Lib.hid (show Lib.IsBuilder 42 5 w1.heap.size w1.heap.size (Lib.byteCells (B1 ++ [40] ++ digs x.kind ++ [32])) wa by rw [Lib.byteCells_append]; exact .inr hI)
            have HMa := Lib.hid (mineI_keep HM5.out (hK.sub (fun t ht => by subst ht; exact ⟨by decide, by decide⟩)))
            have HPa := Lib.hid (hK _ _ _ _ ⟨by decide, by decide⟩ HP5.out)
            have HBa := Lib.hid (HB5.out.trans hB)
            clear hI hB hK

            have k3 : wa.cell? ⟨wo.heap.size, 2, none⟩ = some (.string x.word) := (cell_of_row wa wo.heap.size 2 _ 33 (0, 0) HPa.out).trans rfl
            go_wp2_with fail
            go_at_call 18
            refine (quote_any x.word (by omega) _).mono ?_
            rintro e wb ⟨rfl, hB⟩
            clear k3
            have HIb := Lib.hid (builder_keep HIa.out (Keeps.below hB))
            have HMb := Lib.hid (mineI_keep HMa.out (Keeps.below hB))
            have HPb := Lib.hid (Keeps.below (S := fun _ => True) hB _ _ _ _ trivial HPa.out)
            have HBb := Lib.hid (HBa.out.trans (hB.mono HBa.out.size))
            clear hB

            have hql := quoteOf_len x.word.data.toList
            have hwl : x.word.data.toList.length = x.word.size := by simp
            rw [hwl] at hql
            go_wp2_with fail
            go_at_call 16
            refine (writeString_keep _ _ _ ⟨(quoteOf x.word.data.toList).toArray⟩ _ HIb.out (by rw [Lib.byteCells_length, show (⟨(quoteOf x.word.data.toList).toArray⟩ : ByteArray).size = (quoteOf x.word.data.toList).length from rfl]; simp only [List.length_append, List.length_cons, List.length_nil]; omega) HBb.out.size).mono ?_
            rintro e wc ⟨rfl, hI, hB, hK⟩
            have HIc := Lib.hid (show Lib.IsBuilder 42 5 w1.heap.size w1.heap.size (Lib.byteCells (B1 ++ [40] ++ digs x.kind ++ [32] ++ quoteOf x.word.data.toList)) wc by rw [Lib.byteCells_append]; exact .inr hI)
            have HMc := Lib.hid (mineI_keep HMb.out (hK.sub (fun t ht => by subst ht; exact ⟨by decide, by decide⟩)))
            have HPc := Lib.hid (hK _ _ _ _ ⟨by decide, by decide⟩ HPb.out)
            have HBc := Lib.hid (HBb.out.trans hB)
            clear hI hB hK

            obtain ⟨B2, hB2⟩ : ∃ B2, B2 = B1 ++ [40] ++ digs x.kind ++ [32] ++ quoteOf x.word.data.toList := ⟨_, rfl⟩
            have hB2l : B2.length ≤ 6000000 := by rw [hB2]; simp only [List.length_append, List.length_cons, List.length_nil]; omega
            have HTQ : Hid (x.word.size ≤ 1048576 → T = B2 ++ s') := Lib.hid (fun _ => by
              rw [HTX.out, hB2]; unfold partTx wordTx; rw [if_neg hw0]; simp)
            have HG : Hid (1048576 < x.word.size → 1048576 < T.length) := Lib.hid (fun h => by omega)
            rw [← hB2] at HIc
            clear hB2 hql hwl
            have hrl : (revI st1).length ≤ 4398046511104 := by rw [revI_len]; omega
            have hob := fun q hq => (HMc.out.lt q hq)
            have k1 : wc.cell? ⟨wo.heap.size, 1, none⟩ = some (.int .i64 (q : Int)) := (cell_of_row wc wo.heap.size 1 _ 33 (0, 0) HPc.out).trans rfl
            go_wp2_with (at_builtin; refine wpList_append_own _ rfl _ _ 35 rfl w1.heap.size 3 i0 (.int .i64 0) 1 8 Tryd.underlying35 H1.out H2.out H3.out H4.out rfl (by decide) _ _ _ rfl (HMc.out.alloc _) ⟨_, 0, none⟩ 1 1 [.int .i64 q] rfl rfl (one_new _ _ _) (by intro u hu; simp at hu; subst hu; rfl) (by unfold maxLen; omega) (by omega) (by have := HBc.out.size; simp; omega) ?_)
            intro v6 w6 hown6 hg6 _
            have HM6 : Hid (MineI w6 w1.heap.size v6 (revI (q :: st1))) := Lib.hid (by rw [revI_cons]; exact mineI_snoc hown6)
            have hK6 := keeps_grown HMc.out hg6
            have hB6 : Below w1.heap.size wc w6 := ((Below.refl _ wc).alloc HBc.out.size _).grown hg6 (by have := HBc.out.size; simp; omega) (fun q hq => (hob q hq).1)
            have HI6 := Lib.hid (builder_keep HIc.out (hK6.sub (fun t ht => by rcases ht with rfl | rfl <;> decide)))
            have HP6 := Lib.hid (hK6 _ _ _ _ (by decide) HPc.out)
            have HB6 := Lib.hid (HBc.out.trans hB6)
            clear hown6 hg6 hob hK6 hB6 k1
            obtain ⟨va6, vc6, rfl, _, _, _⟩ := mineI_ints HM6.out
            go_wp2
            go_loopw [5] (fun v wr => ∃ (z : Nat) (st2 : List Nat), Hid (q :: st1 = List.replicate z 0 ++ st2) ∧ Hid (MineI wr w1.heap.size v (revI st2)) ∧ Hid (Lib.IsBuilder 42 5 w1.heap.size w1.heap.size (Lib.byteCells (B2 ++ List.replicate z 41)) wr) ∧ Hid (wr.heap[wo.heap.size]? = some (.cells #[.int .u8 x.kind, .int .i64 q, .string x.word] 33 (0, 0))) ∧ Hid (Below w1.heap.size w1 wr)) (fun v _ => lenOf v)
            case atStart => exact ⟨0, q :: st1, Lib.hid rfl, HM6, Lib.hid (by rw [List.replicate_zero, List.append_nil]; exact HI6.out), HP6, HB6⟩
            case round =>
              obtain ⟨z, st2, HZ, HMz, HIz, HPz, HBz⟩ := hrel
              have hzl : z + st2.length = st1.length + 1 := by have := congrArg List.length HZ.out; simp at this; omega
              have hBz := HBz.out.size
              rcases stack_cases st2 with rfl | ⟨r2, rfl⟩ | ⟨c2, r2, rfl⟩
              rotate_left
              · obtain ⟨g2, cap2, cur2, rfl, hg2, hh2, hc2, hcap2, hcm2⟩ := mineI_top HMz.out
                have hl2 : r2.length ≤ 4398046511104 := by simp only [List.length_cons] at hzl; omega
                unfold maxLen at hcm2
                have HZ2 := Lib.hid (pops_step (st2 := r2) HZ.out rfl)
                go_wp2_with fail
                go_at_call 15
                refine (writeByte_keep _ _ _ 41 _ HIz.out (by rw [Lib.byteCells_length]; simp only [List.length_append, List.length_replicate, List.length_cons] at *; omega) HBz.out.size).mono ?_
                rintro e w7 ⟨rfl, hI, hB, hK⟩
                have HI7 := Lib.hid (show Lib.IsBuilder 42 5 w1.heap.size w1.heap.size (Lib.byteCells (B2 ++ List.replicate (z + 1) 41)) w7 by rw [List.replicate_succ', ← List.append_assoc, Lib.byteCells_append]; exact .inr hI)
                have HM7 := Lib.hid (mineI_pop (mineI_keep HMz.out (hK.sub (fun t ht => by subst ht; exact ⟨by decide, by decide⟩))))
                have HP7 := Lib.hid (hK _ _ _ _ ⟨by decide, by decide⟩ HPz.out)
                have HB7 := Lib.hid (HBz.out.trans hB)
                clear hI hB hK
                go_wp2
                go_roundw
                case rel => exact ⟨z + 1, r2, HZ2, HM7, HI7, HP7, HB7⟩
                case measure => simp [lenOf]
              rotate_left
              all_goals
                first
                  | (obtain ⟨a9, cap9, rfl⟩ := mineI_zero HMz.out; obtain ⟨st2, hst2⟩ : ∃ st2 : List Nat, st2 = [] := ⟨_, rfl⟩; have HEX : Hid (st2 = [] ∨ ∃ c r, st2 = (c + 1) :: r) := Lib.hid (.inl hst2); rw [← hst2] at HZ HMz hzl; clear hst2)
                  | (obtain ⟨g2, cap2, cur2, rfl, hg2, hh2, hc2, hcap2, hcm2⟩ := mineI_top HMz.out; have hl2 : r2.length ≤ 4398046511104 := by simp only [List.length_cons] at hzl; omega
                     unfold maxLen at hcm2
                     have hne2 : ¬ ((c2 + 1 : Nat) : Int) = 0 := by omega
                     obtain ⟨st2, hst2⟩ : ∃ st2 : List Nat, st2 = (c2 + 1) :: r2 := ⟨_, rfl⟩
                     have HEX : Hid (st2 = [] ∨ ∃ c r, st2 = (c + 1) :: r) := Lib.hid (.inr ⟨c2, r2, hst2⟩)
                     rw [← hst2] at HZ HMz hzl; have HS2 := Lib.hid hst2; clear hst2)
                have hxl : (B2 ++ List.replicate z 41).length ≤ 5000000000000 := by simp only [List.length_append, List.length_replicate]; omega
                have hXT := fun hw => inv_next (z := z) (st2 := st2) (HTQ.out hw) (by rw [← HZ.out]; exact HST.out) HEX.out (by omega)
                have HXT := Lib.hid hXT
                clear hXT
                obtain ⟨X, hX⟩ : ∃ X, X = B2 ++ List.replicate z 41 := ⟨_, rfl⟩
                rw [← hX] at HIz hxl HXT
                have k2 : wr.cell? ⟨wo.heap.size, 2, none⟩ = some (.string x.word) := (cell_of_row wr wo.heap.size 2 _ 33 (0, 0) HPz.out).trans rfl
                clear hX
                by_cases hbig : 1048576 < X.length
                · have d1 : decide (1048576 < X.length) = true := decide_eq_true hbig
                  have HLT : Hid (1048576 < T.length) := Lib.hid (by
                    by_cases hw : x.word.size ≤ 1048576
                    · have := (HXT.out hw).1; omega
                    · exact HG.out (by omega))
                  go_wp2_with (go_at_call 19; refine (Tryd.Builder_Len _ _ _ _ HIz.out).mono ?_; rintro e w8 ⟨rfl, rfl⟩; rw [Lib.byteCells_length])
                  (try rw [Exit.noGoto_ret])
                  go_ret2
                  exact ⟨HR2.out HLT.out, below_chain HB1.out HBz.out⟩
                · have d1 : decide (1048576 < X.length) = false := decide_eq_false hbig
                  by_cases hw : 1048576 < x.word.size
                  · first
                      | (exfalso; omega)
                      | (have d2 : decide (1048576 < x.word.size) = true := decide_eq_true hw
                         have HLT := Lib.hid (HG.out hw)
                         go_wp2_with (go_at_call 19; refine (Tryd.Builder_Len _ _ _ _ HIz.out).mono ?_; rintro e w8 ⟨rfl, rfl⟩; rw [Lib.byteCells_length])
                         go_ret2
                         exact ⟨HR2.out HLT.out, below_chain HB1.out HBz.out⟩)
                  · first
                      | (exfalso; omega)
                      | (have d2 : decide (1048576 < x.word.size) = false := decide_eq_false hw
                         have HNX := Lib.hid ((HXT.out (by omega)).2 (by omega))
                         go_wp2_with (go_at_call 19; refine (Tryd.Builder_Len _ _ _ _ HIz.out).mono ?_; rintro e w8 ⟨rfl, rfl⟩; rw [Lib.byteCells_length])
                         go_roundw
                         case rel => exact ⟨i + 1, X, st2, hlt, by go_num, HNX, HMz, HIz, HBz⟩
                         case measure => simp [intOf]; omega)

          · have d0 : decide (x.word.size ≤ 1048576) = false := decide_eq_false hw1
            obtain ⟨B2, hB2⟩ : ∃ B2, B2 = B1 ++ [40] ++ digs x.kind := ⟨_, rfl⟩
            have hB2l : B2.length ≤ 6000000 := by rw [hB2]; simp only [List.length_append, List.length_cons, List.length_nil]; omega
            have HTQ : Hid (x.word.size ≤ 1048576 → T = B2 ++ s') := Lib.hid (fun h => absurd h hw1)
            have HG : Hid (1048576 < x.word.size → 1048576 < T.length) := Lib.hid (fun h => by
              have := part_len x
              rw [HTX.out]; simp only [List.length_append]; omega)
            rw [← hB2] at HI5
            clear hB2
            have hrl : (revI st1).length ≤ 4398046511104 := by rw [revI_len]; omega
            have hob := fun q hq => (HM5.out.lt q hq)
            have k1 : w5.cell? ⟨wo.heap.size, 1, none⟩ = some (.int .i64 (q : Int)) := (cell_of_row w5 wo.heap.size 1 _ 33 (0, 0) HP5.out).trans rfl
            go_wp2_with (at_builtin; refine wpList_append_own _ rfl _ _ 35 rfl w1.heap.size 3 i0 (.int .i64 0) 1 8 Tryd.underlying35 H1.out H2.out H3.out H4.out rfl (by decide) _ _ _ rfl (HM5.out.alloc _) ⟨_, 0, none⟩ 1 1 [.int .i64 q] rfl rfl (one_new _ _ _) (by intro u hu; simp at hu; subst hu; rfl) (by unfold maxLen; omega) (by omega) (by have := HB5.out.size; simp; omega) ?_)
            intro v6 w6 hown6 hg6 _
            have HM6 : Hid (MineI w6 w1.heap.size v6 (revI (q :: st1))) := Lib.hid (by rw [revI_cons]; exact mineI_snoc hown6)
            have hK6 := keeps_grown HM5.out hg6
            have hB6 : Below w1.heap.size w5 w6 := ((Below.refl _ w5).alloc HB5.out.size _).grown hg6 (by have := HB5.out.size; simp; omega) (fun q hq => (hob q hq).1)
            have HI6 := Lib.hid (builder_keep HI5.out (hK6.sub (fun t ht => by rcases ht with rfl | rfl <;> decide)))
            have HP6 := Lib.hid (hK6 _ _ _ _ (by decide) HP5.out)
            have HB6 := Lib.hid (HB5.out.trans hB6)
            clear hown6 hg6 hob hK6 hB6 k1
            obtain ⟨va6, vc6, rfl, _, _, _⟩ := mineI_ints HM6.out
            go_wp2
            go_loopw [5] (fun v wr => ∃ (z : Nat) (st2 : List Nat), Hid (q :: st1 = List.replicate z 0 ++ st2) ∧ Hid (MineI wr w1.heap.size v (revI st2)) ∧ Hid (Lib.IsBuilder 42 5 w1.heap.size w1.heap.size (Lib.byteCells (B2 ++ List.replicate z 41)) wr) ∧ Hid (wr.heap[wo.heap.size]? = some (.cells #[.int .u8 x.kind, .int .i64 q, .string x.word] 33 (0, 0))) ∧ Hid (Below w1.heap.size w1 wr)) (fun v _ => lenOf v)
            case atStart => exact ⟨0, q :: st1, Lib.hid rfl, HM6, Lib.hid (by rw [List.replicate_zero, List.append_nil]; exact HI6.out), HP6, HB6⟩
            case round =>
              obtain ⟨z, st2, HZ, HMz, HIz, HPz, HBz⟩ := hrel
              have hzl : z + st2.length = st1.length + 1 := by have := congrArg List.length HZ.out; simp at this; omega
              have hBz := HBz.out.size
              rcases stack_cases st2 with rfl | ⟨r2, rfl⟩ | ⟨c2, r2, rfl⟩
              rotate_left
              · obtain ⟨g2, cap2, cur2, rfl, hg2, hh2, hc2, hcap2, hcm2⟩ := mineI_top HMz.out
                have hl2 : r2.length ≤ 4398046511104 := by simp only [List.length_cons] at hzl; omega
                unfold maxLen at hcm2
                have HZ2 := Lib.hid (pops_step (st2 := r2) HZ.out rfl)
                go_wp2_with fail
                go_at_call 15
                refine (writeByte_keep _ _ _ 41 _ HIz.out (by rw [Lib.byteCells_length]; simp only [List.length_append, List.length_replicate, List.length_cons] at *; omega) HBz.out.size).mono ?_
                rintro e w7 ⟨rfl, hI, hB, hK⟩
                have HI7 := Lib.hid (show Lib.IsBuilder 42 5 w1.heap.size w1.heap.size (Lib.byteCells (B2 ++ List.replicate (z + 1) 41)) w7 by rw [List.replicate_succ', ← List.append_assoc, Lib.byteCells_append]; exact .inr hI)
                have HM7 := Lib.hid (mineI_pop (mineI_keep HMz.out (hK.sub (fun t ht => by subst ht; exact ⟨by decide, by decide⟩))))
                have HP7 := Lib.hid (hK _ _ _ _ ⟨by decide, by decide⟩ HPz.out)
                have HB7 := Lib.hid (HBz.out.trans hB)
                clear hI hB hK
                go_wp2
                go_roundw
                case rel => exact ⟨z + 1, r2, HZ2, HM7, HI7, HP7, HB7⟩
                case measure => simp [lenOf]
              rotate_left
              all_goals
                first
                  | (obtain ⟨a9, cap9, rfl⟩ := mineI_zero HMz.out; obtain ⟨st2, hst2⟩ : ∃ st2 : List Nat, st2 = [] := ⟨_, rfl⟩; have HEX : Hid (st2 = [] ∨ ∃ c r, st2 = (c + 1) :: r) := Lib.hid (.inl hst2); rw [← hst2] at HZ HMz hzl; clear hst2)
                  | (obtain ⟨g2, cap2, cur2, rfl, hg2, hh2, hc2, hcap2, hcm2⟩ := mineI_top HMz.out; have hl2 : r2.length ≤ 4398046511104 := by simp only [List.length_cons] at hzl; omega
                     unfold maxLen at hcm2
                     have hne2 : ¬ ((c2 + 1 : Nat) : Int) = 0 := by omega
                     obtain ⟨st2, hst2⟩ : ∃ st2 : List Nat, st2 = (c2 + 1) :: r2 := ⟨_, rfl⟩
                     have HEX : Hid (st2 = [] ∨ ∃ c r, st2 = (c + 1) :: r) := Lib.hid (.inr ⟨c2, r2, hst2⟩)
                     rw [← hst2] at HZ HMz hzl; have HS2 := Lib.hid hst2; clear hst2)
                have hxl : (B2 ++ List.replicate z 41).length ≤ 5000000000000 := by simp only [List.length_append, List.length_replicate]; omega
                have hXT := fun hw => inv_next (z := z) (st2 := st2) (HTQ.out hw) (by rw [← HZ.out]; exact HST.out) HEX.out (by omega)
                have HXT := Lib.hid hXT
                clear hXT
                obtain ⟨X, hX⟩ : ∃ X, X = B2 ++ List.replicate z 41 := ⟨_, rfl⟩
                rw [← hX] at HIz hxl HXT
                have k2 : wr.cell? ⟨wo.heap.size, 2, none⟩ = some (.string x.word) := (cell_of_row wr wo.heap.size 2 _ 33 (0, 0) HPz.out).trans rfl
                clear hX
                by_cases hbig : 1048576 < X.length
                · have d1 : decide (1048576 < X.length) = true := decide_eq_true hbig
                  have HLT : Hid (1048576 < T.length) := Lib.hid (by
                    by_cases hw : x.word.size ≤ 1048576
                    · have := (HXT.out hw).1; omega
                    · exact HG.out (by omega))
                  go_wp2_with (go_at_call 19; refine (Tryd.Builder_Len _ _ _ _ HIz.out).mono ?_; rintro e w8 ⟨rfl, rfl⟩; rw [Lib.byteCells_length])
                  (try rw [Exit.noGoto_ret])
                  go_ret2
                  exact ⟨HR2.out HLT.out, below_chain HB1.out HBz.out⟩
                · have d1 : decide (1048576 < X.length) = false := decide_eq_false hbig
                  by_cases hw : 1048576 < x.word.size
                  · first
                      | (exfalso; omega)
                      | (have d2 : decide (1048576 < x.word.size) = true := decide_eq_true hw
                         have HLT := Lib.hid (HG.out hw)
                         go_wp2_with (go_at_call 19; refine (Tryd.Builder_Len _ _ _ _ HIz.out).mono ?_; rintro e w8 ⟨rfl, rfl⟩; rw [Lib.byteCells_length])
                         go_ret2
                         exact ⟨HR2.out HLT.out, below_chain HB1.out HBz.out⟩)
                  · first
                      | (exfalso; omega)
                      | (have d2 : decide (1048576 < x.word.size) = false := decide_eq_false hw
                         have HNX := Lib.hid ((HXT.out (by omega)).2 (by omega))
                         go_wp2_with (go_at_call 19; refine (Tryd.Builder_Len _ _ _ _ HIz.out).mono ?_; rintro e w8 ⟨rfl, rfl⟩; rw [Lib.byteCells_length])
                         go_roundw
                         case rel => exact ⟨i + 1, X, st2, hlt, by go_num, HNX, HMz, HIz, HBz⟩
                         case measure => simp [intOf]; omega)

    · obtain rfl : i = n := by omega
      have HE : Hid (T = B) := Lib.hid (inv_end (by rw [HLN.out]; exact hpos) (by rw [HLN.out]; exact HV.out))
      have HRR : Hid (ShowIs l (.returned (.tuple #[.string ⟨B.toArray⟩, .int .i64 0]))) := Lib.hid (by rw [← HE.out]; exact HR0.out (by rw [HE.out]; exact hbl))
      go_wp2_with (go_at_call 20; refine (Tryd.Builder_String_any _ _ _ _ HI.out HB.out.size).mono ?_; rintro e w9 ⟨rfl, hB9⟩)
      go_ret2
      exact ⟨HRR.out, below_chain HB1.out (HB.out.trans hB9)⟩
end Go.Proofs.YtoffjpgobhcipaaDoor.Trm

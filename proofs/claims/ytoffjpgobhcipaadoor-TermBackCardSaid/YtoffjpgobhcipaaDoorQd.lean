/-
  Texts I J K L of an earlier seat, under this one's numbers.
-/
import Derived.Test.YtoffjpgobhcipaaDoorQc
import Derived.OwnWalk
set_option maxRecDepth 100000
/-
  Layer 6: contract of the reader's runeText.
-/
namespace Go.Proofs.YtoffjpgobhcipaaDoor
open Go.ChangeShapes Go.WideShapes Go.ChangeAt Go.RowKit

/-- the mark that ends a rune -/
def closeOf (l : List UInt8) (k : Nat) (L : List UInt8) : Option (List UInt8 × Nat) := if l[k]? = some 39 then some (L, k + 1) else none
/-- a rune from a place on, behind its first mark: what it says, where it ends -/
def runeOf (l : List UInt8) (k : Nat) (acc : List UInt8) : Option (List UInt8 × Nat) :=
  if wide (l.drop k) = 0 ∨ chr (l.drop k) = 39 ∨ chr (l.drop k) = 10 then none
  else if chr (l.drop k) = 92 then (escOf 39 (k + wide (l.drop k)) (l.drop (k + wide (l.drop k)))).bind fun x => closeOf l x.2 (acc ++ x.1)
  else closeOf l (k + wide (l.drop k)) (acc ++ form (chr (l.drop k)))
theorem Rd.below {w w' : World} {b : Nat} {s : ByteArray} {k : Nat} {v : Value} {T : List UInt8} (h : Rd w b s k v T) (hB : Below w.heap.size w w') : Rd w' b s k v T := by
  refine ⟨by rw [hB.block b h.lt]; exact h.row, ⟨h.own.1, ?_⟩, h.hk⟩
  rcases h.own.2 with h | ⟨g, cap, cur, e, hb, hg, r⟩
  · exact .inl h
  · exact .inr ⟨g, cap, cur, e, hb, by rw [hB.block g (Array.getElem?_eq_some_iff.1 hg).1]; exact hg, r⟩
theorem chr_form {l : List UInt8} (h : wide l ≠ 0) : form (chr l) = l.take (wide l) ∧ (form (chr l)).length = wide l := by
  unfold wide chr at *
  split at h
  · exact absurd rfl h
  · rename_i hc
    rw [if_neg hc, if_neg hc]
    have hne : l ≠ [] := fun e => hc (.inl e)
    have hb : isBad l = false := by
      cases hb : isBad l with
      | false => rfl
      | true => exact absurd (.inr hb) hc
    exact ⟨good_form l hne hb, good_len l hne hb⟩
theorem step_append_string {P : Program} {ops : Array Oper} {o : Oper} {a : Act} {w : World} {K : Act → World → Prop} {Q : Exit → Act → World → Prop} {E : Prop} (hgd : o.guard = none) (sl x : Operand) (t u : TypeId)
    (ho : o.op = .call { callee := .builtin .append, args := #[sl, x], argTypes := #[t, u] })
    (base : Nat) (e : TypeId) (i : TypeInfo) (ht : P.underlying t = some (.slice e)) (hu : P.underlying u = some .string) (hi : P.info? e = some i) (hz : i.zero = some (.int .u8 0))
    (hsize : i.size = 1) (hby : i.bytes = 1)
    (v : Value) (n : Nat) (xs : List Value) (hs : a.eval sl = v) (hown : w.ownsRow base e 1 v n xs) (s : ByteArray) (hx : a.eval x = .string s)
    (h63 : n + s.size ≤ maxLen) (hbytes : n + s.size ≤ 140737488355328) (hbase : base ≤ w.heap.size)
    (h : ∀ a' m cap w', w'.ownsRow base e 1 (.slice a' m cap) (n + s.size) (xs ++ Lib.strCells s) → w.grownBy w' v.ownBlock → K (a.put o.dst (.slice a' m cap)) w') :
    if Region.wanted o (yielded ops a.tmps) = true then Oper.wp P o a w K Q else E := by
  have hw : Region.wanted o (yielded ops a.tmps) = true := by simp [Region.wanted, hgd]
  rw [if_pos hw]
  obtain ⟨v', w', hr, h2, h3, h4⟩ := Lib.run_append_own_string (P := P) w base t u o.type e i ht hu hi hz hsize hby v n xs hown s h63 hbytes hbase
  obtain ⟨a', m, cap, rfl⟩ := own_slice h2
  unfold Oper.wp execOp
  simp only [ho, resolve, invoke, builtin, Sem.run_bind, Sem.run_pure, Result.andThen_ok, List.map_toArray, List.map_cons, List.map_nil, hs, hx, hr]
  exact h a' m cap w' h2 h3

set_option maxRecDepth 100000 in
set_option maxHeartbeats 8000000 in
theorem rune_any (s : ByteArray) (hs : s.size ≤ 140737488351232) (b k : Nat) (v : Value) (T : List UInt8) (hT : T.length ≤ k) (w : World) (hR : Rd w b s k v T) :
    Calls Tryd.prog 65 #[.pointer (some ⟨b, 0, none⟩)] w fun e w' => e = .returned (.bool (runeOf s.data.toList k T).isSome) ∧ (∀ L k', runeOf s.data.toList k T = some (L, k') → (∃ v', Rd w' b s k' v' L)) ∧ Below b w w' := by
  obtain ⟨i0, hi, hz0, hz1, hz2⟩ := info_parts info5
  have hk := hR.hk
  have c0 := hR.c0
  have c1 := hR.c1
  have hrd := fun w => read_any s (k : Int) w (by unfold maxLen; omega) (s.data.toList.drop k) (by rw [if_pos (by omega)]; simp)
  obtain ⟨c, hc⟩ : ∃ c, c = chr (s.data.toList.drop k) := ⟨_, rfl⟩
  obtain ⟨n, hn⟩ : ∃ n, n = wide (s.data.toList.drop k) := ⟨_, rfl⟩
  rw [← hc, ← hn] at hrd
  obtain ⟨A, hA⟩ : ∃ A, A = runeOf s.data.toList k T := ⟨_, rfl⟩
  rw [← hA]
  unfold runeOf at hA
  rw [← hc, ← hn] at hA
  have HR := Lib.hid (show Rd w.drew b s k v T from hR.keep rfl)
  have HBd := Lib.hid (show Below b w w.drew from (Below.refl b w).drew)
  have hlt := hR.lt
  have HA := Lib.hid hA
  have hwl := wide_le (s.data.toList.drop k)
  rw [← hn, List.length_drop, show s.data.toList.length = s.size by simp] at hwl
  have HCF := Lib.hid (show n ≠ 0 → (form c).length = n by rw [hn, hc]; exact fun h => (chr_form h).2)
  have hcr : -2147483648 ≤ c ∧ c ≤ 2147483647 := by
    by_cases h : n = 0
    · have : c = 0 := by
        rw [hc]; unfold chr; rw [hn] at h; unfold wide at h
        split at h
        · rename_i h2; rw [if_pos h2]
        · rename_i h2
          have hne : s.data.toList.drop k ≠ [] := fun e => h2 (.inl e)
          have := (good_width _ hne).1
          omega
      omega
    · have hch : isChar c = true := by
        cases hi2 : isChar c with
        | true => rfl
        | false =>
          have h1 := chr_form (l := s.data.toList.drop k) (by rw [← hn]; exact h)
          rw [← hc, ← hn, form_none hi2] at h1
          exact absurd h1.2.symm h
      unfold isChar at hch
      have := of_decide_eq_true hch
      omega
  clear hA hR hc hn
  go_enter Tryd.func65, Tryd.ntmps65
  go_upto_region 1 with fail
  go_cut [3, 4, 5] from 6 to 16 (fun cv nv tv wx => cv = .int .i32 c ∧ nv = .int .i64 n ∧ tv = .tuple #[.int .i32 c, .int .i64 n] ∧ Rd wx b s k v T ∧ Below b w wx)
  case first =>
    go_region_with (go_at_call 79; refine (hrd _).mono ?_; rintro e w1 ⟨rfl, hB⟩; have HR1 := Lib.hid (HR.out.below hB); have HB1 := Lib.hid (HBd.out.trans (hB.mono (Nat.le_of_lt HR.out.lt))); clear hB)
    all_goals
      go_wp2_with fail
      go_meet
      exact ⟨rfl, rfl, rfl, HR1.out, HB1.out⟩
  case rest =>
    obtain ⟨rfl, rfl, rfl, hR1, hB1⟩ := hcut
    obtain ⟨K, hK⟩ : ∃ K, K = k + n := ⟨_, rfl⟩
    have hKs : K ≤ s.size := by omega
    have c0' := hR1.c0
    have c1' := hR1.c1
    have f1' := hR1.f 1
    have hl1 := hR1.lt
    have w1 : IntKind.i64.wrap ((k : Int) + (n : Int)) = (K : Int) := by rw [IntKind.wrap_i64]; omega
    have HM := Lib.hid (show Rd (wc.setCell ⟨b, 1, none⟩ (.int .i64 (K : Int))) b s K v T from hR1.move K hKs)
    have HBM := Lib.hid (show Below b w (wc.setCell ⟨b, 1, none⟩ (.int .i64 (K : Int))) from hB1.setCell (p := ⟨b, 1, none⟩) (Nat.le_refl _) _)
    have hA2 := HA.out
    rw [← hK] at hA2
    have HK := Lib.hid hK
    clear hR1 hB1 hrd c0 c1 HR HBd hK HA
    by_cases hbad : n = 0 ∨ c = 39 ∨ c = 10
    · have hz : A = none := by rw [hA2, if_pos hbad]
      subst hz
      have hb3 : ((n : Int) == 0) = true ∨ (((n : Int) == 0) = false ∧ (c == 39) = true) ∨ (((n : Int) == 0) = false ∧ (c == 39) = false ∧ (c == 10) = true) := by
        by_cases h0 : n = 0
        · exact .inl (by rw [beq_iff_eq]; omega)
        · have q : ((n : Int) == 0) = false := by rw [beq_eq_false_iff_ne]; omega
          by_cases h1 : c = 39
          · exact .inr (.inl ⟨q, by simpa using h1⟩)
          · exact .inr (.inr ⟨q, by simpa using h1, by rcases hbad with h | h | h; exact absurd h h0; exact absurd h h1; simpa using h⟩)
      clear hA2 hbad
      rcases hb3 with q1 | ⟨q1, q2⟩ | ⟨q1, q2, q3⟩
      all_goals
        (go_wp2
         go_ret
         (first | exact ⟨rfl, (fun _ _ h => by cases h), HBM.out⟩ | exact ⟨rfl, HBM.out⟩))
    · rw [if_neg hbad] at hA2
      have q1 : ((n : Int) == 0) = false := by rw [beq_eq_false_iff_ne]; intro h; exact hbad (.inl (by omega))
      have q2 : (c == 39) = false := by simpa using fun h => hbad (.inr (.inl h))
      have q3 : (c == 10) = false := by simpa using fun h => hbad (.inr (.inr h))
      have hn0 : n ≠ 0 := fun h => hbad (.inl h)
      have HFL := Lib.hid (HCF.out hn0)
      have HN0 := Lib.hid hn0
      clear hbad HCF hn0
      by_cases h92 : c = 92
      · rw [if_pos h92] at hA2
        have q4 : (c == 92) = true := by simpa using h92
        have q5 : (c != 92) = false := by rw [bne, q4]; rfl
        have hesc := escape_any s hs 39 b K v T (by have := HK.out; omega) _ HM.out
        obtain ⟨X, hX⟩ : ∃ X, X = escOf 39 K (s.data.toList.drop K) := ⟨_, rfl⟩
        rw [← hX] at hesc hA2
        have HX := Lib.hid hX
        have hesc' : Calls Tryd.prog 78 #[.pointer (some ⟨b, 0, none⟩), .int .u8 39] (wc.setCell ⟨b, 1, none⟩ (.int .i64 (K : Int))) fun e w' => e = .returned (.bool X.isSome) ∧ (∀ L k', X = some (L, k') → ∃ v', Rd w' b s k' v' (T ++ L)) ∧ Below b (wc.setCell ⟨b, 1, none⟩ (.int .i64 (K : Int))) w' := hesc
        clear hesc hX h92
        cases X with
        | none =>
          have hz : A = none := hA2
          subst hz
          clear hA2
          go_wp2_with (go_at_call 78; refine hesc'.mono ?_; rintro e w2 ⟨he, _, hB2⟩; have he' : e = .returned (.bool false) := he; clear he; subst he')
          go_ret
          (first | exact ⟨rfl, (fun _ _ h => by cases h), HBM.out.trans hB2⟩ | exact ⟨rfl, HBM.out.trans hB2⟩)
        | some x =>
          obtain ⟨L, k'⟩ := x
          have hA3 : A = closeOf s.data.toList k' (T ++ L) := hA2
          clear hA2
          by_cases hin : k' < s.size
          · have d1 : decide (s.size ≤ k') = false := decide_eq_false (by omega)
            have d2 : (k' : Int) < s.size := by omega
            have d3 : (0 : Int) ≤ k' := by omega
            have w2' : IntKind.i64.wrap ((k' : Int) + 1) = (k' : Int) + 1 := by rw [IntKind.wrap_i64]; omega
            have b39 := bytes_n s[k'] 39 39 rfl
            unfold closeOf at hA3
            rw [at_of s k' hin] at hA3
            by_cases h39 : s[k'] = 39
            · have hz : A = some (T ++ L, k' + 1) := by rw [hA3, if_pos (by rw [h39])]
              subst hz
              have b2 : ((s[k'].toNat : Int) != 39) = false := by rw [bne, b39, decide_eq_true h39]; rfl
              clear hA3 h39 b39
              go_wp2_with (go_at_call 78; refine hesc'.mono ?_; rintro e w2 ⟨he, hN, hB2⟩; have he' : e = .returned (.bool true) := he; clear he; subst he'; obtain ⟨v2, hR2⟩ := hN L k' rfl; have e0 := hR2.c0; have e1 := hR2.c1; have e3 := hR2.f 1; have HR2 := Lib.hid hR2; have HB2 := Lib.hid (HBM.out.trans hB2); clear hN hR2 hB2)
              go_upto_region 7 with fail
              go_quiet (fail)
              go_wp2
              go_ret
              exact ⟨rfl, (fun L' k'' h => by cases h; exact ⟨v2, (HR2.out.drewN _).move (k' + 1) (by omega)⟩), (below_drewN HB2.out _).setCell (p := ⟨b, 1, none⟩) (Nat.le_refl _) _⟩
            · have hz : A = none := by rw [hA3, if_neg (by simpa using h39)]
              subst hz
              have b2 : ((s[k'].toNat : Int) != 39) = true := by rw [bne, b39, decide_eq_false h39]; rfl
              clear hA3 h39 b39
              go_wp2_with (go_at_call 78; refine hesc'.mono ?_; rintro e w2 ⟨he, hN, hB2⟩; have he' : e = .returned (.bool true) := he; clear he; subst he'; obtain ⟨v2, hR2⟩ := hN L k' rfl; have e0 := hR2.c0; have e1 := hR2.c1; have HB2 := Lib.hid (HBM.out.trans hB2); clear hN hR2 hB2)
              go_upto_region 7 with fail
              go_quiet (fail)
              go_wp2
              go_ret
              (first | exact ⟨rfl, (fun _ _ h => by cases h), below_drewN HB2.out _⟩ | exact ⟨rfl, below_drewN HB2.out _⟩)
          · have d1 : decide (s.size ≤ k') = true := decide_eq_true (by omega)
            have hz : A = none := by
              rw [hA3]; unfold closeOf
              rw [List.getElem?_eq_none (by simp; omega)]; simp
            subst hz
            clear hA3
            go_wp2_with (go_at_call 78; refine hesc'.mono ?_; rintro e w2 ⟨he, hN, hB2⟩; have he' : e = .returned (.bool true) := he; clear he; subst he'; obtain ⟨v2, hR2⟩ := hN L k' rfl; have e0 := hR2.c0; have e1 := hR2.c1; have HB2 := Lib.hid (HBM.out.trans hB2); clear hN hR2 hB2)
            go_upto_region 7 with fail
            go_quiet (fail)
            go_wp2
            go_ret
            (first | exact ⟨rfl, (fun _ _ h => by cases h), below_drewN HB2.out _⟩ | exact ⟨rfl, below_drewN HB2.out _⟩)
      · rw [if_neg h92] at hA2
        have q4 : (c == 92) = false := by simpa using h92
        have q5 : (c != 92) = true := by rw [bne, q4]; rfl
        have hA3 : A = closeOf s.data.toList K (T ++ form c) := hA2
        have hF := fun w => form_any c w
        obtain ⟨F, hFe⟩ : ∃ F : ByteArray, F = ⟨(form c).toArray⟩ := ⟨_, rfl⟩
        have hFl : F.data.toList = form c := by rw [hFe]
        rw [← hFe] at hF
        have hFs : F.size = n := by rw [← HFL.out, ← hFl]; simp
        have HFF := Lib.hid (And.intro hFl hFs)
        have hO := HM.out.own
        have e2 := HM.out.c2
        have e4 := HM.out.f 2
        have hsz : b + 1 ≤ (wc.setCell ⟨b, 1, none⟩ (.int .i64 (K : Int))).heap.size := HM.out.lt
        have hTn : T.length + F.size ≤ 140737488351232 := by have := HK.out; omega
        clear hA2 h92 hFe hFl hFs
        go_upto_region 6 with fail
        go_cut [] from 46 to 55 (fun wx => ∃ v2, Rd wx b s K v2 (T ++ form c) ∧ Below b w wx)
        case first =>
          go_region_law (first
            | (refine step_append_string rfl _ _ 40 9 rfl (b + 1) 5 i0 Tryd.underlying40 Tryd.underlying9 hi hz0 hz1 hz2 _ _ _ rfl (World.ownsRow.drew hO) F rfl (by unfold maxLen; omega) (by omega) (by simpa using hsz) ?_; intro a' mm cap' w4 hown3 hg3; have G1 := (HM.out.keep (w' := (wc.setCell ⟨b, 1, none⟩ (.int .i64 (K : Int))).drew) rfl).grew (L := form c) (by have h9 := hown3; rw [strCells_eq, HFF.out.1, show F.size = (form c).length by rw [HFF.out.2, HFL.out]] at h9; exact h9) hg3; have G2 := Lib.hid G1; have d5 : w4.frozen? ⟨b, 2, none⟩ = false := (by unfold World.frozen?; simp only [G1.1]; rfl); have d6 : w4.cell? ⟨b, 2, none⟩ = some v := (by unfold World.cell?; simp only [G1.1]; rfl); clear G1 hown3 hg3)
            | (go_simp; go_wp2_with (go_at_call 80; refine (hF _).mono ?_; rintro e w9 ⟨rfl, hw9⟩; rw [← hw9]; clear hw9 w9)))
          all_goals
            go_wp2_with fail
            go_meet
            exact ⟨_, G2.out.2.1, HBM.out.drew.trans G2.out.2.2⟩
        case rest =>
          obtain ⟨v2, hR2, hB2⟩ := hcut
          have e0 := hR2.c0
          have e1 := hR2.c1
          have e3 := hR2.f 1
          have HR2 := Lib.hid hR2
          have HB2 := Lib.hid hB2
          clear hR2 hB2 hF hO e2 e4
          by_cases hin : K < s.size
          · have d1 : decide (s.size ≤ K) = false := decide_eq_false (by omega)
            have d2 : (K : Int) < s.size := by omega
            have d3 : (0 : Int) ≤ K := by omega
            have w2' : IntKind.i64.wrap ((K : Int) + 1) = (K : Int) + 1 := by rw [IntKind.wrap_i64]; omega
            have b39 := bytes_n s[K] 39 39 rfl
            unfold closeOf at hA3
            rw [at_of s K hin] at hA3
            by_cases h39 : s[K] = 39
            · have hz : A = some (T ++ form c, K + 1) := by rw [hA3, if_pos (by rw [h39])]
              subst hz
              have b2 : ((s[K].toNat : Int) != 39) = false := by rw [bne, b39, decide_eq_true h39]; rfl
              clear hA3 h39 b39
              go_upto_region 7 with fail
              go_quiet (fail)
              go_wp2
              go_ret
              exact ⟨rfl, (fun L' k'' h => by cases h; exact ⟨v2, (HR2.out.drewN _).move (K + 1) (by omega)⟩), (below_drewN HB2.out _).setCell (p := ⟨b, 1, none⟩) (Nat.le_refl _) _⟩
            · have hz : A = none := by rw [hA3, if_neg (by simpa using h39)]
              subst hz
              have b2 : ((s[K].toNat : Int) != 39) = true := by rw [bne, b39, decide_eq_false h39]; rfl
              clear hA3 h39 b39
              go_upto_region 7 with fail
              go_quiet (fail)
              go_wp2
              go_ret
              (first | exact ⟨rfl, (fun _ _ h => by cases h), below_drewN HB2.out _⟩ | exact ⟨rfl, below_drewN HB2.out _⟩)
          · have d1 : decide (s.size ≤ K) = true := decide_eq_true (by omega)
            have hz : A = none := by
              rw [hA3]; unfold closeOf
              rw [List.getElem?_eq_none (by simp; omega)]; simp
            subst hz
            clear hA3
            go_upto_region 7 with fail
            go_quiet (fail)
            go_wp2
            go_ret
            (first | exact ⟨rfl, (fun _ _ h => by cases h), below_drewN HB2.out _⟩ | exact ⟨rfl, below_drewN HB2.out _⟩)
end Go.Proofs.YtoffjpgobhcipaaDoor

/-
  Layer 6: contracts of the reader's read and of quoted.Scan.
-/
namespace Go.Proofs.YtoffjpgobhcipaaDoor
open Go.ChangeShapes Go.WideShapes Go.ChangeAt Go.RowKit

/-- the text in marks that begins at a place: its kind, what it says, where it ends -/
def readOf (l : List UInt8) (k : Nat) : Option (Nat × List UInt8 × Nat) :=
  if l[k]? = some 96 then (rawOf (k + 1) [] (l.drop (k + 1))).map fun x => (7, x)
  else if l[k]? = some 34 then (strOf l (l.length - (k + 1)) (k + 1) []).map fun x => (7, x)
  else if l[k]? = some 39 then (runeOf l (k + 1) []).map fun x => (6, x)
  else none
def kindAns (o : Option (Nat × List UInt8 × Nat)) : Nat := match o with | some (K, _) => K | none => 0

set_option maxRecDepth 100000 in
set_option maxHeartbeats 8000000 in
theorem reader_any (s : ByteArray) (hs : s.size ≤ 140737488351232) (b k : Nat) (v : Value) (w : World) (hR : Rd w b s k v []) (hk : k < s.size) :
    Calls Tryd.prog 47 #[.pointer (some ⟨b, 0, none⟩)] w fun e w' => e = .returned (.int .u8 (kindAns (readOf s.data.toList k))) ∧ (∀ K L k', readOf s.data.toList k = some (K, L, k') → (∃ v', Rd w' b s k' v' L)) ∧ Below b w w' := by
  have hl : s.data.toList.length = s.size := by simp
  have c0 := hR.c0
  have c1 := hR.c1
  have f1 := hR.f 1
  have d2 : (k : Int) < s.size := by omega
  have d3 : (0 : Int) ≤ k := by omega
  have w1 : IntKind.i64.wrap ((k : Int) + 1) = (k : Int) + 1 := by rw [IntKind.wrap_i64]; omega
  have HM := Lib.hid (show ∀ m, Rd ((w.drewN m).setCell ⟨b, 1, none⟩ (.int .i64 ((k : Int) + 1))) b s (k + 1) v [] from fun m => (hR.drewN m).move (k + 1) (by omega))
  have hBm := Lib.hid (show ∀ m, Below b w ((w.drewN m).setCell ⟨b, 1, none⟩ (.int .i64 ((k : Int) + 1))) from fun m => (below_drewN (Below.refl b w) m).setCell (p := ⟨b, 1, none⟩) (Nat.le_refl _) _)
  obtain ⟨A, hA⟩ : ∃ A, A = readOf s.data.toList k := ⟨_, rfl⟩
  rw [← hA]
  unfold readOf at hA
  rw [at_of s k hk, hl] at hA
  have b96 := bytes_n s[k] 96 96 rfl
  have b34 := bytes_n s[k] 34 34 rfl
  have b39 := bytes_n s[k] 39 39 rfl
  by_cases h96 : s[k] = 96
  · rw [if_pos (by rw [h96])] at hA
    rw [decide_eq_true h96] at b96
    have hcn : (s[k].toNat : Int) = 96 := by rw [h96]; rfl
    have hc := fun m => raw_any s hs b (k + 1) v [] (by simp) _ (HM.out m)
    obtain ⟨X, hX⟩ : ∃ X, X = rawOf (k + 1) [] (s.data.toList.drop (k + 1)) := ⟨_, rfl⟩
    rw [← hX] at hc hA
    clear hX h96 b96 b34 b39 hR
    cases X with
    | none =>
      have hz : A = none := hA
      subst hz
      clear hA
      go_enter Tryd.func47, Tryd.ntmps47
      go_upto_region 1 with fail
      go_quiet (fail)
      go_wp2_with (go_at_call 63; refine (hc _).mono ?_; rintro e w2 ⟨he, _, hB2⟩; have he' : e = .returned (.bool false) := he; clear he; subst he')
      go_ret
      (first | exact ⟨rfl, (fun _ _ _ h => by cases h), (hBm.out _).trans hB2⟩ | exact ⟨rfl, (hBm.out _).trans hB2⟩)
    | some x =>
      obtain ⟨L, k'⟩ := x
      have hz : A = some (7, L, k') := hA
      subst hz
      clear hA
      go_enter Tryd.func47, Tryd.ntmps47
      go_upto_region 1 with fail
      go_quiet (fail)
      go_wp2_with (go_at_call 63; refine (hc _).mono ?_; rintro e w2 ⟨he, hN, hB2⟩; have he' : e = .returned (.bool true) := he; clear he; subst he'; have HN := Lib.hid hN; clear hN)
      go_ret
      exact ⟨rfl, (fun K L' k'' h => by cases h; exact HN.out L k' rfl), (hBm.out _).trans hB2⟩
  rw [decide_eq_false h96] at b96
  rw [if_neg (by simpa using h96)] at hA
  by_cases h34 : s[k] = 34
  · rw [if_pos (by rw [h34])] at hA
    rw [decide_eq_true h34] at b34
    have hcn : (s[k].toNat : Int) = 34 := by rw [h34]; rfl
    have hc := fun m => string_any s hs b (k + 1) v [] (by simp) _ (HM.out m)
    obtain ⟨X, hX⟩ : ∃ X, X = strOf s.data.toList (s.size - (k + 1)) (k + 1) [] := ⟨_, rfl⟩
    rw [← hX] at hc hA
    clear hX h96 h34 b96 b34 b39 hR
    cases X with
    | none =>
      have hz : A = none := hA
      subst hz
      clear hA
      go_enter Tryd.func47, Tryd.ntmps47
      go_upto_region 1 with fail
      go_quiet (fail)
      go_wp2_with (go_at_call 64; refine (hc _).mono ?_; rintro e w2 ⟨he, _, hB2⟩; have he' : e = .returned (.bool false) := he; clear he; subst he')
      go_ret
      (first | exact ⟨rfl, (fun _ _ _ h => by cases h), (hBm.out _).trans hB2⟩ | exact ⟨rfl, (hBm.out _).trans hB2⟩)
    | some x =>
      obtain ⟨L, k'⟩ := x
      have hz : A = some (7, L, k') := hA
      subst hz
      clear hA
      go_enter Tryd.func47, Tryd.ntmps47
      go_upto_region 1 with fail
      go_quiet (fail)
      go_wp2_with (go_at_call 64; refine (hc _).mono ?_; rintro e w2 ⟨he, hN, hB2⟩; have he' : e = .returned (.bool true) := he; clear he; subst he'; have HN := Lib.hid hN; clear hN)
      go_ret
      exact ⟨rfl, (fun K L' k'' h => by cases h; exact HN.out L k' rfl), (hBm.out _).trans hB2⟩
  rw [decide_eq_false h34] at b34
  rw [if_neg (by simpa using h34)] at hA
  by_cases h39 : s[k] = 39
  · rw [if_pos (by rw [h39])] at hA
    rw [decide_eq_true h39] at b39
    have hcn : (s[k].toNat : Int) = 39 := by rw [h39]; rfl
    have hc := fun m => rune_any s hs b (k + 1) v [] (by simp) _ (HM.out m)
    obtain ⟨X, hX⟩ : ∃ X, X = runeOf s.data.toList (k + 1) [] := ⟨_, rfl⟩
    rw [← hX] at hc hA
    clear hX h96 h34 h39 b96 b34 b39 hR
    cases X with
    | none =>
      have hz : A = none := hA
      subst hz
      clear hA
      go_enter Tryd.func47, Tryd.ntmps47
      go_upto_region 1 with fail
      go_quiet (fail)
      go_wp2_with (go_at_call 65; refine (hc _).mono ?_; rintro e w2 ⟨he, _, hB2⟩; have he' : e = .returned (.bool false) := he; clear he; subst he')
      go_ret
      (first | exact ⟨rfl, (fun _ _ _ h => by cases h), (hBm.out _).trans hB2⟩ | exact ⟨rfl, (hBm.out _).trans hB2⟩)
    | some x =>
      obtain ⟨L, k'⟩ := x
      have hz : A = some (6, L, k') := hA
      subst hz
      clear hA
      go_enter Tryd.func47, Tryd.ntmps47
      go_upto_region 1 with fail
      go_quiet (fail)
      go_wp2_with (go_at_call 65; refine (hc _).mono ?_; rintro e w2 ⟨he, hN, hB2⟩; have he' : e = .returned (.bool true) := he; clear he; subst he'; have HN := Lib.hid hN; clear hN)
      go_ret
      exact ⟨rfl, (fun K L' k'' h => by cases h; exact HN.out L k' rfl), (hBm.out _).trans hB2⟩
  · rw [decide_eq_false h39] at b39
    rw [if_neg (by simpa using h39)] at hA
    subst hA
    clear h96 h34 h39 hR
    go_enter Tryd.func47, Tryd.ntmps47
    go_upto_region 1 with fail
    go_quiet (fail)
    go_wp2
    go_ret
    (first | exact ⟨rfl, (fun _ _ _ h => by cases h), hBm.out _⟩ | exact ⟨rfl, hBm.out _⟩)
end Go.Proofs.YtoffjpgobhcipaaDoor

/-
  Layer 6: contracts of quoted.Scan and Value.
-/
namespace Go.Proofs.YtoffjpgobhcipaaDoor
open Go.ChangeShapes Go.WideShapes Go.ChangeAt Go.RowKit

theorem rd_new (w : World) (s : ByteArray) (k : Nat) (hk : k ≤ s.size) : Rd (w.alloc (.cells #[.string s, .int .i64 k, .slice none 0 0] 79)) w.heap.size s k (.slice none 0 0) [] := by
  refine ⟨?_, World.ownsRow_nil _ _ _ _, hk⟩
  show (w.heap.push _)[w.heap.size]? = _
  simp
theorem readOf_kind {l : List UInt8} {k K : Nat} {L : List UInt8} {k' : Nat} (h : readOf l k = some (K, L, k')) : K = 6 ∨ K = 7 := by
  unfold readOf at h
  split at h
  · cases hr : rawOf (k + 1) [] (l.drop (k + 1)) with
    | none => rw [hr] at h; cases h
    | some x => rw [hr] at h; cases h; exact .inr rfl
  · split at h
    · cases hr : strOf l (l.length - (k + 1)) (k + 1) [] with
      | none => rw [hr] at h; cases h
      | some x => rw [hr] at h; cases h; exact .inr rfl
    · split at h
      · cases hr : runeOf l (k + 1) [] with
        | none => rw [hr] at h; cases h
        | some x => rw [hr] at h; cases h; exact .inl rfl
      · cases h
/-- does a text in marks begin at a place? -/
def markAt (l : List UInt8) (at' : Int) : Bool := decide (0 ≤ at') && (match l[at'.toNat]? with | some c => mark? c | none => false)
/-- what Scan says of a reading -/
def scanAns : Option (Nat × List UInt8 × Nat) → Nat × Int × Int
  | some (K, _, k') => (K, (k' : Int), 0)
  | none => (0, 0, 4)
/-- what Scan answers -/
def scanP (l : List UInt8) (at' : Int) : Nat × Int × Int :=
  if markAt l at' = true then scanAns (readOf l at'.toNat) else (0, 0, 15)

set_option maxHeartbeats 4000000 in
theorem scan_any (s : ByteArray) (hs : s.size ≤ 140737488351232) (at' : Int) (w : World) :
    Calls Tryd.prog 37 #[.string s, .int .i64 at'] w fun e w' => e = .returned (.tuple #[.int .u8 (scanP s.data.toList at').1, .int .i64 (scanP s.data.toList at').2.1, .int .i64 (scanP s.data.toList at').2.2]) ∧ Below w.heap.size w w' := by
  by_cases h0 : at' < 0
  · have hr : scanP s.data.toList at' = (0, 0, 15) := by unfold scanP markAt; rw [decide_eq_false (by omega)]; rfl
    rw [hr]
    clear hr
    go_enter Tryd.func37, Tryd.ntmps37
    go_wp2
    go_ret3
    exact ⟨rfl, Below.refl _ _⟩
  · obtain ⟨a, rfl⟩ : ∃ a : Nat, at' = (a : Int) := ⟨at'.toNat, by omega⟩
    have ht : ((a : Int)).toNat = a := by omega
    by_cases hin : a < s.size
    · have d2 : (a : Int) < s.size := by omega
      have hmk : markAt s.data.toList a = mark? s[a] := by unfold markAt; rw [decide_eq_true (by omega), ht, at_of s a hin]; rfl
      have hmc := fun w => mark_any s[a] w
      obtain ⟨m, hm⟩ : ∃ m, m = mark? s[a] := ⟨_, rfl⟩
      rw [← hm] at hmk hmc
      cases m with
      | false =>
        have hr : scanP s.data.toList a = (0, 0, 15) := by unfold scanP; rw [hmk]; rfl
        rw [hr]
        clear hr hmk hm
        go_enter Tryd.func37, Tryd.ntmps37
        go_wp2_with (go_at_call 46; refine (hmc _).mono ?_; rintro e w1 ⟨rfl, hw⟩; rw [hw]; clear hw w1)
        go_ret3
        exact ⟨rfl, Below.refl _ _⟩
      | true =>
        obtain ⟨A, hA⟩ : ∃ A, A = readOf s.data.toList a := ⟨_, rfl⟩
        have hr : scanP s.data.toList a = scanAns A := by unfold scanP; rw [hmk, if_pos rfl, ht, ← hA]
        have hrd := reader_any s hs w.heap.size a (.slice none 0 0) (w.alloc (.cells #[.string s, .int .i64 a, .slice none 0 0] 79)) (rd_new w s a (by omega)) hin
        rw [← hA] at hrd
        have hB0 : Below w.heap.size w (w.alloc (.cells #[.string s, .int .i64 a, .slice none 0 0] 79)) := (Below.refl _ w).alloc (Nat.le_refl _) _
        have HAk := Lib.hid hA
        clear hmk hm
        cases A with
        | none =>
          have hr2 : scanP s.data.toList a = (0, 0, 4) := hr
          rw [hr2]
          clear hr hr2 hA
          go_enter Tryd.func37, Tryd.ntmps37
          go_wp2_with (first
            | (go_at_call 46; refine (hmc _).mono ?_; rintro e w1 ⟨rfl, hw⟩; rw [hw]; clear hw w1)
            | (go_at_call 47; refine hrd.mono ?_; rintro e w2 ⟨he, _, hB2⟩; have he' : e = .returned (.int .u8 0) := he; clear he; subst he'))
          go_ret3
          exact ⟨rfl, hB0.trans hB2⟩
        | some x =>
          obtain ⟨K, L, k'⟩ := x
          have hr2 : scanP s.data.toList a = (K, (k' : Int), 0) := hr
          have hk := readOf_kind HAk.out.symm
          have d5 : ((K : Int) == 0) = false := by rw [beq_eq_false_iff_ne]; omega
          rw [hr2]
          clear hr hr2 hA hk
          go_enter Tryd.func37, Tryd.ntmps37
          go_wp2_with (first
            | (go_at_call 46; refine (hmc _).mono ?_; rintro e w1 ⟨rfl, hw⟩; rw [hw]; clear hw w1)
            | (go_at_call 47; refine hrd.mono ?_; rintro e w2 ⟨he, hN, hB2⟩; have he' : e = .returned (.int .u8 K) := he; clear he; subst he'; obtain ⟨v2, hR2⟩ := hN K L k' rfl; have e1 := hR2.c1; have HB2 := Lib.hid (hB0.trans hB2); clear hN hR2 hB2))
          go_upto_region 7 with fail
          go_quiet (fail)
          go_wp2
          go_ret3
          exact ⟨rfl, below_drewN HB2.out _⟩
    · have hr : scanP s.data.toList a = (0, 0, 15) := by
        unfold scanP markAt
        rw [ht, List.getElem?_eq_none (by simp; omega)]; simp
      rw [hr]
      have d2 : (s.size : Int) ≤ a := by omega
      clear hr
      go_enter Tryd.func37, Tryd.ntmps37
      go_wp2
      go_ret3
      exact ⟨rfl, Below.refl _ _⟩
end Go.Proofs.YtoffjpgobhcipaaDoor

/-
  Layer 6: contract of quoted.Value.
-/
namespace Go.Proofs.YtoffjpgobhcipaaDoor
open Go.ChangeShapes Go.WideShapes Go.ChangeAt Go.RowKit

theorem conv_own {w : World} {base : Nat} {v : Value} {l : List UInt8} (h : w.ownsRow base 5 1 v l.length (bvals l)) :
    (convert 40 9 v).run Tryd.prog w = .ok (.string ⟨l.toArray⟩) w := by
  rcases h.2 with ⟨rfl, h0⟩ | ⟨g, cap, cur, rfl, hb, hg, hn, hm, hs, ht⟩
  · have : l = [] := List.eq_nil_of_length_eq_zero h0
    subst this
    rw [run_convert_bytes_string _ 40 9 5 _ _ _ Tryd.underlying40 Tryd.underlying5 Tryd.underlying9]
    rfl
  · have hv : bvals l = (l.map fun x => (x.toNat : Int)).map (Value.int .u8) := by unfold bvals; rw [List.map_map]; rfl
    rw [run_convert_bytes_string _ 40 9 5 _ _ _ Tryd.underlying40 Tryd.underlying5 Tryd.underlying9, run_bytesToString _ _ _ _ (l.map fun x => (x.toNat : Int))]
    · congr 2
      have h1 := foldl_bytes (l.map fun x => (x.toNat : Int)) ByteArray.empty
      have h2 : (ByteArray.empty.data.toList ++ (l.map fun x => (x.toNat : Int)).map fun n => UInt8.ofNat n.toNat) = l := by
        rw [List.map_map]
        have : ((fun n : Int => UInt8.ofNat n.toNat) ∘ fun x : UInt8 => (x.toNat : Int)) = id := by funext x; simp
        rw [this]; simp
      rw [h2] at h1
      apply ByteArray.ext
      apply Array.ext'
      rw [h1]
    · have hl : (bvals l).length = l.length := by simp [bvals]
      have := run_loadCells_list (P := Tryd.prog) (w := w) ⟨g, 0, none⟩ (bvals l) (fun j x hj => by
        have ha : (⟨g, 0, none⟩ : Addr).add j = ⟨g, j, none⟩ := by unfold Addr.add; split <;> simp_all
        rw [ha]
        unfold World.cell?
        simp only [hg]
        rw [← ht, List.getElem?_take] at hj
        split at hj
        · simpa using hj
        · cases hj)
      rw [hl, hv] at this
      exact this

/-- what a reading says, where it ends with the text -/
def valueOf (n : Nat) : Option (Nat × List UInt8 × Nat) → Option (List UInt8)
  | some (_, L, k') => if k' = n then some L else none
  | none => none
/-- what a text in marks says, where it is all of a text -/
def valueP (l : List UInt8) : Option (List UInt8) :=
  if markAt l 0 = true then valueOf l.length (readOf l 0) else none
/-- what Value answers -/
def valueAns : Option (List UInt8) → Value
  | some L => .tuple #[.string ⟨L.toArray⟩, .int .i64 0]
  | none => .tuple #[.string ⟨#[]⟩, .int .i64 4]

set_option maxHeartbeats 4000000 in
theorem value_any (s : ByteArray) (hs : s.size ≤ 140737488351232) (w : World) :
    Calls Tryd.prog 38 #[.string s] w fun e w' => e = .returned (valueAns (valueP s.data.toList)) ∧ Below w.heap.size w w' := by
  have hl : s.data.toList.length = s.size := by simp
  have hB0 : Below w.heap.size w (w.alloc (.cells #[.string s, .int .i64 0, .slice none 0 0] 79)) := (Below.refl _ w).alloc (Nat.le_refl _) _
  by_cases hin : 0 < s.size
  · have hmk : markAt s.data.toList 0 = mark? s[0] := by unfold markAt; rw [decide_eq_true (by omega)]; show (true && match s.data.toList[0]? with | some c => mark? c | none => false) = _; rw [at_of s 0 hin]; rfl
    have hmc := fun w => mark_any s[0] w
    have d2 : (0 : Int) < s.size := by omega
    have hse : (s.toList == []) = false := by
      rw [ByteArray.toList_eq, beq_eq_false_iff_ne]
      intro e
      have := congrArg List.length e
      rw [hl, List.length_nil] at this
      omega
    obtain ⟨m, hm⟩ : ∃ m, m = mark? s[0] := ⟨_, rfl⟩
    rw [← hm] at hmk hmc
    cases m with
    | false =>
      have hr : valueP s.data.toList = none := by unfold valueP; rw [hmk]; rfl
      rw [hr]
      clear hr hmk hm
      go_enter Tryd.func38, Tryd.ntmps38
      go_wp2_with (first
        | (go_at_call 46; refine (hmc _).mono ?_; rintro e w1 ⟨rfl, hw⟩; rw [hw]; clear hw w1)
        | fail)
      go_ret2
      exact ⟨rfl, hB0⟩
    | true =>
      have hrd := reader_any s hs w.heap.size 0 (.slice none 0 0) (w.alloc (.cells #[.string s, .int .i64 0, .slice none 0 0] 79)) (rd_new w s 0 (by omega)) hin
      obtain ⟨A, hA⟩ : ∃ A, A = readOf s.data.toList 0 := ⟨_, rfl⟩
      rw [← hA] at hrd
      have hr : valueP s.data.toList = valueOf s.data.toList.length A := by unfold valueP; rw [hmk, if_pos rfl, ← hA]
      rw [hl] at hr
      have HAk := Lib.hid hA
      clear hmk hm hA
      rw [hr]
      clear hr
      cases A with
      | none =>
        show Calls _ _ _ _ fun e w' => e = .returned (valueAns none) ∧ _
        go_enter Tryd.func38, Tryd.ntmps38
        go_wp2_with (first
          | (go_at_call 46; refine (hmc _).mono ?_; rintro e w1 ⟨rfl, hw⟩; rw [hw]; clear hw w1)
          | (go_at_call 47; refine hrd.mono ?_; rintro e w2 ⟨he, _, hB2⟩; have he' : e = .returned (.int .u8 0) := he; clear he; subst he'))
        go_ret2
        exact ⟨rfl, hB0.trans hB2⟩
      | some x =>
        obtain ⟨K, L, k'⟩ := x
        have hk := readOf_kind HAk.out.symm
        have d5 : ((K : Int) == 0) = false := by rw [beq_eq_false_iff_ne]; omega
        by_cases he : k' = s.size
        · have hr2 : valueOf s.size (some (K, L, k')) = some L := by show (if k' = s.size then some L else none) = some L; rw [if_pos he]
          have d6 : ((k' : Int) == (s.size : Int)) = true := by rw [beq_iff_eq]; omega
          rw [hr2]
          clear hr2 hk he
          go_enter Tryd.func38, Tryd.ntmps38
          go_wp2_with (first
            | (go_at_call 46; refine (hmc _).mono ?_; rintro e w1 ⟨rfl, hw⟩; rw [hw]; clear hw w1)
            | (go_at_call 47; refine hrd.mono ?_; rintro e w2 ⟨he, hN, hB2⟩; have he' : e = .returned (.int .u8 K) := he; clear he; subst he'; obtain ⟨v2, hR2⟩ := hN K L k' rfl; have e1 := hR2.c1; have e2 := hR2.c2; have hcv := conv_own hR2.own; have HB2 := Lib.hid (hB0.trans hB2); clear hN hR2 hB2))
          go_ret2
          exact ⟨rfl, HB2.out⟩
        · have hr2 : valueOf s.size (some (K, L, k')) = none := by show (if k' = s.size then some L else none) = none; rw [if_neg he]
          have d6 : ((k' : Int) == (s.size : Int)) = false := by rw [beq_eq_false_iff_ne]; omega
          rw [hr2]
          clear hr2 hk he
          go_enter Tryd.func38, Tryd.ntmps38
          go_wp2_with (first
            | (go_at_call 46; refine (hmc _).mono ?_; rintro e w1 ⟨rfl, hw⟩; rw [hw]; clear hw w1)
            | (go_at_call 47; refine hrd.mono ?_; rintro e w2 ⟨he, hN, hB2⟩; have he' : e = .returned (.int .u8 K) := he; clear he; subst he'; obtain ⟨v2, hR2⟩ := hN K L k' rfl; have e1 := hR2.c1; have HB2 := Lib.hid (hB0.trans hB2); clear hN hR2 hB2))
          go_ret2
          exact ⟨rfl, HB2.out⟩
  · have h0 : s.size = 0 := by omega
    have hr : valueP s.data.toList = none := by
      have hn : s.data.toList = [] := List.eq_nil_of_length_eq_zero (by omega)
      rw [hn]; rfl
    have hse : s = (⟨#[]⟩ : ByteArray) := by
      apply ByteArray.ext; exact Array.eq_empty_of_size_eq_zero h0
    subst hse
    rw [hr]
    clear hr
    go_enter Tryd.func38, Tryd.ntmps38
    go_wp2
    go_ret2
    exact ⟨rfl, hB0⟩
end Go.Proofs.YtoffjpgobhcipaaDoor

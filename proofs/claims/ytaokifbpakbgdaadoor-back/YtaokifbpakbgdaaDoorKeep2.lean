/-
  Package foliokeep: a data set as bytes, by the document's words.
-/
import Derived.Test.YtaokifbpakbgdaaDoorKeep1
namespace Go.Proofs.YtaokifbpakbgdaaDoor
open Go.RowKit

/-- A world that has only grown. -/
def Later (w : World) : Type := { u : World // Below w.heap.size w u }
def Later.val {w : World} (u : Later w) : World := Subtype.val u
theorem Later.up {w : World} (u : Later w) : Below w.heap.size w u.val := Subtype.property u
def Later.of {w u : World} (h : Below w.heap.size w u) : Later w := ⟨u, h⟩
/-- A REGION THAT DRAWS ITS ORDER AND WHOSE CALLEES LAY NEW MEMORY: one walk in the order of the text. -/
theorem wp_region_below {P : Program} {id : Nat} {Q : Exit → Act → World → Prop} {a : Act} {w : World} {l : List Oper} (hm : P.follows .mixedOrders = true) (hB : Region.lexB .any l.toArray = true)
    (h : wpQuiet P l.toArray (fun w' => ∃ u : Later w, w' = u.val) (fun a' => ∀ w', (∃ u : Later w, w' = u.val) → Q .normal a' w') l a) : (Code.region id l.toArray true).wp P Q a w :=
  wp_region_quiet (C := fun w' => ∃ u : Later w, w' = u.val) hm hB ⟨Later.of (Below.drew (Below.refl _ _)), rfl⟩ (by simpa using h)
theorem calls_below {P : Program} {f : FuncId} {args : Array Value} {w : World} {v : Value} {u : Later w} (h : Calls P f args u.val fun e w' => e = .returned v ∧ Below u.val.heap.size u.val w') :
    Calls P f args u.val fun e w'' => e = .returned v ∧ ∃ u' : Later w, w'' = u'.val :=
  h.mono fun _ _ ⟨he, hb⟩ => ⟨he, Later.of (u.up.trans (hb.mono u.up.size)), rfl⟩
theorem cat (a b : By) : ∃ c, Hid (c = a ++ b) ∧ bs a ++ bs b = bs c ∧ (bs c).size = c.length ∧ c.length = a.length + b.length := ⟨a ++ b, rfl, bs_append a b, rfl, List.length_append⟩
/-- What is asked of written, at a depth. -/
def KW (n : Nat) : Prop := ∀ (F : Nat → Prop) (w : World) (sv : Value) (l : List (El n)) (d : Nat) (o : Bool) (p : Nat), Rd w F n sv l → errS n d l = 0 → d ≤ 2 → 3 ≤ d + n → p ≤ 100 → (wrS o p n l).length ≤ 274877906944 →
  Calls Tryd.prog 17 #[sv, .bool o, .int .i64 p] w fun e w' => e = .returned (.string (bs (wrS o p n l))) ∧ Below w.heap.size w w'
set_option maxHeartbeats 8000000 in
set_option maxRecDepth 20000 in
theorem kwritten_succ (n : Nat) (H : KW n) : KW (n + 1) := by
  intro F w sv l d o p h he hd hn hp hl
  obtain ⟨ad, cap, rfl⟩ := h.slice
  rw [errS] at he
  by_cases h24 : 24 < l.length
  · rw [if_pos h24] at he; cases he
  rw [if_neg h24] at he
  have hels := errL_mem he
  clear he
  rw [wrS_succ] at hl ⊢
  go_enter Tryd.func17, Tryd.ntmps17
  go_wp2_with fail
  go_loopw [7, 8] (fun s i wr => ∃ k : Nat, k ≤ l.length ∧ i = .int .i64 k ∧ s = .string (bs ((l.take k).map (wrE (wrS o p n) o p)).flatten) ∧ Hid (Below w.heap.size w wr)) (fun _ i _ => l.length - (intOf i).toNat)
  case atStart => exact ⟨0, Nat.zero_le _, rfl, rfl, Below.refl _ _⟩
  case round =>
    obtain ⟨k, hk, rfl, rfl, hup⟩ := hrel
    by_cases hkl : k < l.length
    · obtain ⟨a, ad2, cap2, rfl, hF, c0, c1, c2, c3, hrd⟩ := (h.up hup.out).at (List.getElem?_eq_getElem hkl)
      obtain ⟨before, hbef⟩ := hels l[k] (List.getElem_mem hkl)
      have hflat := hid (flat_take (wrE (wrS o p n) o p) l k hkl)
      have hfl := flat_take_le (wrE (wrS o p n) o p) l (k + 1)
      rw [hflat.out, List.length_append] at hfl
      generalize l[k] = x at hrd hbef c0 c1 c2 c3 hflat hfl
      obtain ⟨t, kd, u, its⟩ := x
      obtain ⟨e1, e2, e3, e4, e5, e6, e7, e8, e9, e10, e11, e12⟩ := errE_ok hbef
      simp only at e1 e2 e3 e4 e5 e6 e7 e8 e9 e10 e11 e12 c0 c1 c2 c3 hrd
      obtain ⟨t, rfl⟩ := Int.eq_ofNat_of_zero_le e2
      rw [wrE_eq, List.length_append, List.length_append, isK_length e1, show (wrT (t : Int)).length = 4 by simp [wrT, lows_length]] at hfl
      rw [wrE_eq] at hflat
      have hkl2 := hid (isK_length e1)
      have hrd' := hid hrd
      have E := hid (And.intro e8 (And.intro e9 (And.intro e11 e12)))
      clear hrd hbef e1 e2 e4 e5 e7 e8 e9 e11 e12
      generalize hS : ((l.take k).map (wrE (wrS o p n) o p)).flatten = S at hflat hfl
      clear hS
      generalize hT : (if kd = SQ then wrQ o (List.map (wrI (wrS o p n) o) its).flatten else lows 2 (wrV p kd u).length ++ wrV p kd u) = T at hflat hfl
      have hT' := hid hT
      clear hT
      have hkdl := bs_toList kd
      have hkds := (bs_size kd).trans hkl2.out
      have hSs := bs_size S
      have hSl : S.length ≤ 274877906938 := by omega
      have hl1 := (bs_size (lows 2 (t / 65536))).trans (lows_length _ _)
      have hl2 := (bs_size (lows 2 (t % 65536))).trans (lows_length _ _)
      go_wp2_with fail
      have hXA := Four.new wr (.int .i64 t) (.string (bs kd)) (.string (bs u)) (.slice ad2 its.length cap2)
      have hrdA := hid (hrd'.out.up (Below.alloc (Below.refl _ _) (Nat.le_refl _) (.cells #[.int .i64 t, .string (bs kd), .string (bs u), .slice ad2 its.length cap2] 37)))
      have hupA := hid (Below.alloc hup.out hup.out.size (.cells #[.int .i64 t, .string (bs kd), .string (bs u), .slice ad2 its.length cap2] 37))
      generalize wr.alloc (.cells #[.int .i64 t, .string (bs kd), .string (bs u), .slice ad2 its.length cap2] 37) = wA at hXA hrdA hupA ⊢
      have hx0 : ∀ q : Later wA, q.val.cell? ⟨wr.heap.size, 0, none⟩ = some (.int .i64 t) := fun q => (hXA.keep (q.up.block _ hXA.lt)).cells.1.1
      have hx1 : ∀ q : Later wA, q.val.cell? ⟨wr.heap.size, 1, none⟩ = some (.string (bs kd)) := fun q => (hXA.keep (q.up.block _ hXA.lt)).cells.1.2.1
      have hw1 := hid (show IntKind.i64.wrap ((t : Int) / 65536) = ((t / 65536 : Nat) : Int) by rw [IntKind.wrap_i64]; omega)
      have hw2 := hid (show ((t : Int)).tmod 65536 = ((t % 65536 : Nat) : Int) by rw [Int.tmod_eq_emod_of_nonneg (by omega)]; omega)
      obtain ⟨SA, hSA, ha1, hz4, hy4⟩ := cat S (lows 2 (t / 65536))
      obtain ⟨SB, hSB, ha2, hz5, hy5⟩ := cat SA (lows 2 (t % 65536))
      obtain ⟨SC, hSC, ha3, hz6, hy6⟩ := cat SB kd
      rw [lows_length] at hy4 hy5
      rw [hkl2.out] at hy6
      have hno1 : ¬ 9223372036854775807 < S.length + 2 := by omega
      have hno2 : ¬ 9223372036854775807 < S.length + 2 + 2 := by omega
      have hno3 : ¬ 9223372036854775807 < S.length + 2 + 2 + 2 := by omega
      have hno4 : ¬ 9223372036854775807 < S.length + 4 := by omega
      have hno5 : ¬ 9223372036854775807 < S.length + 4 + 2 := by omega
      have hno6 : ¬ 9223372036854775807 < S.length + 6 := by omega
      have hne : Nonempty (Later wA) := ⟨Later.of (Below.refl _ _)⟩
      refine wp_region_below (by kernel_rfl) (by kernel_rfl) ?_
      quiet_step (fail)
      quiet_step (fail)
      quiet_step (fail)
      quiet_step (fail)
      quiet_step ((go_at_call 30; rw [hw1.out]; exact calls_below (klow_any (t / 65536) 2 _ (by omega) (by omega))))
      quiet_step (fail)
      quiet_step (fail)
      quiet_step (fail)
      quiet_step (fail)
      quiet_step ((go_at_call 30; rw [hw2.out]; exact calls_below (klow_any (t % 65536) 2 _ (by omega) (by omega))))
      quiet_step (fail)
      quiet_step (fail)
      quiet_step (fail)
      quiet_step (fail)
      quiet_step (fail)
      refine wpQuiet_nil ?_
      intro _ hw'
      obtain ⟨wq, rfl⟩ := hw'
      have hX4 := hXA.keep (wq.up.block _ hXA.lt)
      have hup4 := hid (hupA.out.trans (wq.up.mono hupA.out.size))
      have hrd4 := hid (hrdA.out.up wq.up)
      generalize wq.val = w4 at hX4 hup4 hrd4 ⊢
      clear hx0 hx1 hne hXA hrdA hupA hw1 hw2 ha1 ha2 ha3 hz4 hz5 hno1 hno2 hno3 hno4 hno5 hno6
      have hSC' := hid (show S ++ (wrT t ++ kd) = SC by
        rw [hSC.out, hSB.out, hSA.out]
        unfold wrT
        rw [show ((t : Int) / 65536).toNat = t / 65536 by omega, show ((t : Int) % 65536).toNat = t % 65536 by omega]
        simp only [List.append_assoc])
      have hSCl : SC.length ≤ 274877906944 := by omega
      have hround := hid (show ((l.take (k + 1)).map (wrE (wrS o p n) o p)).flatten = SC ++ T by rw [hflat.out, ← List.append_assoc, hSC'.out])
      have hTl : SC.length + T.length ≤ 274877906944 := by omega
      clear hflat hfl hSA hSB hSC hy4 hy5 hy6 hSC' hSs hSl
      obtain ⟨⟨x0, x1, x2, x3⟩, _⟩ := hX4.cells
      by_cases hq : (kd == [83, 81]) = true
      · have hq2 := hid (show kd = SQ by simpa using hq)
        have hTq := hid (show wrQ o (List.map (wrI (wrS o p n) o) its).flatten = T by rw [← hT'.out, if_pos hq2.out])
        have hd2 := hid (E.out.2.2.1 hq2.out)
        have hgood := hid (errI_mem E.out.2.2.2)
        have hTl2 := hid (show ((List.map (wrI (wrS o p n) o) its).flatten).length + 6 ≤ T.length by
          rw [← hTq.out]
          unfold wrQ sizeB
          cases o <;> simp [lows_length] <;> omega)
        clear hT' E
        have hSCs := bs_size SC
        go_wp2_with fail
        go_loopw [13, 14] (fun v j wi => ∃ (i : Nat) (A : By), i ≤ its.length ∧ j = .int .i64 i ∧ v = .string (bs A) ∧ Hid (A = ((its.take i).map (wrI (wrS o p n) o)).flatten) ∧ Hid (Below w4.heap.size w4 wi)) (fun _ j _ => its.length - (intOf j).toNat)
        case atStart => exact ⟨0, [], Nat.zero_le _, rfl, rfl, rfl, Below.refl _ _⟩
        case round =>
          obtain ⟨i, A, hi, rfl, rfl, hA, hupi⟩ := hrel
          obtain ⟨⟨_, _, _, y3⟩, _⟩ := (hX4.keep (hupi.out.block _ hX4.lt)).cells
          have hAl := flat_take_le (wrI (wrS o p n) o) its i
          rw [← hA.out] at hAl
          have hAs := bs_size A
          by_cases hil : i < its.length
          · obtain ⟨a2, ad3, cap3, rfl, _, g0, hrd5⟩ := (hrd4.out.up hupi.out).at (List.getElem?_eq_getElem hil)
            have hgk := hgood.out its[i] (List.getElem_mem hil)
            have hfl2 := hid (flat_take (wrI (wrS o p n) o) its i hil)
            have hfm := mem_flat_le (e := wrI (wrS o p n) o) (List.getElem_mem hil)
            have hfl3 := flat_take_le (wrI (wrS o p n) o) its (i + 1)
            rw [hfl2.out, List.length_append, ← hA.out] at hfl3
            generalize its[i] = y at hrd5 hgk g0 hfl2 hfm hfl3
            have hwi : (wrI (wrS o p n) o y).length = 8 + (wrS o p n y).length + (if o then 8 else 0) := by
              unfold wrI sizeB
              cases o <;> simp [lows_length] <;> omega
            go_wp2_with fail
            go_at_call 17
            refine (H F wr _ y (d + 1) o p hrd5 hgk (by have := hd2.out; omega) (by omega) hp (by have := hTl2.out; omega)).mono ?_
            rintro e w5 ⟨rfl, u5⟩
            have hup5 := hid (hupi.out.trans (u5.mono hupi.out.size))
            have hdef := hid (show wrI (wrS o p n) o y = [254, 255, 0, 224] ++ sizeB o (wrS o p n y) ++ wrS o p n y ++ (if o then [254, 255, 13, 224, 0, 0, 0, 0] else []) from rfl)
            generalize wrS o p n y = tb at hdef hwi
            clear u5 hrd5 hgk hfm
            obtain ⟨Z, hZ, hZl⟩ : ∃ Z, Hid (sizeB o tb = Z) ∧ Z.length = 4 := ⟨_, rfl, by unfold sizeB; cases o <;> simp [lows_length]⟩
            have hzs := bs_size Z
            have htbs := bs_size tb
            obtain ⟨A1, hA1, hb1, hz1, hy1⟩ := cat A [254, 255, 0, 224]
            obtain ⟨A2, hA2, hb2, hz2, hy2⟩ := cat A1 Z
            obtain ⟨A3, hA3, hb3, hz3, hy3⟩ := cat A2 tb
            obtain ⟨A4, hA4, hb4, hz4, hy4⟩ := cat A3 [254, 255, 13, 224, 0, 0, 0, 0]
            have hb1' : bs A ++ (⟨#[254, 255, 0, 224]⟩ : ByteArray) = bs A1 := hb1
            have hb4' : bs A3 ++ (⟨#[254, 255, 13, 224, 0, 0, 0, 0]⟩ : ByteArray) = bs A4 := hb4
            have hlit1 : (⟨#[254, 255, 0, 224]⟩ : ByteArray).size = 4 := rfl
            have hlit2 : (⟨#[254, 255, 13, 224, 0, 0, 0, 0]⟩ : ByteArray).size = 8 := rfl
            simp only [List.length_cons, List.length_nil, Nat.zero_add, Nat.reduceAdd] at hy1 hy4
            clear hb1 hb4
            have hbd : A.length + tb.length + 16 ≤ 549755813888 := by have := hTl2.out; omega
            go_wp2_with fail
            go_at_call 31
            refine (ksize_any w5 tb o (by have := hTl2.out; omega)).mono ?_
            rw [hZ.out]
            rintro e w6 ⟨rfl, u6⟩
            have hup6 := hid (hup5.out.trans (u6.mono hup5.out.size))
            clear u6
            by_cases ho : o = true
            · have hfin := hid (show ((its.take (i + 1)).map (wrI (wrS o p n) o)).flatten = A4 by
                rw [hfl2.out, hdef.out, hA4.out, hA3.out, hA2.out, hA1.out, ← hZ.out, ← hA.out, if_pos ho]
                simp only [List.append_assoc])
              go_wp2
              go_roundw
              case rel => (repeat apply Exists.intro); exact ⟨⟨i + 1, A4, by omega, by go_num, rfl, hfin.out.symm, hup6⟩, by subst ho; rfl⟩
              case measure => simp [intOf]; omega
            · have ho' : o = false := by simpa using ho
              have hfin := hid (show ((its.take (i + 1)).map (wrI (wrS o p n) o)).flatten = A3 by
                rw [hfl2.out, hdef.out, hA3.out, hA2.out, hA1.out, ← hZ.out, ← hA.out, if_neg ho]
                simp only [List.append_assoc, List.append_nil])
              clear ho
              go_wp2
              go_roundw
              case rel => (repeat apply Exists.intro); exact ⟨⟨i + 1, A3, by omega, by go_num, rfl, hfin.out.symm, hup6⟩, by subst ho'; rfl⟩
              case measure => simp [intOf]; omega
          · have hAA := hid (show A = ((List.map (wrI (wrS o p n) o) its).flatten) by rw [hA.out, List.take_of_length_le (by omega)])
            obtain ⟨Z, hZ, hZl⟩ : ∃ Z, Hid (sizeB o A = Z) ∧ Z.length = 4 := ⟨_, rfl, by unfold sizeB; cases o <;> simp [lows_length]⟩
            have hzs := bs_size Z
            obtain ⟨A1, hA1, hb1, hz1, hy1⟩ := cat SC [0, 0]
            obtain ⟨A2, hA2, hb2, hz2, hy2⟩ := cat A1 Z
            obtain ⟨A3, hA3, hb3, hz3, hy3⟩ := cat A2 A
            obtain ⟨A4, hA4, hb4, hz4, hy4⟩ := cat A3 [254, 255, 221, 224, 0, 0, 0, 0]
            have hb1' : bs SC ++ (⟨#[0, 0]⟩ : ByteArray) = bs A1 := hb1
            have hb4' : bs A3 ++ (⟨#[254, 255, 221, 224, 0, 0, 0, 0]⟩ : ByteArray) = bs A4 := hb4
            have hlit1 : (⟨#[0, 0]⟩ : ByteArray).size = 2 := rfl
            have hlit2 : (⟨#[254, 255, 221, 224, 0, 0, 0, 0]⟩ : ByteArray).size = 8 := rfl
            simp only [List.length_cons, List.length_nil, Nat.zero_add, Nat.reduceAdd] at hy1 hy4
            clear hb1 hb4
            have hbd : SC.length + A.length + 16 ≤ 1099511627776 := by have := hTl2.out; omega
            go_wp2_with fail
            go_at_call 31
            refine (ksize_any wr A o (by have := hTl2.out; omega)).mono ?_
            rw [hZ.out]
            rintro e w6 ⟨rfl, u6⟩
            have hup6 := hid (hup4.out.trans ((hupi.out.trans (u6.mono hupi.out.size)).mono hup4.out.size))
            clear u6
            by_cases ho : o = true
            · have hfin := hid (show SC ++ T = A4 by
                rw [← hTq.out, wrQ, ← hAA.out, hZ.out, hA4.out, hA3.out, hA2.out, hA1.out, if_pos ho]
                simp only [List.append_assoc])
              go_wp2
              go_roundw
              case rel => (repeat apply Exists.intro); exact ⟨⟨k + 1, by omega, by go_num, by rw [hround.out, hfin.out], hup6⟩, by subst ho; rfl⟩
              case measure => simp [intOf]; omega
            · have ho' : o = false := by simpa using ho
              have hfin := hid (show SC ++ T = A3 by
                rw [← hTq.out, wrQ, ← hAA.out, hZ.out, hA3.out, hA2.out, hA1.out, if_neg ho]
                simp only [List.append_assoc, List.append_nil])
              clear ho
              go_wp2
              go_roundw
              case rel => (repeat apply Exists.intro); exact ⟨⟨k + 1, by omega, by go_num, by rw [hround.out, hfin.out], hup6⟩, by subst ho'; rfl⟩
              case measure => simp [intOf]; omega
      · have hq2 : (kd == [83, 81]) = false := by simpa using hq
        have hTv := hid (show lows 2 (wrV p kd u).length ++ wrV p kd u = T by rw [← hT'.out, if_neg (by simpa using hq)])
        clear hq hT'
        have hus := bs_size u
        obtain ⟨V0, hV0, hv1, hv2, hv3⟩ : ∃ V0, Hid (V0 = if u.length % 2 = 1 then u ++ [padB kd] else u) ∧ (u.length % 2 = 1 → bs u ++ bs [padB kd] = bs V0) ∧ (¬ u.length % 2 = 1 → V0 = u) ∧ V0.length ≤ 66 := by
          by_cases ho : u.length % 2 = 1
          · exact ⟨u ++ [padB kd], by unfold Hid; rw [if_pos ho], fun _ => bs_append _ _, fun h => absurd ho h, by rw [List.length_append]; simp; omega⟩
          · exact ⟨u, by unfold Hid; rw [if_neg ho], fun h => absurd h ho, fun _ => rfl, by omega⟩
        have hV0s := bs_size V0
        have hpads : (bs [padB kd]).size = 1 := rfl
        have hpad : (if (kd == [85, 73]) = true then (⟨#[0]⟩ : ByteArray) else ⟨#[32]⟩) = bs [padB kd] := by
          unfold padB
          by_cases hui : kd = [85, 73]
          · subst hui; rfl
          · rw [if_neg (by simpa using hui), if_neg hui]; rfl
        have hE := hid (show T = lows 2 (V0 ++ List.replicate (2 * p) (padB kd)).length ++ (V0 ++ List.replicate (2 * p) (padB kd)) by rw [← hTv.out, hV0.out]; rfl)
        clear hTv hV0
        by_cases hui : (kd == [85, 73]) = true
        all_goals first
          | rw [if_pos hui] at hpad
          | rw [if_neg hui] at hpad
        all_goals by_cases ho : u.length % 2 = 1
        all_goals first
          | (have hv1' := hv1 ho; have d1 : ((u.length : Int) % 2 == 1) = true := by simp; omega)
          | (have d1 : ((u.length : Int) % 2 == 1) = false := by simp; omega
             have ev := hv2 ho; subst ev)
        all_goals clear hv1 ho
        all_goals go_wp2_with fail
        all_goals (try rw [hpad])
        all_goals clear hpad
        all_goals
          go_loop [11, 12] (fun v j => ∃ (i : Nat) (V : By), i ≤ p ∧ j = .int .i64 i ∧ v = .string (bs V) ∧ Hid (V = V0 ++ List.replicate (2 * i) (padB kd)) ∧ V.length ≤ 66 + 2 * i) (fun _ j => p - (intOf j).toNat)
          case atStart => exact ⟨0, V0, Nat.zero_le _, rfl, rfl, by unfold Hid; simp, by omega⟩
          case round =>
            obtain ⟨i, V, hi, rfl, rfl, hV, hVl⟩ := hrel
            have hVs := bs_size V
            by_cases hip : i < p
            · obtain ⟨V1, hV1, hb1, hz1, hy1⟩ := cat V [padB kd]
              obtain ⟨V2, hV2, hb2, hz2, hy2⟩ := cat V1 [padB kd]
              simp only [List.length_singleton] at hy1 hy2
              have hyy : V2.length ≤ 66 + 2 * (i + 1) := by omega
              go_wp2
              go_round
              case rel =>
                refine ⟨i + 1, V2, by omega, by go_num, rfl, ?_, hyy⟩
                unfold Hid
                rw [hV2.out, hV1.out, hV.out, Nat.mul_succ, List.replicate_succ', List.replicate_succ']
                simp only [List.append_assoc]
              case measure => simp [intOf]; omega
            · have hip' : i = p := by omega
              subst hip'
              obtain ⟨L2, hL2, hl2⟩ : ∃ L2, Hid (L2 = lows 2 V.length) ∧ L2.length = 2 := ⟨_, rfl, lows_length _ _⟩
              obtain ⟨Q1, hQ1, hc1, hz1, hy1⟩ := cat SC L2
              obtain ⟨Q2, hQ2, hc2, hz2, hy2⟩ := cat Q1 V
              have hLs := bs_size L2
              have hSCs := bs_size SC
              have hbd : SC.length + 2 + V.length ≤ 9223372036854775807 := by omega
              go_wp2_with fail
              go_at_call 30
              refine (klow_any V.length 2 w4 (by omega) (by omega)).mono ?_
              rw [← hL2.out]
              rintro e w5 ⟨rfl, u5⟩
              have hup5 := hid (hup4.out.trans (u5.mono hup4.out.size))
              clear u5
              go_wp2
              go_roundw
              case rel =>
                refine ⟨k + 1, by omega, by go_num, ?_, hup5⟩
                rw [hround.out, hE.out, hQ2.out, hQ1.out, hL2.out, hV.out, List.append_assoc]
              case measure => simp [intOf]; omega
    · go_wp2
      go_ret
      refine ⟨ret_str ?_, hup.out⟩
      rw [List.take_of_length_le (by omega)]
theorem kwritten_any : ∀ n, KW n
  | 0 => fun _ _ _ _ _ _ _ _ _ h1 h2 _ _ => absurd h2 (by omega)
  | n + 1 => kwritten_succ n (kwritten_any n)
end Go.Proofs.YtaokifbpakbgdaaDoor

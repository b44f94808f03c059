/-
  Package folioref, the document's own answer on data sets: its bytes.
-/
import Derived.Test.YtaokifbpakbgdaaGreatDoorRefd1
import Derived.Test.YtaokifbpakbgdaaGreatDoorKeep0
namespace Go.Proofs.YtaokifbpakbgdaaGreatDoor
open Go.RowKit

set_option maxRecDepth 20000 in
theorem rlow_any (n : Nat) (k : Nat) (w : World) (hn : n ≤ 1099511627776) (hk : k ≤ 4) :
    Calls Tryz.prog 150 #[.int .i64 n, .int .i64 k] w fun e w' => e = .returned (.string (bs (lows k n))) ∧ Below w.heap.size w w' := by
  go_enter Tryz.func150, Tryz.ntmps150
  go_wp2
  go_loopw [5, 0, 6] (fun a b c wr => ∃ (i m : Nat), a = .string (bs (lows i n)) ∧ b = .int .i64 m ∧ c = .int .i64 i ∧ i ≤ k ∧ m ≤ n ∧ Hid (m = n / 256 ^ i) ∧ Hid (Below w.heap.size w wr)) (fun _ _ c _ => k - (intOf c).toNat)
  case atStart => exact ⟨0, n, rfl, rfl, rfl, by omega, by omega, by unfold Hid; simp, Below.refl _ _⟩
  case round =>
    obtain ⟨i, m, rfl, rfl, rfl, hi, hm, hq, hup⟩ := hrel
    by_cases hlt : i < k
    · have cv := conv1 wr ((m : Int) % 256) (by omega) (by omega)
      generalize hc : UInt8.ofNat ((m : Int) % 256).toNat = c at cv
      have hc' := hid hc
      clear hc
      have hone : (bs [c]).size = 1 := rfl
      have hs := (bs_size (lows i n)).trans (lows_length i n)
      have happ := bs_append (lows i n) [c]
      go_wp2
      go_roundw
      case rel =>
        refine ⟨i + 1, m / 256, ?_, by go_num, by go_num, by omega, by omega, ?_, Below.alloc hup.out hup.out.size _⟩
        · rw [lows_snoc, ← hq.out, ← hc'.out, show ((m : Int) % 256).toNat = m % 256 by omega]
        · unfold Hid; rw [hq.out, Nat.div_div_eq_div_mul, Nat.pow_succ]
      case measure => simp [intOf]; omega
    · go_wp2
      go_ret
      have e : i = k := by omega
      subst e
      exact ⟨rfl, hup.out⟩
/-- What is asked of folioref's written, at a depth. -/
def RW (n : Nat) : Prop := ∀ (F : Nat → Prop) (w : World) (sv : Value) (l : List (El n)) (d : Nat), Rd w F n sv l → errS n d l = 0 → d ≤ 2 → 3 ≤ d + n → (wrS false 0 n l).length ≤ 274877906944 →
  Calls Tryz.prog 93 #[sv] w fun e w' => e = .returned (.string (bs (wrS false 0 n l))) ∧ Below w.heap.size w w'
set_option maxHeartbeats 8000000 in
set_option maxRecDepth 20000 in
theorem rwritten_succ (n : Nat) (H : RW n) : RW (n + 1) := by
  intro F w sv l d h he hd hn hl
  obtain ⟨ad, cap, rfl⟩ := h.slice
  rw [errS] at he
  by_cases h24 : 24 < l.length
  · rw [if_pos h24] at he; cases he
  rw [if_neg h24] at he
  have hels := errL_mem he
  clear he
  rw [wrS_succ] at hl ⊢
  go_enter Tryz.func93, Tryz.ntmps93
  go_wp2_with fail
  go_loopw [3, 4] (fun s i wr => ∃ k : Nat, k ≤ l.length ∧ i = .int .i64 k ∧ s = .string (bs ((l.take k).map (wrE (wrS false 0 n) false 0)).flatten) ∧ Hid (Below w.heap.size w wr)) (fun _ i _ => l.length - (intOf i).toNat)
  case atStart => exact ⟨0, Nat.zero_le _, rfl, rfl, Below.refl _ _⟩
  case round =>
    obtain ⟨k, hk, rfl, rfl, hup⟩ := hrel
    by_cases hkl : k < l.length
    · obtain ⟨a, ad2, cap2, rfl, hF, c0, c1, c2, c3, hrd⟩ := (h.up hup.out).at (List.getElem?_eq_getElem hkl)
      obtain ⟨before, hbef⟩ := hels l[k] (List.getElem_mem hkl)
      have hflat := hid (flat_take (wrE (wrS false 0 n) false 0) l k hkl)
      have hfl := flat_take_le (wrE (wrS false 0 n) false 0) l (k + 1)
      rw [hflat.out, List.length_append] at hfl
      generalize l[k] = x at hrd hbef c0 c1 c2 c3 hflat hfl
      obtain ⟨t, kd, u, its⟩ := x
      obtain ⟨e1, e2, e3, e4, e5, e6, e7, e8, e9, e10, e11, e12⟩ := errE_ok hbef
      simp only at e1 e2 e3 e4 e5 e6 e7 e8 e9 e10 e11 e12 c0 c1 c2 c3 hrd
      obtain ⟨t, rfl⟩ := Int.eq_ofNat_of_zero_le e2
      rw [wrE_eq, List.length_append, List.length_append, isK_length e1, show (wrT (t : Int)).length = 4 by simp [wrT, lows_length]] at hfl
      rw [wrE_eq] at hflat
      have hkl2 := hid (isK_length e1)
      have hrd' := hid hrd
      have E := hid (And.intro e8 (And.intro e9 (And.intro e11 e12)))
      clear hrd hbef e1 e2 e4 e5 e7 e8 e9 e11 e12
      generalize hS : ((l.take k).map (wrE (wrS false 0 n) false 0)).flatten = S at hflat hfl
      clear hS
      generalize hT : (if kd = SQ then wrQ false (List.map (wrI (wrS false 0 n) false) its).flatten else lows 2 (wrV 0 kd u).length ++ wrV 0 kd u) = T at hflat hfl
      have hT' := hid hT
      clear hT
      have hkdl := bs_toList kd
      have hkds := (bs_size kd).trans hkl2.out
      have hSs := bs_size S
      have hSl : S.length ≤ 274877906938 := by omega
      have hl1 := (bs_size (lows 2 (t / 65536))).trans (lows_length _ _)
      have hl2 := (bs_size (lows 2 (t % 65536))).trans (lows_length _ _)
      go_wp2_with fail
      have hXA := Four.new wr (.int .i64 t) (.string (bs kd)) (.string (bs u)) (.slice ad2 its.length cap2)
      have hrdA := hid (hrd'.out.up (Below.alloc (Below.refl _ _) (Nat.le_refl _) (.cells #[.int .i64 t, .string (bs kd), .string (bs u), .slice ad2 its.length cap2] 73)))
      have hupA := hid (Below.alloc hup.out hup.out.size (.cells #[.int .i64 t, .string (bs kd), .string (bs u), .slice ad2 its.length cap2] 73))
      generalize wr.alloc (.cells #[.int .i64 t, .string (bs kd), .string (bs u), .slice ad2 its.length cap2] 73) = wA at hXA hrdA hupA ⊢
      have hx0 : ∀ q : Later wA, q.val.cell? ⟨wr.heap.size, 0, none⟩ = some (.int .i64 t) := fun q => (hXA.keep (q.up.block _ hXA.lt)).cells.1.1
      have hx1 : ∀ q : Later wA, q.val.cell? ⟨wr.heap.size, 1, none⟩ = some (.string (bs kd)) := fun q => (hXA.keep (q.up.block _ hXA.lt)).cells.1.2.1
      have hw1 := hid (show IntKind.i64.wrap ((t : Int) / 65536) = ((t / 65536 : Nat) : Int) by rw [IntKind.wrap_i64]; omega)
      have hw2 := hid (show ((t : Int)).tmod 65536 = ((t % 65536 : Nat) : Int) by rw [Int.tmod_eq_emod_of_nonneg (by omega)]; omega)
      obtain ⟨SA, hSA, ha1, hz4, hy4⟩ := cat S (lows 2 (t / 65536))
      obtain ⟨SB, hSB, ha2, hz5, hy5⟩ := cat SA (lows 2 (t % 65536))
      obtain ⟨SC, hSC, ha3, hz6, hy6⟩ := cat SB kd
      rw [lows_length] at hy4 hy5
      rw [hkl2.out] at hy6
      have hno1 : ¬ 9223372036854775807 < S.length + 2 := by omega
      have hno2 : ¬ 9223372036854775807 < S.length + 2 + 2 := by omega
      have hno3 : ¬ 9223372036854775807 < S.length + 2 + 2 + 2 := by omega
      have hno4 : ¬ 9223372036854775807 < S.length + 4 := by omega
      have hno5 : ¬ 9223372036854775807 < S.length + 4 + 2 := by omega
      have hno6 : ¬ 9223372036854775807 < S.length + 6 := by omega
      have hne : Nonempty (Later wA) := ⟨Later.of (Below.refl _ _)⟩
      refine wp_region_below (by kernel_rfl) (by kernel_rfl) ?_
      quiet_step (fail)
      quiet_step (fail)
      quiet_step (fail)
      quiet_step (fail)
      quiet_step ((go_at_call 150; rw [hw1.out]; exact calls_below (rlow_any (t / 65536) 2 _ (by omega) (by omega))))
      quiet_step (fail)
      quiet_step (fail)
      quiet_step (fail)
      quiet_step (fail)
      quiet_step ((go_at_call 150; rw [hw2.out]; exact calls_below (rlow_any (t % 65536) 2 _ (by omega) (by omega))))
      quiet_step (fail)
      quiet_step (fail)
      quiet_step (fail)
      quiet_step (fail)
      quiet_step (fail)
      refine wpQuiet_nil ?_
      intro _ hw'
      obtain ⟨wq, rfl⟩ := hw'
      have hX4 := hXA.keep (wq.up.block _ hXA.lt)
      have hup4 := hid (hupA.out.trans (wq.up.mono hupA.out.size))
      have hrd4 := hid (hrdA.out.up wq.up)
      generalize wq.val = w4 at hX4 hup4 hrd4 ⊢
      clear hx0 hx1 hne hXA hrdA hupA hw1 hw2 ha1 ha2 ha3 hz4 hz5 hno1 hno2 hno3 hno4 hno5 hno6
      have hSC' := hid (show S ++ (wrT t ++ kd) = SC by
        rw [hSC.out, hSB.out, hSA.out]
        unfold wrT
        rw [show ((t : Int) / 65536).toNat = t / 65536 by omega, show ((t : Int) % 65536).toNat = t % 65536 by omega]
        simp only [List.append_assoc])
      have hSCl : SC.length ≤ 274877906944 := by omega
      have hround := hid (show ((l.take (k + 1)).map (wrE (wrS false 0 n) false 0)).flatten = SC ++ T by rw [hflat.out, ← List.append_assoc, hSC'.out])
      have hTl : SC.length + T.length ≤ 274877906944 := by omega
      clear hflat hfl hSA hSB hSC hy4 hy5 hy6 hSC' hSs hSl
      obtain ⟨⟨x0, x1, x2, x3⟩, _⟩ := hX4.cells
      by_cases hq : (kd == [83, 81]) = true
      · have hq2 := hid (show kd = SQ by simpa using hq)
        have hTq := hid (show wrQ false (List.map (wrI (wrS false 0 n) false) its).flatten = T by rw [← hT'.out, if_pos hq2.out])
        have hd2 := hid (E.out.2.2.1 hq2.out)
        have hgood := hid (errI_mem E.out.2.2.2)
        have hTl2 := hid (show ((List.map (wrI (wrS false 0 n) false) its).flatten).length + 6 ≤ T.length by
          rw [← hTq.out]
          unfold wrQ sizeB
          simp [lows_length] <;> omega)
        clear hT' E
        have hSCs := bs_size SC
        go_wp2_with fail
        go_loopw [7, 8] (fun v j wi => ∃ (i : Nat) (A : By), i ≤ its.length ∧ j = .int .i64 i ∧ v = .string (bs A) ∧ Hid (A = ((its.take i).map (wrI (wrS false 0 n) false)).flatten) ∧ Hid (Below w4.heap.size w4 wi)) (fun _ j _ => its.length - (intOf j).toNat)
        case atStart => exact ⟨0, [], Nat.zero_le _, rfl, rfl, rfl, Below.refl _ _⟩
        case round =>
          obtain ⟨i, A, hi, rfl, rfl, hA, hupi⟩ := hrel
          obtain ⟨⟨_, _, _, y3⟩, _⟩ := (hX4.keep (hupi.out.block _ hX4.lt)).cells
          have hAl := flat_take_le (wrI (wrS false 0 n) false) its i
          rw [← hA.out] at hAl
          have hAs := bs_size A
          by_cases hil : i < its.length
          · obtain ⟨a2, ad3, cap3, rfl, _, g0, hrd5⟩ := (hrd4.out.up hupi.out).at (List.getElem?_eq_getElem hil)
            have hgk := hgood.out its[i] (List.getElem_mem hil)
            have hfl2 := hid (flat_take (wrI (wrS false 0 n) false) its i hil)
            have hfm := mem_flat_le (e := wrI (wrS false 0 n) false) (List.getElem_mem hil)
            have hfl3 := flat_take_le (wrI (wrS false 0 n) false) its (i + 1)
            rw [hfl2.out, List.length_append, ← hA.out] at hfl3
            generalize its[i] = y at hrd5 hgk g0 hfl2 hfm hfl3
            have hwi : (wrI (wrS false 0 n) false y).length = 8 + (wrS false 0 n y).length + 0 := by
              unfold wrI sizeB
              simp [lows_length] <;> omega
            go_wp2_with fail
            go_at_call 93
            refine (H F wr _ y (d + 1) hrd5 hgk (by have := hd2.out; omega) (by omega) (by have := hTl2.out; omega)).mono ?_
            rintro e w5 ⟨rfl, u5⟩
            have hup5 := hid (hupi.out.trans (u5.mono hupi.out.size))
            have hdef := hid (show wrI (wrS false 0 n) false y = [254, 255, 0, 224] ++ sizeB false (wrS false 0 n y) ++ wrS false 0 n y ++ [] from rfl)
            generalize wrS false 0 n y = tb at hdef hwi
            clear u5 hrd5 hgk hfm
            obtain ⟨Z, hZ, hZl⟩ : ∃ Z, Hid (lows 4 tb.length = Z) ∧ Z.length = 4 := ⟨_, rfl, lows_length _ _⟩
            have hzs := bs_size Z
            have htbs := bs_size tb
            obtain ⟨A1, hA1, hb1, hz1, hy1⟩ := cat A [254, 255, 0, 224]
            obtain ⟨A2, hA2, hb2, hz2, hy2⟩ := cat A1 Z
            obtain ⟨A3, hA3, hb3, hz3, hy3⟩ := cat A2 tb
            have hb1' : bs A ++ (⟨#[254, 255, 0, 224]⟩ : ByteArray) = bs A1 := hb1
            have hlit1 : (⟨#[254, 255, 0, 224]⟩ : ByteArray).size = 4 := rfl
            simp only [List.length_cons, List.length_nil, Nat.zero_add, Nat.reduceAdd] at hy1
            clear hb1
            have hbd : A.length + tb.length + 16 ≤ 549755813888 := by have := hTl2.out; omega
            have hfin := hid (show ((its.take (i + 1)).map (wrI (wrS false 0 n) false)).flatten = A3 by
              rw [hfl2.out, hdef.out, hA3.out, hA2.out, hA1.out, ← hZ.out, ← hA.out]
              simp [sizeB, List.append_assoc])
            go_wp2_with fail
            go_at_call 150
            refine (rlow_any tb.length 4 w5 (by have := hTl2.out; omega) (by omega)).mono ?_
            rw [hZ.out]
            rintro e w6 ⟨rfl, u6⟩
            have hup6 := hid (hup5.out.trans (u6.mono hup5.out.size))
            clear u6
            go_wp2
            go_roundw
            case rel => first | exact ⟨i + 1, A3, by omega, by go_num, rfl, hfin.out.symm, hup6⟩ | ((repeat apply Exists.intro); exact ⟨⟨i + 1, A3, by omega, by go_num, rfl, hfin.out.symm, hup6⟩, rfl⟩)
            case measure => simp [intOf]; omega
          · have hAA := hid (show A = ((List.map (wrI (wrS false 0 n) false) its).flatten) by rw [hA.out, List.take_of_length_le (by omega)])
            obtain ⟨Z, hZ, hZl⟩ : ∃ Z, Hid (lows 4 A.length = Z) ∧ Z.length = 4 := ⟨_, rfl, lows_length _ _⟩
            have hzs := bs_size Z
            obtain ⟨A1, hA1, hb1, hz1, hy1⟩ := cat SC [0, 0]
            obtain ⟨A2, hA2, hb2, hz2, hy2⟩ := cat A1 Z
            obtain ⟨A3, hA3, hb3, hz3, hy3⟩ := cat A2 A
            have hb1' : bs SC ++ (⟨#[0, 0]⟩ : ByteArray) = bs A1 := hb1
            have hlit1 : (⟨#[0, 0]⟩ : ByteArray).size = 2 := rfl
            simp only [List.length_cons, List.length_nil, Nat.zero_add, Nat.reduceAdd] at hy1
            clear hb1
            have hbd : SC.length + A.length + 16 ≤ 1099511627776 := by have := hTl2.out; omega
            have hfin := hid (show SC ++ T = A3 by
              rw [← hTq.out, wrQ, ← hAA.out, hA3.out, hA2.out, hA1.out, ← hZ.out]
              simp [sizeB, List.append_assoc])
            go_wp2_with fail
            go_at_call 150
            refine (rlow_any A.length 4 wr (by have := hTl2.out; omega) (by omega)).mono ?_
            rw [hZ.out]
            rintro e w6 ⟨rfl, u6⟩
            have hup6 := hid (hup4.out.trans ((hupi.out.trans (u6.mono hupi.out.size)).mono hup4.out.size))
            clear u6
            go_wp2
            go_roundw
            case rel => first | exact ⟨k + 1, by omega, by go_num, by rw [hround.out, hfin.out], hup6⟩ | ((repeat apply Exists.intro); exact ⟨⟨k + 1, by omega, by go_num, by rw [hround.out, hfin.out], hup6⟩, rfl⟩)
            case measure => simp [intOf]; omega
      · have hq2 : (kd == [83, 81]) = false := by simpa using hq
        have hTv := hid (show lows 2 (wrV 0 kd u).length ++ wrV 0 kd u = T by rw [← hT'.out, if_neg (by simpa using hq)])
        clear hq hT'
        have hus := bs_size u
        by_cases ho : u.length % 2 = 1
        · have d1 : ((u.length : Int) % 2 == 1) = true := by simp; omega
          obtain ⟨V, hV, hb0, hz0, hy0⟩ := cat u [padB kd]
          rw [List.length_singleton] at hy0
          have hVl : V.length ≤ 65 := by omega
          have hbd : SC.length + 2 + V.length ≤ 9223372036854775807 := by omega
          clear hy0
          have hE := hid (show T = lows 2 V.length ++ V by
            rw [← hTv.out, show wrV 0 kd u = V by unfold wrV; rw [if_pos ho, hV.out]; simp])
          clear hTv ho
          obtain ⟨L2, hL2, hl2⟩ : ∃ L2, Hid (L2 = lows 2 V.length) ∧ L2.length = 2 := ⟨_, rfl, lows_length _ _⟩
          have hSCs := bs_size SC
          have hbd2 : u.length ≤ 64 := by omega
          go_wp2_with fail
          go_at_call 149
          refine (rpad_any w4 kd).mono ?_
          rintro e w5 ⟨rfl, rfl⟩
          have cv := conv1 w5 ((padB kd).toNat : Int) (by omega) (by have := (padB kd).toNat_lt; omega)
          rw [Int.toNat_natCast, UInt8.ofNat_toNat] at cv
          have hpads : (bs [padB kd]).size = 1 := rfl
          generalize padB kd = pb at hb0 cv hV hpads ⊢
          have hup5 := hid (Below.alloc hup4.out hup4.out.size (.cells #[.int .u8 (pb.toNat : Int)] 5))
          go_wp2_with fail
          go_at_call 150
          clear cv hb0
          generalize w5.alloc (.cells #[.int .u8 (pb.toNat : Int)] 5) = w6 at hup5 ⊢
          refine (rlow_any V.length 2 w6 (by omega) (by omega)).mono ?_
          rw [← hL2.out]
          rintro e w7 ⟨rfl, u7⟩
          have hup7 := hid (hup5.out.trans (u7.mono hup5.out.size))
          clear u7
          obtain ⟨Q1, hQ1, hc1, hz1, hy1⟩ := cat SC L2
          obtain ⟨Q2, hQ2, hc2, hz2, hy2⟩ := cat Q1 V
          have hLs := bs_size L2
          go_wp2
          go_roundw
          case rel =>
            refine ⟨k + 1, by omega, by go_num, ?_, hup7⟩
            rw [hround.out, hE.out, hQ2.out, hQ1.out, hL2.out, List.append_assoc]
          case measure => simp [intOf]; omega
        · have d1 : ((u.length : Int) % 2 == 1) = false := by simp; omega
          have hE := hid (show T = lows 2 u.length ++ u by
            rw [← hTv.out, show wrV 0 kd u = u by unfold wrV; rw [if_neg ho]; simp])
          clear hTv ho
          obtain ⟨L2, hL2, hl2⟩ : ∃ L2, Hid (L2 = lows 2 u.length) ∧ L2.length = 2 := ⟨_, rfl, lows_length _ _⟩
          obtain ⟨Q1, hQ1, hc1, hz1, hy1⟩ := cat SC L2
          obtain ⟨Q2, hQ2, hc2, hz2, hy2⟩ := cat Q1 u
          have hLs := bs_size L2
          have hSCs := bs_size SC
          have hbd : SC.length + 2 + u.length ≤ 9223372036854775807 := by omega
          go_wp2_with fail
          go_at_call 150
          refine (rlow_any u.length 2 w4 (by omega) (by omega)).mono ?_
          rw [← hL2.out]
          rintro e w5 ⟨rfl, u5⟩
          have hup5 := hid (hup4.out.trans (u5.mono hup4.out.size))
          clear u5
          go_wp2
          go_roundw
          case rel =>
            refine ⟨k + 1, by omega, by go_num, ?_, hup5⟩
            rw [hround.out, hE.out, hQ2.out, hQ1.out, hL2.out, List.append_assoc]
          case measure => simp [intOf]; omega
    · go_wp2
      go_ret
      refine ⟨ret_str ?_, hup.out⟩
      rw [List.take_of_length_le (by omega)]
theorem rwritten_any : ∀ n, RW n
  | 0 => fun _ _ _ _ _ _ _ h1 h2 _ => by omega
  | n + 1 => rwritten_succ n (rwritten_any n)
end Go.Proofs.YtaokifbpakbgdaaGreatDoor

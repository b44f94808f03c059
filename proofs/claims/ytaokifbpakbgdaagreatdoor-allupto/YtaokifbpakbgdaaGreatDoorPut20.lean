/-
  Several texts in one; what each one has stands at its head.
-/
import Derived.Test.YtaokifbpakbgdaaGreatDoorPut15
import Derived.Test.YtaokifbpakbgdaaGreatDoorPut19
import Derived.ChangeKeysEq
import Derived.Test.YtaokifbpakbgdaaGreatDoorPut18
/- Package folioref, the document's own answer on data sets: its bytes. -/
namespace Go.Proofs.YtaokifbpakbgdaaGreatDoor
open Go.RowKit

set_option maxRecDepth 20000 in
theorem rlow_any (n : Nat) (k : Nat) (w : World) (hn : n ≤ 1099511627776) (hk : k ≤ 4) :
    Calls Tryz.prog 150 #[.int .i64 n, .int .i64 k] w fun e w' => e = .returned (.string (bs (lows k n))) ∧ Below w.heap.size w w' := by
  go_enter Tryz.func150, Tryz.ntmps150
  go_wp2
  go_loopw [5, 0, 6] (fun a b c wr => ∃ (i m : Nat), a = .string (bs (lows i n)) ∧ b = .int .i64 m ∧ c = .int .i64 i ∧ i ≤ k ∧ m ≤ n ∧ Hid (m = n / 256 ^ i) ∧ Hid (Below w.heap.size w wr)) (fun _ _ c _ => k - (intOf c).toNat)
  case atStart => exact ⟨0, n, rfl, rfl, rfl, by omega, by omega, by unfold Hid; simp, Below.refl _ _⟩
  case round =>
    obtain ⟨i, m, rfl, rfl, rfl, hi, hm, hq, hup⟩ := hrel
    by_cases hlt : i < k
    · have cv := conv1 wr ((m : Int) % 256) (by omega) (by omega)
      generalize hc : UInt8.ofNat ((m : Int) % 256).toNat = c at cv
      have hc' := hid hc
      clear hc
      have hone : (bs [c]).size = 1 := rfl
      have hs := (bs_size (lows i n)).trans (lows_length i n)
      have happ := bs_append (lows i n) [c]
      go_wp2
      go_roundw
      case rel =>
        refine ⟨i + 1, m / 256, ?_, by go_num, by go_num, by omega, by omega, ?_, Below.alloc hup.out hup.out.size _⟩
        · rw [lows_snoc, ← hq.out, ← hc'.out, show ((m : Int) % 256).toNat = m % 256 by omega]
        · unfold Hid; rw [hq.out, Nat.div_div_eq_div_mul, Nat.pow_succ]
      case measure => simp [intOf]; omega
    · go_wp2
      go_ret
      have e : i = k := by omega
      subst e
      exact ⟨rfl, hup.out⟩
/-- What is asked of folioref's written, at a depth. -/
def RW (n : Nat) : Prop := ∀ (F : Nat → Prop) (w : World) (sv : Value) (l : List (El n)) (d : Nat), Rd w F n sv l → errS n d l = 0 → d ≤ 2 → 3 ≤ d + n → (wrS false 0 n l).length ≤ 274877906944 →
  Calls Tryz.prog 93 #[sv] w fun e w' => e = .returned (.string (bs (wrS false 0 n l))) ∧ Below w.heap.size w w'
set_option maxHeartbeats 8000000 in
set_option maxRecDepth 20000 in
theorem rwritten_succ (n : Nat) (H : RW n) : RW (n + 1) := by
  intro F w sv l d h he hd hn hl
  obtain ⟨ad, cap, rfl⟩ := h.slice
  rw [errS] at he
  by_cases h24 : 24 < l.length
  · rw [if_pos h24] at he; cases he
  rw [if_neg h24] at he
  have hels := errL_mem he
  clear he
  rw [wrS_succ] at hl ⊢
  go_enter Tryz.func93, Tryz.ntmps93
  go_wp2_with fail
  go_loopw [3, 4] (fun s i wr => ∃ k : Nat, k ≤ l.length ∧ i = .int .i64 k ∧ s = .string (bs ((l.take k).map (wrE (wrS false 0 n) false 0)).flatten) ∧ Hid (Below w.heap.size w wr)) (fun _ i _ => l.length - (intOf i).toNat)
  case atStart => exact ⟨0, Nat.zero_le _, rfl, rfl, Below.refl _ _⟩
  case round =>
    obtain ⟨k, hk, rfl, rfl, hup⟩ := hrel
    by_cases hkl : k < l.length
    · obtain ⟨a, ad2, cap2, rfl, hF, c0, c1, c2, c3, hrd⟩ := (h.up hup.out).at (List.getElem?_eq_getElem hkl)
      obtain ⟨before, hbef⟩ := hels l[k] (List.getElem_mem hkl)
      have hflat := hid (flat_take (wrE (wrS false 0 n) false 0) l k hkl)
      have hfl := flat_take_le (wrE (wrS false 0 n) false 0) l (k + 1)
      rw [hflat.out, List.length_append] at hfl
      generalize l[k] = x at hrd hbef c0 c1 c2 c3 hflat hfl
      obtain ⟨t, kd, u, its⟩ := x
      obtain ⟨e1, e2, e3, e4, e5, e6, e7, e8, e9, e10, e11, e12⟩ := errE_ok hbef
      simp only at e1 e2 e3 e4 e5 e6 e7 e8 e9 e10 e11 e12 c0 c1 c2 c3 hrd
      obtain ⟨t, rfl⟩ := Int.eq_ofNat_of_zero_le e2
      rw [wrE_eq, List.length_append, List.length_append, isK_length e1, show (wrT (t : Int)).length = 4 by simp [wrT, lows_length]] at hfl
      rw [wrE_eq] at hflat
      have hkl2 := hid (isK_length e1)
      have hrd' := hid hrd
      have E := hid (And.intro e8 (And.intro e9 (And.intro e11 e12)))
      clear hrd hbef e1 e2 e4 e5 e7 e8 e9 e11 e12
      generalize hS : ((l.take k).map (wrE (wrS false 0 n) false 0)).flatten = S at hflat hfl
      clear hS
      generalize hT : (if kd = SQ then wrQ false (List.map (wrI (wrS false 0 n) false) its).flatten else lows 2 (wrV 0 kd u).length ++ wrV 0 kd u) = T at hflat hfl
      have hT' := hid hT
      clear hT
      have hkdl := bs_toList kd
      have hkds := (bs_size kd).trans hkl2.out
      have hSs := bs_size S
      have hSl : S.length ≤ 274877906938 := by omega
      have hl1 := (bs_size (lows 2 (t / 65536))).trans (lows_length _ _)
      have hl2 := (bs_size (lows 2 (t % 65536))).trans (lows_length _ _)
      go_wp2_with fail
      have hXA := Four.new wr (.int .i64 t) (.string (bs kd)) (.string (bs u)) (.slice ad2 its.length cap2)
      have hrdA := hid (hrd'.out.up (Below.alloc (Below.refl _ _) (Nat.le_refl _) (.cells #[.int .i64 t, .string (bs kd), .string (bs u), .slice ad2 its.length cap2] 73)))
      have hupA := hid (Below.alloc hup.out hup.out.size (.cells #[.int .i64 t, .string (bs kd), .string (bs u), .slice ad2 its.length cap2] 73))
      generalize wr.alloc (.cells #[.int .i64 t, .string (bs kd), .string (bs u), .slice ad2 its.length cap2] 73) = wA at hXA hrdA hupA ⊢
      have hx0 : ∀ q : Later wA, q.val.cell? ⟨wr.heap.size, 0, none⟩ = some (.int .i64 t) := fun q => (hXA.keep (q.up.block _ hXA.lt)).cells.1.1
      have hx1 : ∀ q : Later wA, q.val.cell? ⟨wr.heap.size, 1, none⟩ = some (.string (bs kd)) := fun q => (hXA.keep (q.up.block _ hXA.lt)).cells.1.2.1
      have hw1 := hid (show IntKind.i64.wrap ((t : Int) / 65536) = ((t / 65536 : Nat) : Int) by rw [IntKind.wrap_i64]; omega)
      have hw2 := hid (show ((t : Int)).tmod 65536 = ((t % 65536 : Nat) : Int) by rw [Int.tmod_eq_emod_of_nonneg (by omega)]; omega)
      obtain ⟨SA, hSA, ha1, hz4, hy4⟩ := cat S (lows 2 (t / 65536))
      obtain ⟨SB, hSB, ha2, hz5, hy5⟩ := cat SA (lows 2 (t % 65536))
      obtain ⟨SC, hSC, ha3, hz6, hy6⟩ := cat SB kd
      rw [lows_length] at hy4 hy5
      rw [hkl2.out] at hy6
      have hno1 : ¬ 9223372036854775807 < S.length + 2 := by omega
      have hno2 : ¬ 9223372036854775807 < S.length + 2 + 2 := by omega
      have hno3 : ¬ 9223372036854775807 < S.length + 2 + 2 + 2 := by omega
      have hno4 : ¬ 9223372036854775807 < S.length + 4 := by omega
      have hno5 : ¬ 9223372036854775807 < S.length + 4 + 2 := by omega
      have hno6 : ¬ 9223372036854775807 < S.length + 6 := by omega
      have hne : Nonempty (Later wA) := ⟨Later.of (Below.refl _ _)⟩
      refine wp_region_below (by kernel_rfl) (by kernel_rfl) ?_
      quiet_step (fail)
      quiet_step (fail)
      quiet_step (fail)
      quiet_step (fail)
      quiet_step ((go_at_call 150; rw [hw1.out]; exact calls_below (rlow_any (t / 65536) 2 _ (by omega) (by omega))))
      quiet_step (fail)
      quiet_step (fail)
      quiet_step (fail)
      quiet_step (fail)
      quiet_step ((go_at_call 150; rw [hw2.out]; exact calls_below (rlow_any (t % 65536) 2 _ (by omega) (by omega))))
      quiet_step (fail)
      quiet_step (fail)
      quiet_step (fail)
      quiet_step (fail)
      quiet_step (fail)
      refine wpQuiet_nil ?_
      intro _ hw'
      obtain ⟨wq, rfl⟩ := hw'
      have hX4 := hXA.keep (wq.up.block _ hXA.lt)
      have hup4 := hid (hupA.out.trans (wq.up.mono hupA.out.size))
      have hrd4 := hid (hrdA.out.up wq.up)
      generalize wq.val = w4 at hX4 hup4 hrd4 ⊢
      clear hx0 hx1 hne hXA hrdA hupA hw1 hw2 ha1 ha2 ha3 hz4 hz5 hno1 hno2 hno3 hno4 hno5 hno6
      have hSC' := hid (show S ++ (wrT t ++ kd) = SC by
        rw [hSC.out, hSB.out, hSA.out]
        unfold wrT
        rw [show ((t : Int) / 65536).toNat = t / 65536 by omega, show ((t : Int) % 65536).toNat = t % 65536 by omega]
        simp only [List.append_assoc])
      have hSCl : SC.length ≤ 274877906944 := by omega
      have hround := hid (show ((l.take (k + 1)).map (wrE (wrS false 0 n) false 0)).flatten = SC ++ T by rw [hflat.out, ← List.append_assoc, hSC'.out])
      have hTl : SC.length + T.length ≤ 274877906944 := by omega
      clear hflat hfl hSA hSB hSC hy4 hy5 hy6 hSC' hSs hSl
      obtain ⟨⟨x0, x1, x2, x3⟩, _⟩ := hX4.cells
      by_cases hq : (kd == [83, 81]) = true
      · have hq2 := hid (show kd = SQ by simpa using hq)
        have hTq := hid (show wrQ false (List.map (wrI (wrS false 0 n) false) its).flatten = T by rw [← hT'.out, if_pos hq2.out])
        have hd2 := hid (E.out.2.2.1 hq2.out)
        have hgood := hid (errI_mem E.out.2.2.2)
        have hTl2 := hid (show ((List.map (wrI (wrS false 0 n) false) its).flatten).length + 6 ≤ T.length by
          rw [← hTq.out]
          unfold wrQ sizeB
          simp [lows_length] <;> omega)
        clear hT' E
        have hSCs := bs_size SC
        go_wp2_with fail
        go_loopw [7, 8] (fun v j wi => ∃ (i : Nat) (A : By), i ≤ its.length ∧ j = .int .i64 i ∧ v = .string (bs A) ∧ Hid (A = ((its.take i).map (wrI (wrS false 0 n) false)).flatten) ∧ Hid (Below w4.heap.size w4 wi)) (fun _ j _ => its.length - (intOf j).toNat)
        case atStart => exact ⟨0, [], Nat.zero_le _, rfl, rfl, rfl, Below.refl _ _⟩
        case round =>
          obtain ⟨i, A, hi, rfl, rfl, hA, hupi⟩ := hrel
          obtain ⟨⟨_, _, _, y3⟩, _⟩ := (hX4.keep (hupi.out.block _ hX4.lt)).cells
          have hAl := flat_take_le (wrI (wrS false 0 n) false) its i
          rw [← hA.out] at hAl
          have hAs := bs_size A
          by_cases hil : i < its.length
          · obtain ⟨a2, ad3, cap3, rfl, _, g0, hrd5⟩ := (hrd4.out.up hupi.out).at (List.getElem?_eq_getElem hil)
            have hgk := hgood.out its[i] (List.getElem_mem hil)
            have hfl2 := hid (flat_take (wrI (wrS false 0 n) false) its i hil)
            have hfm := mem_flat_le (e := wrI (wrS false 0 n) false) (List.getElem_mem hil)
            have hfl3 := flat_take_le (wrI (wrS false 0 n) false) its (i + 1)
            rw [hfl2.out, List.length_append, ← hA.out] at hfl3
            generalize its[i] = y at hrd5 hgk g0 hfl2 hfm hfl3
            have hwi : (wrI (wrS false 0 n) false y).length = 8 + (wrS false 0 n y).length + 0 := by
              unfold wrI sizeB
              simp [lows_length] <;> omega
            go_wp2_with fail
            go_at_call 93
            refine (H F wr _ y (d + 1) hrd5 hgk (by have := hd2.out; omega) (by omega) (by have := hTl2.out; omega)).mono ?_
            rintro e w5 ⟨rfl, u5⟩
            have hup5 := hid (hupi.out.trans (u5.mono hupi.out.size))
            have hdef := hid (show wrI (wrS false 0 n) false y = [254, 255, 0, 224] ++ sizeB false (wrS false 0 n y) ++ wrS false 0 n y ++ [] from rfl)
            generalize wrS false 0 n y = tb at hdef hwi
            clear u5 hrd5 hgk hfm
            obtain ⟨Z, hZ, hZl⟩ : ∃ Z, Hid (lows 4 tb.length = Z) ∧ Z.length = 4 := ⟨_, rfl, lows_length _ _⟩
            have hzs := bs_size Z
            have htbs := bs_size tb
            obtain ⟨A1, hA1, hb1, hz1, hy1⟩ := cat A [254, 255, 0, 224]
            obtain ⟨A2, hA2, hb2, hz2, hy2⟩ := cat A1 Z
            obtain ⟨A3, hA3, hb3, hz3, hy3⟩ := cat A2 tb
            have hb1' : bs A ++ (⟨#[254, 255, 0, 224]⟩ : ByteArray) = bs A1 := hb1
            have hlit1 : (⟨#[254, 255, 0, 224]⟩ : ByteArray).size = 4 := rfl
            simp only [List.length_cons, List.length_nil, Nat.zero_add, Nat.reduceAdd] at hy1
            clear hb1
            have hbd : A.length + tb.length + 16 ≤ 549755813888 := by have := hTl2.out; omega
            have hfin := hid (show ((its.take (i + 1)).map (wrI (wrS false 0 n) false)).flatten = A3 by
              rw [hfl2.out, hdef.out, hA3.out, hA2.out, hA1.out, ← hZ.out, ← hA.out]
              simp [sizeB, List.append_assoc])
            go_wp2_with fail
            go_at_call 150
            refine (rlow_any tb.length 4 w5 (by have := hTl2.out; omega) (by omega)).mono ?_
            rw [hZ.out]
            rintro e w6 ⟨rfl, u6⟩
            have hup6 := hid (hup5.out.trans (u6.mono hup5.out.size))
            clear u6
            go_wp2
            go_roundw
            case rel => first | exact ⟨i + 1, A3, by omega, by go_num, rfl, hfin.out.symm, hup6⟩ | ((repeat apply Exists.intro); exact ⟨⟨i + 1, A3, by omega, by go_num, rfl, hfin.out.symm, hup6⟩, rfl⟩)
            case measure => simp [intOf]; omega
          · have hAA := hid (show A = ((List.map (wrI (wrS false 0 n) false) its).flatten) by rw [hA.out, List.take_of_length_le (by omega)])
            obtain ⟨Z, hZ, hZl⟩ : ∃ Z, Hid (lows 4 A.length = Z) ∧ Z.length = 4 := ⟨_, rfl, lows_length _ _⟩
            have hzs := bs_size Z
            obtain ⟨A1, hA1, hb1, hz1, hy1⟩ := cat SC [0, 0]
            obtain ⟨A2, hA2, hb2, hz2, hy2⟩ := cat A1 Z
            obtain ⟨A3, hA3, hb3, hz3, hy3⟩ := cat A2 A
            have hb1' : bs SC ++ (⟨#[0, 0]⟩ : ByteArray) = bs A1 := hb1
            have hlit1 : (⟨#[0, 0]⟩ : ByteArray).size = 2 := rfl
            simp only [List.length_cons, List.length_nil, Nat.zero_add, Nat.reduceAdd] at hy1
            clear hb1
            have hbd : SC.length + A.length + 16 ≤ 1099511627776 := by have := hTl2.out; omega
            have hfin := hid (show SC ++ T = A3 by
              rw [← hTq.out, wrQ, ← hAA.out, hA3.out, hA2.out, hA1.out, ← hZ.out]
              simp [sizeB, List.append_assoc])
            go_wp2_with fail
            go_at_call 150
            refine (rlow_any A.length 4 wr (by have := hTl2.out; omega) (by omega)).mono ?_
            rw [hZ.out]
            rintro e w6 ⟨rfl, u6⟩
            have hup6 := hid (hup4.out.trans ((hupi.out.trans (u6.mono hupi.out.size)).mono hup4.out.size))
            clear u6
            go_wp2
            go_roundw
            case rel => first | exact ⟨k + 1, by omega, by go_num, by rw [hround.out, hfin.out], hup6⟩ | ((repeat apply Exists.intro); exact ⟨⟨k + 1, by omega, by go_num, by rw [hround.out, hfin.out], hup6⟩, rfl⟩)
            case measure => simp [intOf]; omega
      · have hq2 : (kd == [83, 81]) = false := by simpa using hq
        have hTv := hid (show lows 2 (wrV 0 kd u).length ++ wrV 0 kd u = T by rw [← hT'.out, if_neg (by simpa using hq)])
        clear hq hT'
        have hus := bs_size u
        by_cases ho : u.length % 2 = 1
        · have d1 : ((u.length : Int) % 2 == 1) = true := by simp; omega
          obtain ⟨V, hV, hb0, hz0, hy0⟩ := cat u [padB kd]
          rw [List.length_singleton] at hy0
          have hVl : V.length ≤ 65 := by omega
          have hbd : SC.length + 2 + V.length ≤ 9223372036854775807 := by omega
          clear hy0
          have hE := hid (show T = lows 2 V.length ++ V by
            rw [← hTv.out, show wrV 0 kd u = V by unfold wrV; rw [if_pos ho, hV.out]; simp])
          clear hTv ho
          obtain ⟨L2, hL2, hl2⟩ : ∃ L2, Hid (L2 = lows 2 V.length) ∧ L2.length = 2 := ⟨_, rfl, lows_length _ _⟩
          have hSCs := bs_size SC
          have hbd2 : u.length ≤ 64 := by omega
          go_wp2_with fail
          go_at_call 149
          refine (rpad_any w4 kd).mono ?_
          rintro e w5 ⟨rfl, rfl⟩
          have cv := conv1 w5 ((padB kd).toNat : Int) (by omega) (by have := (padB kd).toNat_lt; omega)
          rw [Int.toNat_natCast, UInt8.ofNat_toNat] at cv
          have hpads : (bs [padB kd]).size = 1 := rfl
          generalize padB kd = pb at hb0 cv hV hpads ⊢
          have hup5 := hid (Below.alloc hup4.out hup4.out.size (.cells #[.int .u8 (pb.toNat : Int)] 5))
          go_wp2_with fail
          go_at_call 150
          clear cv hb0
          generalize w5.alloc (.cells #[.int .u8 (pb.toNat : Int)] 5) = w6 at hup5 ⊢
          refine (rlow_any V.length 2 w6 (by omega) (by omega)).mono ?_
          rw [← hL2.out]
          rintro e w7 ⟨rfl, u7⟩
          have hup7 := hid (hup5.out.trans (u7.mono hup5.out.size))
          clear u7
          obtain ⟨Q1, hQ1, hc1, hz1, hy1⟩ := cat SC L2
          obtain ⟨Q2, hQ2, hc2, hz2, hy2⟩ := cat Q1 V
          have hLs := bs_size L2
          go_wp2
          go_roundw
          case rel =>
            refine ⟨k + 1, by omega, by go_num, ?_, hup7⟩
            rw [hround.out, hE.out, hQ2.out, hQ1.out, hL2.out, List.append_assoc]
          case measure => simp [intOf]; omega
        · have d1 : ((u.length : Int) % 2 == 1) = false := by simp; omega
          have hE := hid (show T = lows 2 u.length ++ u by
            rw [← hTv.out, show wrV 0 kd u = u by unfold wrV; rw [if_neg ho]; simp])
          clear hTv ho
          obtain ⟨L2, hL2, hl2⟩ : ∃ L2, Hid (L2 = lows 2 u.length) ∧ L2.length = 2 := ⟨_, rfl, lows_length _ _⟩
          obtain ⟨Q1, hQ1, hc1, hz1, hy1⟩ := cat SC L2
          obtain ⟨Q2, hQ2, hc2, hz2, hy2⟩ := cat Q1 u
          have hLs := bs_size L2
          have hSCs := bs_size SC
          have hbd : SC.length + 2 + u.length ≤ 9223372036854775807 := by omega
          go_wp2_with fail
          go_at_call 150
          refine (rlow_any u.length 2 w4 (by omega) (by omega)).mono ?_
          rw [← hL2.out]
          rintro e w5 ⟨rfl, u5⟩
          have hup5 := hid (hup4.out.trans (u5.mono hup4.out.size))
          clear u5
          go_wp2
          go_roundw
          case rel =>
            refine ⟨k + 1, by omega, by go_num, ?_, hup5⟩
            rw [hround.out, hE.out, hQ2.out, hQ1.out, hL2.out, List.append_assoc]
          case measure => simp [intOf]; omega
    · go_wp2
      go_ret
      refine ⟨ret_str ?_, hup.out⟩
      rw [List.take_of_length_le (by omega)]
theorem rwritten_any : ∀ n, RW n
  | 0 => fun _ _ _ _ _ _ _ h1 h2 _ => by omega
  | n + 1 => rwritten_succ n (rwritten_any n)
end Go.Proofs.YtaokifbpakbgdaaGreatDoor

/- Package folioref, the document's own answer on data sets: Encode. -/
namespace Go.Proofs.YtaokifbpakbgdaaGreatDoor
open Go.RowKit

set_option maxRecDepth 20000 in
theorem rEncode_any (n : Nat) (hn : 3 ≤ n) (F : Nat → Prop) (w : World) (sv : Value) (l : List (El n)) (h : Rd w F n sv l) (hl : (wrS false 0 n l).length ≤ 274877906944) :
    Calls Tryz.prog 45 #[sv] w (EncEnd n w l) := by
  obtain ⟨ad, cap, rfl⟩ := h.slice
  go_enter Tryz.func45, Tryz.ntmps45
  go_wp2_with fail
  go_at_call 92
  refine (rwrong_any n F w _ l 0 (by omega) (by omega) h).mono ?_
  rintro e w1 ⟨rfl, u1⟩
  have u1' := hid u1
  have hrd1 := hid (h.up u1)
  clear u1
  have hl' := hid hl
  clear hl
  generalize hee : errS n 0 l = ee
  have hee' := hid hee
  clear hee
  by_cases he : ee = 0
  · subst he
    go_wp2_with fail
    go_at_call 93
    refine (rwritten_any n F w1 _ l 0 hrd1.out hee'.out (by omega) (by omega) hl'.out).mono ?_
    rintro e w2 ⟨rfl, u2⟩
    have u2' := hid (u1'.out.trans (u2.mono u1'.out.size))
    clear u2
    generalize hwb : wrS false 0 n l = wb
    have hwb' := hid hwb
    clear hwb
    go_wp2
    go_ret2
    exact ⟨u2'.out, Or.inr ⟨hee'.out, by rw [hwb'.out]; rfl⟩⟩
  · have he2 : (ee != 0) = true := by simpa using he
    have he3 := hid he
    clear he
    go_wp2
    go_ret2
    exact ⟨u1'.out, Or.inl ⟨by rw [hee'.out]; exact he3.out, by rw [hee'.out]; rfl⟩⟩
end Go.Proofs.YtaokifbpakbgdaaGreatDoor

/- Package foliolaw on archives: pick, counted, simple. -/
namespace Go.Proofs.YtaokifbpakbgdaaGreatDoor
open Go.RowKit

def pkL (k n : Int) : Int := if k < 0 then -(k + 1) % n else k % n
theorem pkL_bd {k n : Int} (h : 0 < n) : 0 ≤ pkL k n ∧ pkL k n < n := by
  unfold pkL
  split
  · exact ⟨Int.emod_nonneg _ (by omega), Int.emod_lt_of_pos _ h⟩
  · exact ⟨Int.emod_nonneg _ (by omega), Int.emod_lt_of_pos _ h⟩
theorem lpick_any (k n : Int) (w : World) (h1 : -9223372036854775808 ≤ k) (h2 : k ≤ 9223372036854775807) (h3 : 0 < n) (h4 : n ≤ 9223372036854775807) :
    Calls Tryz.prog 47 #[.int .i64 k, .int .i64 n] w fun e w' => e = .returned (.int .i64 (pkL k n)) ∧ w' = w := by
  by_cases h : k < 0
  · have e : Hid (pkL k n = -(k + 1) % n) := by unfold Hid pkL; rw [if_pos h]
    go_enter Tryz.func47, Tryz.ntmps47
    go_wp2
    go_ret
    refine ⟨congrArg (fun i => Ending.returned (Value.int .i64 i)) ?_, rfl⟩
    rw [e.out, ← Int.neg_tmod, Int.tmod_eq_emod_of_nonneg (by omega)]
  · have e : Hid (pkL k n = k % n) := by unfold Hid pkL; rw [if_neg h]
    go_enter Tryz.func47, Tryz.ntmps47
    go_wp2
    go_ret
    exact ⟨congrArg (fun i => Ending.returned (Value.int .i64 i)) e.out.symm, rfl⟩
/-- A pair: an archive and the document's. -/
def PairAt (w : World) (p a b : Nat) : Prop := w.heap[p]? = some (.cells #[ptr a, ptr b] 97 (0, 0))
theorem PairAt.cells {w : World} {p a b : Nat} (h : PairAt w p a b) : w.cell? ⟨p, 0, none⟩ = some (ptr a) ∧ w.cell? ⟨p, 1, none⟩ = some (ptr b) := by
  unfold PairAt at h
  simp [World.cell?, h]
theorem PairAt.lt {w : World} {p a b : Nat} (h : PairAt w p a b) : p < w.heap.size := lt_of_block h
theorem PairAt.keep {w w' : World} {p a b : Nat} (h : PairAt w p a b) (k : w'.heap[p]? = w.heap[p]?) : PairAt w' p a b := k.trans h
theorem info_int : ∃ i, Tryz.prog.info? 3 = some i := by
  have h : (Tryz.prog.info? 3).isSome = true := by kernel_rfl
  exact Option.isSome_iff_exists.1 h
theorem same4 (c0 c1 c2 c3 : Int) (w : World) : (Op.equalIn 10000 66 (.agg #[.int .i64 c0, .int .i64 c1, .int .i64 c2, .int .i64 c3]) (.agg #[.int .i64 c0, .int .i64 c1, .int .i64 c2, .int .i64 c3])).run Tryz.prog w = .ok true w := by
  obtain ⟨i, hi⟩ := info_int
  have hc : Tryz.prog.cellsOf 3 = 1 := by kernel_rfl
  rw [show (10000 : Nat) = 9999 + 1 from rfl, run_equalIn_array w 9999 _ _ Tryz.underlying66 hi, hc, show List.range 4 = [0, 1, 2, 3] from rfl]
  simp only [Op.eqItems]
  go_simp
set_option maxRecDepth 20000 in
set_option maxHeartbeats 2000000 in
theorem counted_any (F : Nat → Prop) (w : World) (p a m b : Nat) (T : Int) (A : List (List (El 3))) (hp : PairAt w p a b) (h : ProA w F 1 a m T A) (hR : RefA w F 2 b A) (hF : ∀ j, F j → j < w.heap.size) (hG : Good A) (hs : ∀ l ∈ A, l.length ≤ 24) (hV : NamesV w) :
    Calls Tryz.prog 18 #[ptr p] w fun e w' => e = .returned (.bool true) ∧ Below w.heap.size w w' := by
  obtain ⟨p0, p1⟩ := hp.cells
  have hc : ∀ i, (cntA A i : Int) ≤ 48 := fun i => by have := cntA_le A i; have := hG.1; omega
  have HP := hid hp
  have H := hid h
  have HR := hid hR
  have HF := hid hF
  have HG := hid hG
  have HS := hid hs
  have HV := hid hV
  have hpl := hp.lt
  clear hp h hR hF hG hs hV
  go_enter Tryz.func18, Tryz.ntmps18
  go_wp2_with fail
  go_at_call 53
  refine (Count_any 1 F w a m T A H.out HG.out HV.out).mono ?_
  rintro e w2 ⟨rfl, u2⟩
  have U2 := hid u2
  have hpl2 : p < w2.heap.size := Nat.lt_of_lt_of_le hpl u2.size
  obtain ⟨q0, q1⟩ := (HP.out.keep (u2.block _ hpl)).cells
  clear u2 p0 p1
  simp only [arr4]
  have hc0 := hc 0
  have hc1 := hc 1
  have hc2 := hc 2
  have hc3 := hc 3
  have E := hid (show arr4 (fun i => (cntA A i : Int)) = .agg #[.int .i64 (cntA A 0), .int .i64 (cntA A 1), .int .i64 (cntA A 2), .int .i64 (cntA A 3)] from rfl)
  generalize (cntA A 0 : Int) = c0 at *
  generalize (cntA A 1 : Int) = c1 at *
  generalize (cntA A 2 : Int) = c2 at *
  generalize (cntA A 3 : Int) = c3 at *
  clear hc
  go_wp2_with fail
  have u3 : Below w.heap.size w (w2.alloc (.cells #[.int .i64 c0, .int .i64 c1, .int .i64 c2, .int .i64 c3] 66)) := Below.alloc U2.out U2.out.size _
  have d4 : F4 (w2.alloc (.cells #[.int .i64 c0, .int .i64 c1, .int .i64 c2, .int .i64 c3] 66)) w2.heap.size (fun i => if i = 0 then c0 else if i = 1 then c1 else if i = 2 then c2 else c3) := heap_alloc_new _ _
  have U3 := hid u3
  have D4 := hid d4
  have hz4 := d4.lt
  clear u3 d4 q0 q1
  go_at_call 54
  refine (rCount_any 2 F _ b A (HR.out.keep (U3.out.block _ HR.out.lt) (fun _ h => h) (fun j _ hj => U3.out.block j hj)) (fun j hj => Nat.lt_of_lt_of_le (HF.out j hj) U3.out.size) HG.out.1 HS.out).mono ?_
  rintro e w4 ⟨rfl, u4⟩
  have D5 := D4.out.keep (u4.block _ hz4)
  have U4 := hid (U3.out.trans (u4.mono U3.out.size))
  have hz5 := D5.lt
  have x0 : w4.cell? ⟨w2.heap.size, 0, none⟩ = some (.int .i64 c0) := (D5.cell (k := 0) (by omega)).1
  have x1 : w4.cell? ⟨w2.heap.size, 1, none⟩ = some (.int .i64 c1) := (D5.cell (k := 1) (by omega)).1
  have x2 : w4.cell? ⟨w2.heap.size, 2, none⟩ = some (.int .i64 c2) := (D5.cell (k := 2) (by omega)).1
  have x3 : w4.cell? ⟨w2.heap.size, 3, none⟩ = some (.int .i64 c3) := (D5.cell (k := 3) (by omega)).1
  clear u4 D5 D4 U3
  rw [E.out]
  clear hz4
  have hq := same4 c0 c1 c2 c3
  go_wp2
  go_ret
  exact ⟨rfl, Below.alloc U4.out U4.out.size _⟩
def mkEl (n : Nat) (x : Int × By × By) : El (n + 1) := (x.1, x.2.1, x.2.2, [])
theorem els_at (w : World) (T : TypeId) (xs : List (Int × By × By)) (n : Nat) (F : Nat → Prop) (hF : F w.heap.size) (cap : Nat) :
    Rd (w.alloc (.cells ((xs.flatMap (fun x => [.int .i64 x.1, .string (bs x.2.1), .string (bs x.2.2), .slice none 0 0])).toArray) T)) F (n + 1) (.slice (some ⟨w.heap.size, 0, none⟩) xs.length cap) (xs.map (mkEl n)) := by
  rw [Rd_succ]
  refine ⟨some ⟨w.heap.size, 0, none⟩, cap, by rw [List.length_map], fun i x hx => ⟨⟨w.heap.size, 0, none⟩, rfl, hF, ?_⟩⟩
  rw [List.getElem?_map, Option.map_eq_some_iff] at hx
  obtain ⟨y, hy, rfl⟩ := hx
  have hcell : ∀ k v, [Value.int .i64 y.1, .string (bs y.2.1), .string (bs y.2.2), .slice none 0 0][k]? = some v → (w.alloc (.cells ((xs.flatMap (fun x => [Value.int .i64 x.1, .string (bs x.2.1), .string (bs x.2.2), .slice none 0 0])).toArray) T)).cell? ⟨w.heap.size, 4 * i + k, none⟩ = some v := fun k v hk => by
    have hkl : k < 4 := by have := (List.getElem?_eq_some_iff.1 hk).1; simpa using this
    have : (xs.flatMap (fun x => [Value.int .i64 x.1, .string (bs x.2.1), .string (bs x.2.2), .slice none 0 0]))[4 * i + k]? = some v := by
      clear hF
      induction xs generalizing i with
      | nil => simp at hy
      | cons z zs ih =>
        cases i with
        | zero =>
          simp at hy; subst hy
          rw [List.flatMap_cons, List.getElem?_append_left (by simp; omega)]
          simpa using hk
        | succ i =>
          rw [List.flatMap_cons, List.getElem?_append_right (by simp; omega)]
          have := ih i (by simpa using hy)
          rw [← this]
          congr 1
          simp; omega
    generalize xs.flatMap (fun x => [Value.int .i64 x.1, .string (bs x.2.1), .string (bs x.2.2), .slice none 0 0]) = L at this ⊢
    have hb := heap_alloc_new w (.cells L.toArray T)
    generalize w.alloc (.cells L.toArray T) = W at hb ⊢
    simp [World.cell?, hb, this]
  have e : ∀ o j : Nat, (⟨w.heap.size, o, none⟩ : Addr).add j = ⟨w.heap.size, o + j, none⟩ := fun o j => by
    unfold Addr.add
    split
    · next h => subst h; rfl
    · rfl
  rw [e 0 (4 * i), Nat.zero_add, e, e, e]
  exact ⟨hcell 0 _ rfl, hcell 1 _ rfl, hcell 2 _ rfl, _, hcell 3 _ rfl, RdI.nil _ _ _⟩
theorem simple_any (w : World) : Calls Tryz.prog 16 #[] w fun e w' => ∃ s : By, e = .returned (.string (bs s)) ∧ s.length ≤ 274877906944 ∧ Below w.heap.size w w' := by
  have H := hid (fun T => els_at w T [(524312, [85, 73], [57, 46, 57]), (1048608, [76, 79], [90, 57]), (2097165, [85, 73], [57]), (2097166, [85, 73], [57, 46, 48])] 2 (fun j => j = w.heap.size) rfl 4)
  go_enter Tryz.func16, Tryz.ntmps16
  go_wp2_with fail
  go_at_call 45
  have hle := hid (show (wrS false 0 3 ([(524312, [85, 73], [57, 46, 57]), (1048608, [76, 79], [90, 57]), (2097165, [85, 73], [57]), (2097166, [85, 73], [57, 46, 48])].map (mkEl 2))).length ≤ 274877906944 by decide)
  refine (rEncode_any 3 (by omega) _ _ _ _ (H.out _) hle.out).mono ?_
  rintro e w' ⟨u, h⟩
  have U := hid u
  rcases h with ⟨_, rfl⟩ | ⟨_, rfl⟩
  · go_wp2
    go_ret
    exact ⟨_, rfl, by simp, (Below.alloc (Below.refl _ _) (Nat.le_refl _) _).trans (U.out.mono (by simp))⟩
  · clear u
    generalize wrS false 0 3 _ = t at hle ⊢
    go_wp2
    go_ret
    exact ⟨_, rfl, hle.out, (Below.alloc (Below.refl _ _) (Nat.le_refl _) _).trans (U.out.mono (by simp))⟩
end Go.Proofs.YtaokifbpakbgdaaGreatDoor

/- Package foliolaw on archives: several archives and the document's beside them, in memory. -/
namespace Go.Proofs.YtaokifbpakbgdaaGreatDoor
open Go.RowKit

theorem Good.out {n : Nat} {A : List (List (El (n + 2)))} (h : Good A) (s : By) : Good (outA A s) :=
  ⟨Nat.le_trans (List.length_filter_le _ _) h.1, out_nodup h.2.1 s, fun l hl => h.2.2 l (List.mem_filter.1 hl).1⟩
theorem Good.lay {n : Nat} {A : List (List (El (n + 2)))} {l : List (El (n + 2))} (h : Good A) (hl : errS (n + 2) 0 l = 0) : Good (layA A l) := by
  unfold layA
  by_cases h0 : layE A l = 0
  · rw [if_pos h0]
    have hd : desE l = 0 := by
      unfold layE at h0
      by_cases e : desE l = 0
      · exact e
      · rw [if_pos e] at h0; exact absurd h0 e
    have h48 : (outA A (nm 3 l)).length < 48 := by
      unfold layE at h0
      rw [if_neg (by simp [hd])] at h0
      by_cases e : (outA A (nm 3 l)).any (clash l) = true
      · rw [if_pos e] at h0; cases h0
      · rw [if_neg e] at h0
        by_cases e2 : 48 ≤ (outA A (nm 3 l)).length
        · rw [if_pos e2] at h0; cases h0
        · omega
    have ho := h.out (nm 3 l)
    refine ⟨by rw [List.length_append]; simp; omega, ?_, fun x hx => ?_⟩
    · rw [List.map_append, List.nodup_append]
      refine ⟨ho.2.1, by simp, fun a ha b hb => ?_⟩
      rw [out_keys] at ha
      simp at ha hb
      rw [hb]
      exact ha.2
    · rcases List.mem_append.1 hx with hx | hx
      · exact ho.2.2 x hx
      · rw [List.mem_singleton] at hx
        subst hx
        exact ⟨hl, hd⟩
  · rw [if_neg h0]; exact h
theorem Good.sto {A : List (List (El 3))} (h : Good A) (s : By) : Good (stoA A s) := by
  unfold stoA
  by_cases h0 : decE 3 s = 0
  · rw [if_neg (by simp [h0])]
    cases hp : parse 3 s with
    | none => exact h
    | some l =>
      refine h.lay ?_
      unfold decE at h0
      rw [hp] at h0
      by_cases h1 : 16384 < s.length
      · rw [if_pos h1] at h0; cases h0
      · rw [if_neg h1] at h0; exact h0
  · rw [if_pos h0]; exact h
theorem Good.short {A : List (List (El 3))} (h : Good A) : ∀ l ∈ A, l.length ≤ 24 := fun l hl => (sane_of (n := 1) (h.2.2 l hl).1).1
/-- An archive and the document's. -/
structure Sh where
  p : Nat
  a : Nat
  m : Nat
  b : Nat
  T : Int
  A : List (List (El 3))
def Sh.mut (x : Sh) : List Nat := [x.a, x.m, x.b]
def mutL (xs : List Sh) : List Nat := (xs.map Sh.mut).flatten
def OkSh (w : World) (F : Nat → Prop) (x : Sh) (k : Nat) : Prop := PairAt w x.p x.a x.b ∧ F x.p ∧ ProA w F 1 x.a x.m x.T x.A ∧ RefA w F 2 x.b x.A ∧ Good x.A ∧ 0 ≤ x.T ∧ x.T ≤ k
def Shs (w : World) (F : Nat → Prop) (xs : List Sh) (k : Nat) : Prop := (mutL xs).Nodup ∧ (∀ j ∈ mutL xs, j < w.heap.size ∧ ¬ F j) ∧ (∀ j, F j → j < w.heap.size) ∧ ∀ x ∈ xs, OkSh w F x k
theorem mut_mem {xs : List Sh} {x : Sh} (h : x ∈ xs) {j : Nat} (hj : j ∈ x.mut) : j ∈ mutL xs := List.mem_flatten.2 ⟨_, List.mem_map.2 ⟨x, h, rfl⟩, hj⟩
theorem mut_apart {xs : List Sh} (h : (mutL xs).Nodup) {i j : Nat} (hi : i < xs.length) (hj : j < xs.length) (hne : i ≠ j) {c d : Nat} (hc : c ∈ (xs[i]).mut) (hd : d ∈ (xs[j]).mut) : c ≠ d := by
  have h2 := (List.pairwise_flatten.1 h).2
  rw [List.pairwise_iff_getElem] at h2
  rcases Nat.lt_or_gt_of_ne hne with h3 | h3
  · have := h2 i j (by simpa using hi) (by simpa using hj) h3
    rw [List.getElem_map, List.getElem_map] at this
    exact this c hc d hd
  · have := h2 j i (by simpa using hj) (by simpa using hi) h3
    rw [List.getElem_map, List.getElem_map] at this
    exact fun e => this d hd c hc e.symm
theorem OkSh.keep {w w' : World} {F F' : Nat → Prop} {x : Sh} {k k' : Nat} (h : OkSh w F x k) (hF : ∀ j, F j → F' j) (hk : ∀ j, F j → w'.heap[j]? = w.heap[j]?) (hm : ∀ j ∈ x.mut, w'.heap[j]? = w.heap[j]?) (hkk : k ≤ k') : OkSh w' F' x k' := by
  obtain ⟨h1, h2, h3, h4, h5, h6, h7⟩ := h
  exact ⟨h1.keep (hk _ h2), hF _ h2, h3.keep (hm _ (by simp [Sh.mut])) (hm _ (by simp [Sh.mut])) hF (fun j hj _ => hk j hj), h4.keep (hm _ (by simp [Sh.mut])) hF (fun j hj _ => hk j hj), h5, h6, by omega⟩
theorem Shs.keep {w w' : World} {F : Nat → Prop} {xs : List Sh} {k k' : Nat} (h : Shs w F xs k) (hz : w.heap.size ≤ w'.heap.size) (hk : ∀ j, F j ∨ j ∈ mutL xs → w'.heap[j]? = w.heap[j]?) (hkk : k ≤ k') : Shs w' F xs k' := by
  obtain ⟨h1, h2, h3, h4⟩ := h
  exact ⟨h1, fun j hj => ⟨Nat.lt_of_lt_of_le (h2 j hj).1 hz, (h2 j hj).2⟩, fun j hj => Nat.lt_of_lt_of_le (h3 j hj) hz, fun x hx => (h4 x hx).keep (fun _ h => h) (fun j hj => hk j (.inl hj)) (fun j hj => hk j (.inr (mut_mem hx hj))) hkk⟩
theorem Shs.up {w w' : World} {F : Nat → Prop} {xs : List Sh} {k k' : Nat} (h : Shs w F xs k) (u : Below w.heap.size w w') (hkk : k ≤ k') : Shs w' F xs k' :=
  h.keep u.size (fun j hj => u.block j (hj.elim (h.2.2.1 j) (fun hj => (h.2.1 j hj).1))) hkk
theorem mutL_set {xs : List Sh} {i : Nat} (hi : i < xs.length) {y : Sh} (h : y.mut = (xs[i]).mut) : mutL (xs.set i y) = mutL xs := by
  unfold mutL
  rw [List.map_set, h]
  congr 1
  apply List.ext_getElem
  · simp
  · intro j h1 h2
    rw [List.getElem_set]
    split
    · next e => subst e; simp
    · rfl
theorem mutL_snoc (xs : List Sh) (y : Sh) : mutL (xs ++ [y]) = mutL xs ++ y.mut := by
  unfold mutL
  rw [List.map_append, List.flatten_append]
  simp
theorem Shs.turn {w w' : World} {F : Nat → Prop} {xs : List Sh} {k i : Nat} (h : Shs w F xs k) (hi : i < xs.length) {T' : Int} {A' : List (List (El 3))} (hz : w.heap.size ≤ w'.heap.size)
    (hk : ∀ j, j < w.heap.size → j ≠ (xs[i]).a → j ≠ (xs[i]).m → j ≠ (xs[i]).b → w'.heap[j]? = w.heap[j]?) (hP : ProA w' (Nw F w w') 1 (xs[i]).a (xs[i]).m T' A') (hR : RefA w' (Nw F w w') 2 (xs[i]).b A') (hG : Good A') (hT : 0 ≤ T' ∧ T' ≤ k + 1) :
    Shs w' (Nw F w w') (xs.set i { xs[i] with T := T', A := A' }) (k + 1) := by
  have hm := mutL_set hi (y := { xs[i] with T := T', A := A' }) rfl
  obtain ⟨h1, h2, h3, h4⟩ := h
  have hlow : ∀ j, F j → w'.heap[j]? = w.heap[j]? := fun j hj => by
    refine hk j (h3 j hj) ?_ ?_ ?_ <;> (intro e; exact (h2 _ (mut_mem (List.getElem_mem hi) (by rw [e]; simp [Sh.mut]))).2 hj)
  refine ⟨by rw [hm]; exact h1, fun j hj => ?_, fun j hj => ?_, fun x hx => ?_⟩
  · rw [hm] at hj
    have := h2 j hj
    refine ⟨by omega, ?_⟩
    rintro (e | ⟨e, _⟩)
    · exact this.2 e
    · omega
  · rcases hj with e | ⟨_, e⟩
    · have := h3 j e; omega
    · exact e
  · obtain ⟨j, hj, rfl⟩ := List.mem_iff_getElem.1 hx
    rw [List.length_set] at hj
    rw [List.getElem_set]
    split
    · next e =>
      subst e
      obtain ⟨q1, q2, _⟩ := h4 _ (List.getElem_mem hi)
      exact ⟨q1.keep (hlow _ q2), .inl q2, hP, hR, hG, hT.1, hT.2⟩
    · next e =>
      refine (h4 _ (List.getElem_mem hj)).keep (fun _ h => .inl h) hlow (fun c hc => ?_) (Nat.le_succ _)
      have hne : ∀ d ∈ (xs[i]).mut, c ≠ d := fun d hd => (mut_apart h1 hi hj e hd hc).symm
      exact hk c (h2 c (mut_mem (List.getElem_mem hj) hc)).1 (hne _ (by simp [Sh.mut])) (hne _ (by simp [Sh.mut])) (hne _ (by simp [Sh.mut]))
theorem Shs.snoc {w w' : World} {F F' : Nat → Prop} {xs : List Sh} {k : Nat} {y : Sh} (h : Shs w F xs k) (hz : w.heap.size ≤ w'.heap.size) (hk : ∀ j, F j ∨ j ∈ mutL xs → w'.heap[j]? = w.heap[j]?)
    (hF : ∀ j, F' j ↔ F j ∨ j = y.p) (hy : y.mut.Nodup) (hlo : ∀ j ∈ y.p :: y.mut, w.heap.size ≤ j ∧ j < w'.heap.size) (hpm : y.p ∉ y.mut) (hO : OkSh w' F' y (k + 1)) : Shs w' F' (xs ++ [y]) (k + 1) := by
  obtain ⟨h1, h2, h3, h4⟩ := h
  rw [Shs, mutL_snoc]
  refine ⟨?_, fun j hj => ?_, fun j hj => ?_, fun x hx => ?_⟩
  · rw [List.nodup_append]
    exact ⟨h1, hy, fun a ha b hb e => by have := (h2 a ha).1; have := (hlo b (List.mem_cons_of_mem _ hb)).1; omega⟩
  · rcases List.mem_append.1 hj with hj | hj
    · refine ⟨Nat.lt_of_lt_of_le (h2 j hj).1 hz, fun e => ?_⟩
      rcases (hF j).1 e with e | e
      · exact (h2 j hj).2 e
      · have := (h2 j hj).1; have := (hlo y.p (List.mem_cons_self ..)).1; omega
    · have := hlo j (List.mem_cons_of_mem _ hj)
      refine ⟨this.2, fun e => ?_⟩
      rcases (hF j).1 e with e | e
      · have := h3 j e; omega
      · subst e; exact hpm hj
  · rcases (hF j).1 hj with e | e
    · exact Nat.lt_of_lt_of_le (h3 j e) hz
    · subst e; exact (hlo _ (List.mem_cons_self ..)).2
  · rcases List.mem_append.1 hx with hx | hx
    · exact (h4 x hx).keep (fun j h => (hF j).2 (.inl h)) (fun j hj => hk j (.inl hj)) (fun j hj => hk j (.inr (mut_mem hx hj))) (Nat.le_succ _)
    · rw [List.mem_singleton] at hx
      subst hx
      exact hO
/-- The caller's own: the row of pairs. -/
def Wld (w : World) (F : Nat → Prop) (wB : Nat) (v : Value) (xs : List Sh) : Prop := (∃ lv, w.heap[wB]? = some (.cells #[v, lv] 32 (0, 0))) ∧ w.ownsRow 0 37 1 v xs.length (xs.map (fun x => ptr x.p)) ∧ ¬ F wB ∧ wB ∉ mutL xs ∧ ∀ j, v.ownBlock = some j → j ≠ wB ∧ ¬ F j ∧ j ∉ mutL xs
theorem Wld.cell {w : World} {F : Nat → Prop} {wB : Nat} {v : Value} {xs : List Sh} (h : Wld w F wB v xs) : w.cell? ⟨wB, 0, none⟩ = some v ∧ w.frozen? ⟨wB, 0, none⟩ = false := by
  obtain ⟨lv, h⟩ := h.1
  simp [World.cell?, World.frozen?, h]
theorem Wld.lt {w : World} {F : Nat → Prop} {wB : Nat} {v : Value} {xs : List Sh} (h : Wld w F wB v xs) : wB < w.heap.size := by
  obtain ⟨lv, h⟩ := h.1
  exact lt_of_block h
theorem Wld.at {w : World} {F : Nat → Prop} {wB : Nat} {v : Value} {xs : List Sh} (h : Wld w F wB v xs) {q : Nat} (hq : q < xs.length) : ∃ g cap, v = .slice (some ⟨g, 0, none⟩) xs.length cap ∧ w.cell? ⟨g, q, none⟩ = some (ptr (xs[q]).p) := by
  have h2 := h.2.1
  rcases id h2.2 with ⟨_, h1⟩ | ⟨g, cap, cur, rfl, _⟩
  · omega
  · refine ⟨g, cap, rfl, ?_⟩
    rw [h2.cellAt q (by omega), List.getElem?_map, List.getElem?_eq_getElem hq]; rfl
theorem Wld.keep {w w' : World} {F F' : Nat → Prop} {wB : Nat} {v : Value} {xs xs' : List Sh} (h : Wld w F wB v xs) (hk : ∀ j, j < w.heap.size → ¬ j ∈ mutL xs → w'.heap[j]? = w.heap[j]?) (hF : ∀ j, F' j → F j ∨ w.heap.size ≤ j) (hm : mutL xs' = mutL xs) (hp : xs'.map (fun x => ptr x.p) = xs.map (fun x => ptr x.p)) : Wld w' F' wB v xs' := by
  have hlt := h.lt
  obtain ⟨⟨lv, h1⟩, h2, h3, h4, h5⟩ := h
  have hlen : xs'.length = xs.length := by simpa using congrArg List.length hp
  refine ⟨⟨lv, (hk wB hlt h4).trans h1⟩, ?_, fun e => ?_, by rw [hm]; exact h4, fun j hj => ?_⟩
  · rw [hlen, hp]
    exact ownsRow_keep h2 (fun j hj => hk j (ownsRow_lt h2 j hj) (h5 j (by simpa using hj)).2.2)
  · rcases hF wB e with e | e
    · exact h3 e
    · omega
  · obtain ⟨q1, q2, q3⟩ := h5 j hj
    refine ⟨q1, fun e => ?_, by rw [hm]; exact q3⟩
    rcases hF j e with e | e
    · exact q2 e
    · have := ownsRow_lt h2 j (by simpa using hj); omega
end Go.Proofs.YtaokifbpakbgdaaGreatDoor

/-
  Several texts in one; what each one has stands at its head.
-/
import Derived.Test.YtaokifbpakbgdaaGreatDoorRefd6
import Derived.Deep.RegionWith
import Derived.Test.YtaokifbpakbgdaaGreatDoorPut14
import Derived.Test.YtaokifbpakbgdaaGreatDoorPut15
/- Package folioref, the document's own answer on data sets: an element from a place on, at every depth; and Decode. -/
namespace Go.Proofs.YtaokifbpakbgdaaGreatDoor
open Go.RowKit

theorem bs_slice (s : By) (i j : Nat) (_hj : j ≤ s.length) (hij : i ≤ j) : (bs s).extract i j = bs (win s i j) := by
  apply ByteArray.ext
  rw [ByteArray.data_extract]
  apply Array.ext'
  simp only [bs, Array.toList_extract, List.extract_eq_take_drop, win]
  rw [List.take_drop, Nat.add_sub_cancel' hij]
theorem two_new (w : World) (c0 c1 c2 c3 d0 d1 d2 d3 : Value) : Four (((w.alloc (.cells #[c0, c1, c2, c3] 73)).alloc (.cells #[d0, d1, d2, d3] 73)).drew) (w.heap.size + 1) d0 d1 d2 d3 ∧ Four (((w.alloc (.cells #[c0, c1, c2, c3] 73)).alloc (.cells #[d0, d1, d2, d3] 73)).drew) w.heap.size c0 c1 c2 c3 := by
  have h := Four.new (w.alloc (.cells #[c0, c1, c2, c3] 73)) d0 d1 d2 d3
  rw [World.size_alloc] at h
  refine ⟨h, ?_⟩
  show (((w.alloc (.cells #[c0, c1, c2, c3] 73)).alloc (.cells #[d0, d1, d2, d3] 73)).heap)[w.heap.size]? = _
  exact (Below.heap_alloc _ _ _ (by simp)).trans (heap_alloc_new _ _)
theorem byte_test (s k : By) (j : Nat) (h : j < s.length) : ((((bs s)[j]'(by rw [bs_size]; exact h)).toNat : Int) == ((padB k).toNat : Int)) = decide (s[j] = padB k) := by
  have e2 : (bs s)[j]'(by rw [bs_size]; exact h) = s[j] := rfl
  rw [e2, Bool.eq_iff_iff, beq_iff_eq, decide_eq_true_eq]
  exact ⟨fun h => UInt8.toNat_inj.1 (by omega), fun h => by rw [h]⟩
theorem relement_short (n m : Nat) (w : World) (s : By) (a z : Nat) (hs : s.length ≤ 16384) (hz : z ≤ s.length) (haz : a ≤ z) (h8 : ¬ a + 8 ≤ z) (hsp : one (elP m n) (win s a z) = none) :
    Calls Tryz.prog 219 #[.string (bs s), .int .i64 a, .int .i64 z] w (RefEnds s z w (one (elP m n) (win s a z)) badE fun w' v x => ∃ bl, EV w' n v x bl ∧ New w w' bl) := by
  have ha : a ≤ 16384 := by omega
  go_enter Tryz.func219, Tryz.ntmps219
  go_wp2
  refine bodyPost_ret (v := .tuple #[.agg #[.int .i64 0, .string ⟨#[]⟩, .string ⟨#[]⟩, .slice none 0 0], .int .i64 (-1)]) (by simp [results, Tryz.results219, go_sem]) rfl ?_
  exact RefEnds.bad hsp (Below.alloc (Below.refl _ _) (Nat.le_refl _) _) ⟨_, _, _, _, _, _, rfl⟩ rfl
set_option maxHeartbeats 2000000 in
set_option maxRecDepth 20000 in
theorem relement_any (m : Nat) (H : ElR m) : ElR (m + 1) := by
  intro n w s a z hs haz hz hm
  have hbz := bs_size s
  by_cases h8 : a + 8 ≤ z
  case neg => exact relement_short n (m + 1) w s a z hs hz haz h8 (one_short hz haz h8)
  have htl := tagA_lt (s := s) (a := a) (by omega)
  have hnl := numA_lt (s := s) (a := a + 6) (k := 2) (by omega)
  rw [show (256 : Nat) ^ 2 = 65536 from rfl] at hnl
  have hres := hid (fun h => one_res (m := m) (n := n) hz haz (h : tagA s a / 65536 = 65534))
  have hel := hid (fun h => one_el (m := m) (n := n) hz h8 (h : tagA s a / 65536 ≠ 65534))
  have c1 := hid (fun w => rtagAt_any w s a hs (by omega))
  have c2 := hid (fun w => rnum_any w s (a + 6) 2 hs (by decide) (by omega))
  have hsl : (bs s).extract ((a : Int) + 4).toNat ((a : Int) + 6).toNat = bs (win s (a + 4) (a + 6)) := by
    rw [show ((a : Int) + 4).toNat = a + 4 by omega, show ((a : Int) + 6).toNat = a + 6 by omega]
    exact bs_slice s (a + 4) (a + 6) (by omega) (by omega)
  generalize one (elP (m + 1) n) (win s a z) = spec at hres hel ⊢
  generalize tagA s a = t at htl hres hel c1
  generalize win s (a + 4) (a + 6) = k at hel hsl
  have hw4 : IntKind.i64.wrap ((a : Int) + 4) = (a : Int) + 4 := by rw [IntKind.wrap_i64]; omega
  have hw6 : IntKind.i64.wrap ((a : Int) + 6) = (a : Int) + 6 := by rw [IntKind.wrap_i64]; omega
  have hq1 : (0 : Int) ≤ (a : Int) + 4 := by omega
  have hq2 : (a : Int) + 4 ≤ (a : Int) + 6 := by omega
  have hq4 : (a : Int) + 6 ≤ (s.length : Int) := by omega
  go_enter Tryz.func219, Tryz.ntmps219
  go_wp2_with fail
  go_region_with (go_at_call 261; refine (c1.out _).mono ?_; rintro e w' ⟨rfl, rfl⟩)
  all_goals clear c1
  all_goals clear hsl hw4 hw6 hq1 hq2 hq4
  all_goals have hXR := two_new w (.int .i64 0) (.string ⟨#[]⟩) (.string ⟨#[]⟩) (.slice none 0 0) (.int .i64 t) (.string (bs k)) (.string ⟨#[]⟩) (.slice none 0 0)
  all_goals obtain ⟨hX0, hR0⟩ := hXR
  all_goals have U0 := hid (((Below.alloc (Below.refl _ w) (Nat.le_refl _) (.cells #[.int .i64 0, .string ⟨#[]⟩, .string ⟨#[]⟩, .slice none 0 0] 73)).alloc (by simp) (.cells #[.int .i64 t, .string (bs k), .string ⟨#[]⟩, .slice none 0 0] 73)).drew)
  all_goals generalize ((w.alloc (.cells #[.int .i64 0, .string ⟨#[]⟩, .string ⟨#[]⟩, .slice none 0 0] 73)).alloc (.cells #[.int .i64 t, .string (bs k), .string ⟨#[]⟩, .slice none 0 0] 73)).drew = w3 at hR0 hX0 U0 ⊢
  all_goals
    obtain ⟨⟨r0, r1, r2, r3⟩, s0, s1, s2, s3⟩ := hR0.cells
    obtain ⟨⟨x0, x1, x2, x3⟩, y0, y1, y2, y3⟩ := hX0.cells
    have hkl := bs_toList k
    have hne1 : ¬ w.heap.size = w.heap.size + 1 := by omega
    have hne2 : ¬ w.heap.size + 1 = w.heap.size := by omega
    go_wp2_with fail
    go_at_call 262
    refine (c2.out _).mono ?_
    clear c2
    rintro e w4 ⟨rfl, rfl⟩
    generalize numA s (a + 6) 2 = nn at hnl hel
    by_cases ht : t / 65536 = 65534
    case pos =>
      have hd1 : ((t : Int) / 65536 == 65534) = true := by simp; omega
      have hsp := hid (hres.out ht)
      clear hres hel ht
      go_wp2
      (try simp only [Exit.inBlock, Exit.then])
      refine bodyPost_ret (v := .tuple #[.agg #[.int .i64 t, .string (bs k), .string ⟨#[]⟩, .slice none 0 0], .int .i64 (-1)]) (by simp [results, Tryz.results219, go_sem, r0, r1, r2, r3]) rfl ?_
      exact RefEnds.bad hsp.out ((((U0.out.setCell (Nat.le_refl _) _).setCell (Nat.le_refl _) _).setCell (Nat.le_refl _) _).setCell (Nat.le_refl _) _) ⟨_, _, _, _, _, _, rfl⟩ rfl
    have hd1 : ((t : Int) / 65536 == 65534) = false := by simp; omega
    have hel' := hid (hel.out ht)
    clear hres hel ht
    by_cases hq : (k == [83, 81]) = true
    case pos =>
      have hks := hid (show k = SQ by simpa using hq)
      by_cases hb : nn = 0 ∧ a + 12 ≤ z
      case neg =>
        have hsp := hid (show spec = none by rw [hel'.out, if_pos hks.out, if_neg hb])
        by_cases hn0 : nn = 0
        · have hd2 : ((nn : Int) != 0) = false := by simp; omega
          have hd3 : decide ((z : Int) < (a : Int) + 12) = true := by
            have : ¬ a + 12 ≤ z := fun e => hb ⟨hn0, e⟩
            simp; omega
          clear hb hn0 hel'
          go_wp2
          (try simp only [Exit.inBlock, Exit.then])
          refine bodyPost_ret (v := .tuple #[.agg #[.int .i64 t, .string (bs k), .string ⟨#[]⟩, .slice none 0 0], .int .i64 (-1)]) (by simp [results, Tryz.results219, go_sem, r0, r1, r2, r3]) rfl ?_
          exact RefEnds.bad hsp.out ((((U0.out.setCell (Nat.le_refl _) _).setCell (Nat.le_refl _) _).setCell (Nat.le_refl _) _).setCell (Nat.le_refl _) _) ⟨_, _, _, _, _, _, rfl⟩ rfl
        · have hd2 : ((nn : Int) != 0) = true := by simp; omega
          clear hb hn0 hel'
          go_wp2
          (try simp only [Exit.inBlock, Exit.then])
          refine bodyPost_ret (v := .tuple #[.agg #[.int .i64 t, .string (bs k), .string ⟨#[]⟩, .slice none 0 0], .int .i64 (-1)]) (by simp [results, Tryz.results219, go_sem, r0, r1, r2, r3]) rfl ?_
          exact RefEnds.bad hsp.out ((((U0.out.setCell (Nat.le_refl _) _).setCell (Nat.le_refl _) _).setCell (Nat.le_refl _) _).setCell (Nat.le_refl _) _) ⟨_, _, _, _, _, _, rfl⟩ rfl
      obtain ⟨hn0, h12⟩ := hb
      subst hn0
      have hsp := hid (show spec = (lgN 4294893789 (itP (elP m (n - 1))) (numA s (a + 8) 4) (win s (a + 12) z)).map (fun p => (mkE n t k [] p.1, p.2)) by rw [hel'.out, if_pos hks.out, if_pos ⟨rfl, h12⟩])
      have hzl := numA_lt (s := s) (a := a + 8) (k := 4) (by omega)
      rw [show (256 : Nat) ^ 4 = 4294967296 from rfl] at hzl
      clear hel'
      go_wp2_with fail
      go_at_call 262
      refine (rnum_any _ s (a + 8) 4 hs (by decide) (by omega)).mono ?_
      rintro e w5 ⟨rfl, rfl⟩
      generalize numA s (a + 8) 4 = sz at hzl hsp
      go_wp2_with fail
      go_at_call 263
      refine (ritems_any m H (n - 1) _ s (a + 12) z sz hs h12 hz (by omega) hzl).mono ?_
      generalize lgN 4294893789 (itP (elP m (n - 1))) sz (win s (a + 12) z) = oo at hsp
      clear r0 r1 r2 r3 x0 x1 x2 x3 s0 s1 s2 s3 y0 y1 y2 y3
      cases oo with
      | none =>
        rintro e w6 ⟨u6, v, rfl, rfl⟩
        obtain ⟨⟨r0, r1, r2, r3⟩, s0, s1, s2, s3⟩ := (hR0.keep (u6.block _ hR0.lt)).cells
        obtain ⟨⟨x0, x1, x2, x3⟩, y0, y1, y2, y3⟩ := (hX0.keep (u6.block _ hX0.lt)).cells
        have U6 := hid (U0.out.trans (u6.mono U0.out.size))
        clear u6
        go_wp2
        (try simp only [Exit.inBlock, Exit.then])
        refine bodyPost_ret (v := .tuple #[.agg #[.int .i64 t, .string (bs k), .string ⟨#[]⟩, .slice none 0 0], .int .i64 (-1)]) (by simp [results, Tryz.results219, go_sem, r0, r1, r2, r3]) rfl ?_
        exact RefEnds.bad (by rw [hsp.out]; rfl) (((((U6.out.setCell (by simp) _).setCell (Nat.le_refl _) _).setCell (Nat.le_refl _) _).setCell (Nat.le_refl _) _).setCell (Nat.le_refl _) _) ⟨_, _, _, _, _, _, rfl⟩ rfl
      | some q =>
        obtain ⟨its, r⟩ := q
        rintro e w6 ⟨u6, iv, b2, hr, hb2, rfl, bl, how, hbl⟩
        obtain ⟨ad, cap, rfl⟩ := how.slice
        obtain ⟨⟨r0, r1, r2, r3⟩, s0, s1, s2, s3⟩ := (hR0.keep (u6.block _ hR0.lt)).cells
        obtain ⟨⟨x0, x1, x2, x3⟩, y0, y1, y2, y3⟩ := (hX0.keep (u6.block _ hX0.lt)).cells
        have U6 := hid (U0.out.trans (u6.mono U0.out.size))
        have hlx := hX0.lt
        have how' := hid (how.keep (w' := after w6 (w.heap.size + 1) 3 w.heap.size (.slice ad its.length cap) (.int .i64 t) (.string (bs k)) (.string ⟨#[]⟩) (.slice ad its.length cap)) (fun j hj => after_keep _ _ _ _ _ _ _ _ _ j (by have := (hbl.2 j hj).1; omega) (by have := (hbl.2 j hj).1; omega)))
        have hbl' := hid hbl
        have hr' := hid hr
        clear u6 how hbl hr
        go_wp2
        (try simp only [Exit.inBlock, Exit.then])
        refine bodyPost_ret (v := .tuple #[.agg #[.int .i64 t, .string (bs k), .string ⟨#[]⟩, .slice ad its.length cap], .int .i64 (b2 : Nat)]) (by simp [results, Tryz.results219, go_sem, r0, r1, r2, r3]) rfl ?_
        obtain ⟨bl', hb1, hb3, hce⟩ := CE.mk (t := t) (k := k) (v := []) how'.out
        refine RefEnds.ok (x := mkE n t k [] its) (r := r) (by rw [hsp.out]; rfl) (((((U6.out.setCell (by simp) _).setCell (Nat.le_refl _) _).setCell (Nat.le_refl _) _).setCell (Nat.le_refl _) _).setCell (Nat.le_refl _) _) hr'.out hb2 rfl ⟨bl', ⟨_, _, _, _, _, _, rfl, hce⟩, hb3 hbl'.out.1, fun j hj => ?_⟩
        have := hbl'.out.2 j (hb1 j hj)
        have h1 := after_size w6 (w.heap.size + 1) 3 w.heap.size (.slice ad its.length cap) (.int .i64 t) (.string (bs k)) (.string ⟨#[]⟩) (.slice ad its.length cap)
        unfold after at h1
        omega
    have hq2 : (k == [83, 81]) = false := by simpa using hq
    have hks := hid (show k ≠ SQ by simpa using hq)
    clear hq
    by_cases hb : nn % 2 = 0 ∧ a + 8 + nn ≤ z
    case neg =>
      have hsp := hid (show spec = none by rw [hel'.out, if_neg hks.out, if_neg hb])
      by_cases hn0 : nn % 2 = 0
      · have hd2 : ((nn : Int) % 2 == 1) = false := by simp; omega
        have hd3 : decide ((z : Int) < (a : Int) + 8 + (nn : Int)) = true := by
          have : ¬ a + 8 + nn ≤ z := fun e => hb ⟨hn0, e⟩
          simp; omega
        clear hb hn0 hel'
        go_wp2
        (try simp only [Exit.inBlock, Exit.then])
        refine bodyPost_ret (v := .tuple #[.agg #[.int .i64 t, .string (bs k), .string ⟨#[]⟩, .slice none 0 0], .int .i64 (-1)]) (by simp [results, Tryz.results219, go_sem, r0, r1, r2, r3]) rfl ?_
        exact RefEnds.bad hsp.out ((((U0.out.setCell (Nat.le_refl _) _).setCell (Nat.le_refl _) _).setCell (Nat.le_refl _) _).setCell (Nat.le_refl _) _) ⟨_, _, _, _, _, _, rfl⟩ rfl
      · have hd2 : ((nn : Int) % 2 == 1) = true := by simp; omega
        clear hb hn0 hel'
        go_wp2
        (try simp only [Exit.inBlock, Exit.then])
        refine bodyPost_ret (v := .tuple #[.agg #[.int .i64 t, .string (bs k), .string ⟨#[]⟩, .slice none 0 0], .int .i64 (-1)]) (by simp [results, Tryz.results219, go_sem, r0, r1, r2, r3]) rfl ?_
        exact RefEnds.bad hsp.out ((((U0.out.setCell (Nat.le_refl _) _).setCell (Nat.le_refl _) _).setCell (Nat.le_refl _) _).setCell (Nat.le_refl _) _) ⟨_, _, _, _, _, _, rfl⟩ rfl
    obtain ⟨hn0, hfit⟩ := hb
    have hsp := hid (show spec = some (mkE n t k (trimB (padB k) (win s (a + 8) (a + 8 + nn))) [], win s (a + 8 + nn) z) by rw [hel'.out, if_neg hks.out, if_pos ⟨hn0, hfit⟩])
    have hd2 : ((nn : Int) % 2 == 1) = false := by simp; omega
    have hd3 : decide ((z : Int) < (a : Int) + 8 + (nn : Int)) = false := by simp; omega
    clear hel' hn0
    have hRh := hid hR0
    have hXh := hid hX0
    go_wp2_with fail
    clear r0 r1 r2 r3 x0 x1 x2 x3 s0 s1 s2 s3 y0 y1 y2 y3 hR0 hX0
    go_loopw [14] (fun kk wr => ∃ j : Nat, a + 8 ≤ j ∧ j ≤ a + 8 + nn ∧ kk = .int .i64 j ∧ Hid (trimB (padB k) (win s (a + 8) (a + 8 + nn)) = trimB (padB k) (win s (a + 8) j)) ∧ Hid (Below w.heap.size w wr) ∧ Hid (Four wr w.heap.size (.int .i64 0) (.string ⟨#[]⟩) (.string ⟨#[]⟩) (.slice none 0 0)) ∧ Hid (Four wr (w.heap.size + 1) (.int .i64 t) (.string (bs k)) (.string ⟨#[]⟩) (.slice none 0 0))) (fun kk _ => (intOf kk).toNat)
    case atStart => exact ⟨a + 8 + nn, by omega, Nat.le_refl _, by go_num, rfl, U0, hRh, hXh⟩
    case round =>
      obtain ⟨j, hj1, hj2, rfl, htr, hup, hR, hX⟩ := hrel
      obtain ⟨⟨r0, r1, r2, r3⟩, s0, s1, s2, s3⟩ := hR.out.cells
      obtain ⟨⟨x0, x1, x2, x3⟩, y0, y1, y2, y3⟩ := hX.out.cells
      have hwa : IntKind.i64.wrap ((a : Int) + 8) = (a : Int) + 8 := by rw [IntKind.wrap_i64]; omega
      by_cases hgo : a + 8 < j
      case pos =>
        obtain ⟨j', rfl⟩ : ∃ j', j = j' + 1 := ⟨j - 1, by omega⟩
        have hlt : j' < s.length := by omega
        have htest := byte_test s k j' hlt
        have hwj : IntKind.i64.wrap (((j' + 1 : Nat) : Int) - 1) = (j' : Int) := by rw [IntKind.wrap_i64]; omega
        have hwj2 : IntKind.i64.wrap ((j' : Int) + 1 - 1) = (j' : Int) := by rw [IntKind.wrap_i64]; omega
        have hdj : decide ((a : Int) + 8 < ((j' + 1 : Nat) : Int)) = true := by simp; omega
        have hdj2 : decide ((a : Int) + 8 < (j' : Int) + 1) = true := by simp; omega
        by_cases hp : s[j'] = padB k
        case pos =>
          have htr2 := hid (htr.out.trans (trim_pad hlt (by omega) hp))
          rw [decide_eq_true hp] at htest
          clear hp htr
          go_wp2_with fail
          go_quiet ((go_at_call 149; exact Calls.quiet_of_same (rpad_any _ k)))
          go_wp2
          go_roundw
          case rel => exact ⟨j', by omega, by omega, by go_num, htr2, below_drewN hup.out _, hR, hX⟩
          case measure => simp [intOf]
        have htr2 := hid (htr.out.trans (trim_else hlt (by omega) hp))
        rw [decide_eq_false hp] at htest
        clear hp htr
        go_wp2_with fail
        go_quiet ((go_at_call 149; exact Calls.quiet_of_same (rpad_any _ k)))
        have hsl := bs_slice s (a + 8) (j' + 1) (by omega) (by omega)
        have hq5 : (a : Int) + 8 ≤ (j' : Int) + 1 := by omega
        have hq6 : (j' : Int) + 1 ≤ (s.length : Int) := by omega
        have hq7 : (0 : Int) ≤ (a : Int) + 8 := by omega
        have hRq : Four (wr.drewN nq) w.heap.size (.int .i64 0) (.string ⟨#[]⟩) (.string ⟨#[]⟩) (.slice none 0 0) := hR.out
        have hXq : Four (wr.drewN nq) (w.heap.size + 1) (.int .i64 t) (.string (bs k)) (.string ⟨#[]⟩) (.slice none 0 0) := hX.out
        have hupq := hid (below_drewN hup.out nq)
        generalize wr.drewN nq = wq at hRq hXq hupq ⊢
        clear r0 r1 r2 r3 x0 x1 x2 x3 s0 s1 s2 s3 y0 y1 y2 y3
        obtain ⟨⟨r0, r1, r2, r3⟩, s0, s1, s2, s3⟩ := hRq.cells
        obtain ⟨⟨x0, x1, x2, x3⟩, y0, y1, y2, y3⟩ := hXq.cells
        go_wp2
        (try simp only [Exit.inBlock, Exit.then])
        refine bodyPost_ret (v := .tuple #[.agg #[.int .i64 t, .string (bs k), .string (bs (win s (a + 8) (j' + 1))), .slice none 0 0], .int .i64 ((a : Int) + 8 + (nn : Int))]) (by simp [results, Tryz.results219, go_sem, r0, r1, r2, r3]) rfl ?_
        obtain ⟨bl', hb1, hb3, hce⟩ := CE.mk (t := t) (k := k) (v := win s (a + 8) (j' + 1)) (OwI.nil (after wq (w.heap.size + 1) 2 w.heap.size (.string (bs (win s (a + 8) (j' + 1)))) (.int .i64 t) (.string (bs k)) (.string (bs (win s (a + 8) (j' + 1)))) (.slice none 0 0)) (n - 1))
        exact RefEnds.ok (x := mkE n t k (win s (a + 8) (j' + 1)) []) (b := a + 8 + nn) (by rw [hsp.out, htr2.out]) (((((hupq.out.setCell (by simp) _).setCell (Nat.le_refl _) _).setCell (Nat.le_refl _) _).setCell (Nat.le_refl _) _).setCell (Nat.le_refl _) _) rfl hfit (ret_vi (by omega)) ⟨bl', ⟨_, _, _, _, _, _, rfl, hce⟩, hb3 List.nodup_nil, fun j hj => nomatch hb1 j hj⟩
      case neg =>
        have hja : j = a + 8 := by omega
        have htr2 := hid (htr.out.trans (show trimB (padB k) (win s (a + 8) j) = win s (a + 8) j by rw [hja, win_self _ _ (by omega)]; rfl))
        have hdj : decide ((a : Int) + 8 < (j : Int)) = false := by simp; omega
        clear hja htr
        go_wp2_with fail
        go_quiet (fail)
        have hsl := bs_slice s (a + 8) (j) (by omega) (by omega)
        have hq5 : (a : Int) + 8 ≤ (j : Int) := by omega
        have hq6 : (j : Int) ≤ (s.length : Int) := by omega
        have hq7 : (0 : Int) ≤ (a : Int) + 8 := by omega
        have hRq : Four (wr.drewN nq) w.heap.size (.int .i64 0) (.string ⟨#[]⟩) (.string ⟨#[]⟩) (.slice none 0 0) := hR.out
        have hXq : Four (wr.drewN nq) (w.heap.size + 1) (.int .i64 t) (.string (bs k)) (.string ⟨#[]⟩) (.slice none 0 0) := hX.out
        have hupq := hid (below_drewN hup.out nq)
        generalize wr.drewN nq = wq at hRq hXq hupq ⊢
        clear r0 r1 r2 r3 x0 x1 x2 x3 s0 s1 s2 s3 y0 y1 y2 y3
        obtain ⟨⟨r0, r1, r2, r3⟩, s0, s1, s2, s3⟩ := hRq.cells
        obtain ⟨⟨x0, x1, x2, x3⟩, y0, y1, y2, y3⟩ := hXq.cells
        go_wp2
        (try simp only [Exit.inBlock, Exit.then])
        refine bodyPost_ret (v := .tuple #[.agg #[.int .i64 t, .string (bs k), .string (bs (win s (a + 8) (j))), .slice none 0 0], .int .i64 ((a : Int) + 8 + (nn : Int))]) (by simp [results, Tryz.results219, go_sem, r0, r1, r2, r3]) rfl ?_
        obtain ⟨bl', hb1, hb3, hce⟩ := CE.mk (t := t) (k := k) (v := win s (a + 8) (j)) (OwI.nil (after wq (w.heap.size + 1) 2 w.heap.size (.string (bs (win s (a + 8) (j)))) (.int .i64 t) (.string (bs k)) (.string (bs (win s (a + 8) (j)))) (.slice none 0 0)) (n - 1))
        exact RefEnds.ok (x := mkE n t k (win s (a + 8) (j)) []) (b := a + 8 + nn) (by rw [hsp.out, htr2.out]) (((((hupq.out.setCell (by simp) _).setCell (Nat.le_refl _) _).setCell (Nat.le_refl _) _).setCell (Nat.le_refl _) _).setCell (Nat.le_refl _) _) rfl hfit (ret_vi (by omega)) ⟨bl', ⟨_, _, _, _, _, _, rfl, hce⟩, hb3 List.nodup_nil, fun j hj => nomatch hb1 j hj⟩
theorem relement_all : ∀ m, ElR m
  | 0 => fun n w s a z hs haz hz hm => relement_short n 0 w s a z hs hz haz (by omega) (by
    unfold one
    cases tg (win s a z) with
    | none => rfl
    | some p => rfl)
  | m + 1 => relement_any m (relement_all m)
end Go.Proofs.YtaokifbpakbgdaaGreatDoor

/- Package folioref, the document's own answer on data sets: Decode. -/
namespace Go.Proofs.YtaokifbpakbgdaaGreatDoor
open Go.RowKit

set_option maxRecDepth 20000 in
theorem rDecode_any (w : World) (n : Nat) (hn : 3 ≤ n) (s : By) :
    Calls Tryz.prog 98 #[.string (bs s)] w (DecEnd n w s) := by
  have hz := bs_size s
  by_cases hs : 16384 < s.length
  · have d1 : decide ((16384 : Int) < (s.length : Int)) = true := by simp; omega
    have e1 := hid (show decE n s = 4 by unfold decE; rw [if_pos hs])
    go_enter Tryz.func98, Tryz.ntmps98
    go_wp2_with fail
    go_ret2
    exact ⟨Below.refl _ _, Or.inl ⟨by rw [e1.out]; decide, by rw [e1.out]; rfl⟩⟩
  have d1 : decide ((16384 : Int) < (s.length : Int)) = false := by simp; omega
  have hset := hid (rset_any (s.length + 1) (relement_all _) n w s 0 s.length false (by omega) (Nat.zero_le _) (Nat.le_refl _) (by omega))
  have hpa := hid (parse_set n s)
  have hdec := hid (show decE n s = match parse n s with | none => 1 | some l => errS n 0 l by unfold decE; rw [if_neg hs]; cases parse n s <;> rfl)
  go_enter Tryz.func98, Tryz.ntmps98
  go_wp2_with fail
  go_at_call 160
  refine hset.out.mono ?_
  clear hset
  rw [win_all]
  generalize setP false 4294893581 (elP (s.length + 1) n) s = oo at hpa
  cases oo with
  | none =>
    have e1 := hid (show decE n s = 1 by rw [hdec.out, hpa.out]; rfl)
    rintro e w1 ⟨u1, v, rfl, rfl⟩
    have u1' := hid u1
    clear u1 hpa hdec
    go_wp2_with fail
    go_ret2
    exact ⟨u1'.out, Or.inl ⟨by rw [e1.out]; decide, by rw [e1.out]; rfl⟩⟩
  | some q =>
    obtain ⟨l, r⟩ := q
    have e1 := hid (show decE n s = errS n 0 l by rw [hdec.out, hpa.out]; rfl)
    have hp := hid (show parse n s = some l by rw [hpa.out]; rfl)
    rintro e w1 ⟨u1, v, b, hr, hb, rfl, bl, how, hbl⟩
    have u1' := hid u1
    clear u1 hpa hdec hr
    go_wp2_with fail
    go_at_call 92
    refine (rwrong_any n (fun _ => True) w1 v l 0 (by omega) (by omega) (how.rd _ _ _ _ _ (fun _ _ => trivial))).mono ?_
    rintro e w2 ⟨rfl, u2⟩
    have how2 := hid (how.keep (w' := w2) _ _ _ _ (fun j hj => u2.block j (hbl.2 j hj).2))
    have hbl2 := hid (hbl.more u2.size)
    have u2' := hid (u1'.out.trans (u2.mono u1'.out.size))
    clear u2 how hbl
    have hE := hid (rfl : errS n 0 l = errS n 0 l)
    generalize hee : errS n 0 l = ee at e1 ⊢
    by_cases he : ee = 0
    · subst he
      have hee' := hid hee
      clear hee hE
      go_wp2
      go_ret2
      exact ⟨u2'.out, Or.inr ⟨e1.out, l, v, bl, hp.out, hee'.out, rfl, how2.out, hbl2.out⟩⟩
    · have he2 : (ee != 0) = true := by simpa using he
      have he3 := hid he
      clear he hE
      have hee' := hid hee
      clear hee
      go_wp2
      go_ret2
      exact ⟨u2'.out, Or.inl ⟨by rw [e1.out]; exact he3.out, by rw [e1.out]; rfl⟩⟩
end Go.Proofs.YtaokifbpakbgdaaGreatDoor

/- Package folioref on archives: Delete, Store. -/
namespace Go.Proofs.YtaokifbpakbgdaaGreatDoor
open Go.RowKit

theorem OneC.set {w : World} {b : Nat} {v : Value} (h : OneC w b v) (u : Value) : OneC (w.setCell ⟨b, 0, none⟩ u) b u := one_setCell h
/-- The reference's archive in memory. -/
def RefA (w : World) (F : Nat → Prop) (n b : Nat) (A : List (List (El (n + 1)))) : Prop := ∃ v, OneC w b v ∧ RdI w F (n + 1) v A
theorem RefA.lt {w : World} {F : Nat → Prop} {n b : Nat} {A : List (List (El (n + 1)))} (h : RefA w F n b A) : b < w.heap.size := by
  obtain ⟨v, h1, _⟩ := h
  exact h1.lt
theorem RefA.keep {w w' : World} {F F' : Nat → Prop} {n b : Nat} {A : List (List (El (n + 1)))} (h : RefA w F n b A) (hb : w'.heap[b]? = w.heap[b]?) (hF : ∀ j, F j → F' j) (hk : ∀ j, F j → j < w.heap.size → w'.heap[j]? = w.heap[j]?) : RefA w' F' n b A := by
  obtain ⟨v, h1, h2⟩ := h
  exact ⟨v, by rw [OneC, hb]; exact h1, h2.keep hF hk⟩
set_option maxRecDepth 20000 in
theorem rDelete_any (n : Nat) (F : Nat → Prop) (w : World) (b : Nat) (A : List (List (El (n + 1)))) (s : By) (h : RefA w F n b A) (hF : ∀ j, F j → j < w.heap.size ∧ j ≠ b) (hl : A.length ≤ 48) (hs : ∀ l ∈ A, l.length ≤ 24) :
    Calls Tryz.prog 51 #[ptr b, .string (bs s)] w fun e w' => e = .returned (.bool (decide ((outA A s).length < A.length))) ∧ UpB b w w' ∧ RefA w' (Nw F w w') n b (outA A s) := by
  obtain ⟨v, hb, hr⟩ := h
  obtain ⟨ad, cap, rfl⟩ := hr.slice
  have HB := hid hb
  have HF := hid hF
  have c1 := hid (rwithout_any n F w b _ A s hb hr hl hs)
  clear hb hr hF hs
  go_enter Tryz.func51, Tryz.ntmps51
  go_wp2_with fail
  go_at_call 101
  refine c1.out.mono ?_
  clear c1
  rintro e w1 ⟨v1, rfl, u1, r1, n1⟩
  obtain ⟨ad1, cap1, rfl⟩ := r1.slice
  have B1 := HB.out.up u1
  have b0 := B1.cell
  have b1 := B1.free
  have hlt := HB.out.lt
  have U1 := hid u1
  have R1 := hid r1
  have N1 := hid n1
  have BB := hid B1
  have hol : (outA A s).length ≤ 48 := Nat.le_trans (List.length_filter_le _ _) hl
  clear u1 r1 n1 B1
  go_wp2
  go_ret
  refine ⟨?_, (UpB.of_below U1.out).setCell (Or.inl rfl) _, ?_⟩
  · simp
  · refine ⟨_, BB.out.set _, ?_⟩
    have hz := U1.out.size
    refine (rdS_cp (F' := Nw F w w1) R1.out U1.out (fun j hj => Or.inl hj) (fun j hj => Or.inr (N1.out.2 j hj))).keep (fun j hj => ?_) (fun j hj _ => Below.heap_setCell _ _ _ _ ?_)
    · rcases hj with hj | hj
      · exact Or.inl hj
      · exact Or.inr ⟨hj.1, by simpa using hj.2⟩
    · rcases hj with hj | hj
      · exact (HF.out j hj).2
      · have := hj.1
        simp only []
        omega
theorem own_succ {w : World} {base : Nat} {e : TypeId} {k : Nat} {v : Value} {n : Nat} {xs : List Value} (h : w.ownsRow base e k v (n + 1) xs) : ∃ g cap, v = .slice (some ⟨g, 0, none⟩) (n + 1) cap := by
  rcases h.2 with ⟨_, h1⟩ | ⟨g, cap, cur, rfl, _⟩
  · cases h1
  · exact ⟨g, cap, rfl⟩
/-- What Store answers, and what lies there behind it. -/
def stoE (A : List (List (El 3))) (s : By) : Int := if decE 3 s ≠ 0 then decE 3 s else match parse 3 s with
  | some l => layE A l
  | none => 1
def stoA (A : List (List (El 3))) (s : By) : List (List (El 3)) := if decE 3 s ≠ 0 then A else match parse 3 s with
  | some l => layA A l
  | none => A
set_option maxRecDepth 20000 in
set_option maxHeartbeats 4000000 in
theorem rStore_any (F : Nat → Prop) (w : World) (b : Nat) (A : List (List (El 3))) (s : By) (h : RefA w F 2 b A) (hF : ∀ j, F j → j < w.heap.size ∧ j ≠ b) (hl : A.length ≤ 48) (hs : ∀ l ∈ A, l.length ≤ 24) :
    Calls Tryz.prog 49 #[ptr b, .string (bs s)] w fun e w' => e = .returned (.int .i64 (stoE A s)) ∧ UpB b w w' ∧ RefA w' (Nw F w w') 2 b (stoA A s) := by
  have HA := hid h
  have HF := hid hF
  have HS := hid hs
  have hkeep : ∀ w' : World, Below w.heap.size w w' → RefA w' (Nw F w w') 2 b A := fun w' u => HA.out.keep (u.block _ HA.out.lt) (fun j hj => Or.inl hj) (fun j hj hj2 => u.block j hj2)
  have HK := hid hkeep
  clear h hF hs hkeep
  go_enter Tryz.func49, Tryz.ntmps49
  go_wp2_with fail
  go_at_call 98
  refine (rDecode_any w 3 (Nat.le_refl _) s).mono ?_
  rintro e w1 ⟨u1, ⟨hd, rfl⟩ | ⟨hd, l, v, bl, hp, hle, rfl, how, hbl⟩⟩
  · have U1 := hid u1
    have hE := hid (show stoE A s = decE 3 s by rw [stoE, if_pos hd])
    have hA := hid (show stoA A s = A by rw [stoA, if_pos hd])
    have hd2 : (decE 3 s != 0) = true := by simpa using hd
    clear u1 hd
    generalize decE 3 s = ee at hE hd2
    go_wp2
    go_ret
    refine ⟨ret_int hE.out.symm, UpB.of_below U1.out, ?_⟩
    rw [hA.out]
    exact HK.out _ U1.out
  have U1 := hid u1
  have hSn := hid (sane_of (n := 1) hle)
  have hll := (sane_of (n := 1) hle).1
  have hE := hid (show stoE A s = layE A l by rw [stoE, if_neg (fun h => h hd), hp])
  have hA := hid (show stoA A s = layA A l by rw [stoA, if_neg (fun h => h hd), hp])
  have R1 := hid (how.rd _ _ _ _ (fun j => j ∈ bl) (fun j hj => hj))
  have N1 := hid hbl
  obtain ⟨ad, cap, rfl⟩ := R1.out.slice
  clear u1 hd hle hp how hbl
  go_wp2_with fail
  go_at_call 99
  refine (rdescribed_any 1 (fun j => j ∈ bl) w1 _ l R1.out hSn.out).mono ?_
  rintro e w2 ⟨rfl, u2⟩
  have U2 := hid (U1.out.trans (u2.mono U1.out.size))
  have R2 := hid (R1.out.up u2)
  have N2 := hid (N1.out.more u2.size)
  clear u2 R1 N1
  by_cases hde : desE l = 0
  case neg =>
    have hE2 := hid (show stoE A s = desE l by rw [hE.out, layE, if_pos hde])
    have hA2 := hid (show stoA A s = A by rw [hA.out, layA, if_neg (by rw [layE, if_pos hde]; exact hde)])
    have hd2 : (desE l != 0) = true := by simpa using hde
    clear hde hE hA
    generalize desE l = ee at hE2 hd2
    go_wp2
    go_ret
    refine ⟨ret_int hE2.out.symm, UpB.of_below U2.out, ?_⟩
    rw [hA2.out]
    exact HK.out _ U2.out
  have hE2 := hid (show stoE A s = if (outA A (nm 3 l)).any (clash l) then 8 else if 48 ≤ (outA A (nm 3 l)).length then 9 else 0 by rw [hE.out, layE, if_neg (fun h => h hde)])
  have hA2 := hid (show stoA A s = if stoE A s = 0 then outA A (nm 3 l) ++ [l] else A by rw [hA.out, layA, ← hE.out])
  rw [hde]
  clear hde hE hA
  go_wp2_with fail
  go_at_call 100
  refine (rnames_any 2 (fun j => j ∈ bl) w2 _ l R2.out hll).mono ?_
  rintro e w3 ⟨gn, capn, rfl, _, hN, u3⟩
  have U3 := hid (U2.out.trans (u3.mono U2.out.size))
  have R3 := hid (R2.out.up u3)
  have N3 := hid (N2.out.more u3.size)
  have M3 := hid hN
  have m3 := hN 3 (by omega)
  obtain ⟨vA, hB, hR⟩ := HK.out _ U3.out
  have c1 := hid (rwithout_any 2 (Nw F w w3) w3 b vA A (nm 3 l) hB hR hl HS.out)
  clear u3 R2 N2 hN hB hR
  go_wp2_with fail
  go_at_call 101
  refine c1.out.mono ?_
  clear c1 m3
  rintro e w4 ⟨v4, rfl, u4, r4, n4⟩
  obtain ⟨ad4, cap4, rfl⟩ := r4.slice
  have U4 := hid (U3.out.trans (u4.mono U3.out.size))
  have R4 := hid (R3.out.up u4)
  have N4 := hid (N3.out.more u4.size)
  have M4 := hid (M3.out.up u4)
  have L4 := hid r4
  have V4 := hid u4
  have Q4 := hid n4
  have hz3 := U3.out.size
  have hol : (outA A (nm 3 l)).length ≤ 48 := Nat.le_trans (List.length_filter_le _ _) hl
  have hos := hid (show ∀ o ∈ outA A (nm 3 l), o.length ≤ 24 from fun o ho => HS.out o ((List.mem_filter.1 ho).1))
  have RL := hid (rdS_cp (F' := Nw F w w4) r4 u4 (fun j hj => by rcases hj with hj | hj; (· exact Or.inl hj); exact Or.inr ⟨hj.1, by have := u4.size; omega⟩) (fun j hj => Or.inr ⟨by have := (n4.2 j hj).1; omega, (n4.2 j hj).2⟩))
  have Rl := hid (R3.out.keep (w' := w3) (F' := Nw F w w3) (fun j hj => Or.inr (N3.out.2 j hj)) (fun _ _ _ => rfl))
  clear u4 r4 n4 R3 N3 M3
  generalize outA A (nm 3 l) = left at hE2 hA2 L4 hol hos RL Q4
  go_wp2_with fail
  go_loopw [9] (fun i wr => ∃ k : Nat, k ≤ left.length ∧ i = .int .i64 k ∧ Hid (left.any (clash l) = (left.drop k).any (clash l)) ∧ Hid (Below w4.heap.size w4 wr)) (fun i _ => left.length - (intOf i).toNat)
  case atStart => exact ⟨0, Nat.zero_le _, rfl, rfl, Below.refl _ _⟩
  case round =>
    obtain ⟨k, hk, rfl, hsp, hV⟩ := hrel
    by_cases hkl : k < left.length
    · have hat := hid ((RL.out.up hV.out).at (List.getElem?_eq_getElem hkl))
      obtain ⟨a5, ad5, cap5, e5, _, c5, hrd⟩ := hat.out
      subst e5
      have hsl := hos.out _ (List.getElem_mem hkl)
      have hst := hid (any_drop (clash l) hkl)
      have hrd5 := hid hrd
      clear hrd hat
      generalize left[k] = o at c5 hrd5 hst hsl
      go_wp2_with fail
      go_at_call 100
      refine (rnames_any 2 _ wr _ o hrd5.out hsl).mono ?_
      rintro e w6 ⟨g6, cap6, rfl, _, hN6, u6⟩
      have V6 := hid (hV.out.trans (u6.mono hV.out.size))
      have o0 := hN6 0 (by omega)
      have o1 := hN6 1 (by omega)
      have o2 := hN6 2 (by omega)
      have l0 := (M4.out.up V6.out) 0 (by omega)
      have l1 := (M4.out.up V6.out) 1 (by omega)
      have l2 := (M4.out.up V6.out) 2 (by omega)
      have hcl := hid (show clash l o = (((nm 2 o == nm 2 l) && !(nm 1 o == nm 1 l)) || ((nm 1 o == nm 1 l) && !(nm 0 o == nm 0 l))) by
        unfold clash
        by_cases q2 : nm 2 o = nm 2 l <;> by_cases q1 : nm 1 o = nm 1 l <;> by_cases q0 : nm 0 o = nm 0 l <;> simp [q2, q1, q0])
      have e1 := bs_toList (nm 0 o)
      have e2 := bs_toList (nm 1 o)
      have e3 := bs_toList (nm 2 o)
      have e4 := bs_toList (nm 0 l)
      have e5 := bs_toList (nm 1 l)
      have e6 := bs_toList (nm 2 l)
      clear u6 hN6 c5 hrd5
      generalize nm 0 o = O0 at o0 e1 hcl
      generalize nm 1 o = O1 at o1 e2 hcl
      generalize nm 2 o = O2 at o2 e3 hcl
      generalize nm 0 l = L0 at l0 e4 hcl
      generalize nm 1 l = L1 at l1 e5 hcl
      generalize nm 2 l = L2 at l2 e6 hcl
      generalize hq2 : (O2 == L2) = p2 at hcl
      generalize hq1 : (O1 == L1) = p1 at hcl
      generalize hq0 : (O0 == L0) = p0 at hcl
      go_wp2_with fail
      cases p2 <;> cases p1 <;> cases p0
      all_goals go_quiet (fail)
      all_goals go_wp2_with fail
      all_goals first
        | (go_roundw
           case rel => exact ⟨k + 1, by omega, by go_num, by unfold Hid; rw [hsp.out, hst.out, show clash l o = false from hcl.out.trans rfl, Bool.false_or], below_drewN V6.out _⟩
           case measure => simp [intOf]; omega)
        | (go_ret
           have hF : stoE A s = 8 := by rw [hE2.out, if_pos]; rw [hsp.out, hst.out, show clash l o = true from hcl.out.trans rfl, Bool.true_or]
           have hU := below_drewN (U4.out.trans (V6.out.mono U4.out.size)) nq
           refine ⟨ret_int hF.symm, UpB.of_below hU, ?_⟩
           rw [hA2.out, if_neg (by rw [hF]; decide)]
           exact HK.out _ hU)
    · have hno := hid (show left.any (clash l) = false by rw [hsp.out, List.drop_eq_nil_of_le (by omega)]; rfl)
      have U5 := hid (U4.out.trans (hV.out.mono U4.out.size))
      clear hsp
      by_cases h48 : 48 ≤ left.length
      · have d1 : decide ((48 : Int) ≤ (left.length : Int)) = true := by simp; omega
        have hF := hid (show stoE A s = 9 by rw [hE2.out, if_neg (by rw [hno.out]; decide), if_pos h48])
        clear hE2 h48
        go_wp2
        go_ret
        refine ⟨ret_int hF.out.symm, UpB.of_below U5.out, ?_⟩
        rw [hA2.out, if_neg (by rw [hF.out]; decide)]
        exact HK.out _ U5.out
      · have d1 : decide ((48 : Int) ≤ (left.length : Int)) = false := by simp; omega
        have hF := hid (show stoE A s = 0 by rw [hE2.out, if_neg (by rw [hno.out]; decide), if_neg h48])
        obtain ⟨xs, cs, q1, q2, q3⟩ := L4.out
        have O5 := hid (ownsRow_keep q1 (w' := wr) (fun j hj => hV.out.block j (Q4.out.2 j hj).2))
        have hcs : cs = [] := by
          have := congrArg List.length q3
          rw [List.length_append] at this
          exact List.eq_nil_of_length_eq_zero (by omega)
        subst hcs
        have LS := hid (Ls.snoc (k := 1) (R := CpS w3 (Nw F w w3) 2) (c := [.slice ad l.length cap]) (b := []) rfl ⟨rfl, _, rfl, Rl.out⟩ q2)
        obtain ⟨i0, hi0, hz0, hz1, hz2⟩ := info_parts info_set
        have HI := hid hi0
        obtain ⟨vB, hB, _⟩ := HK.out _ U5.out
        have HB := hid hB
        have hbl := HA.out.lt
        clear q1 q2 q3 hi0 hE2 h48 hB
        go_wp2_with (at_builtin; refine wpList_append_sep _ rfl _ _ 75 rfl 59 i0 (.slice none 0 0) 1 24 Tryz.underlying75 HI.out hz0 hz1 hz2 rfl (by decide) _ _ _ rfl (O5.out.alloc _) ⟨wr.heap.size, 0, none⟩ 1 1 [.slice ad l.length cap] rfl rfl (one_at _ _ _) (by simp [Value.oneCell']) (by unfold maxLen; omega) (by omega) ?_)
        intro v7 w7 hown7 hg7 hv7
        obtain ⟨g7, cap7, rfl⟩ := own_succ hown7
        have hb7 : w7.heap[b]? = wr.heap[b]? := by
          rw [hg7.block b (by have := U5.out.size; simp; omega) (fun e => ?_)]
          · exact Below.heap_alloc _ _ _ (by have := U5.out.size; omega)
          · have := (Q4.out.2 b (by rw [← e]; simp)).1
            omega
        have B7 : OneC w7 b vB := by rw [OneC, hb7]; exact HB.out
        have b0 := B7.cell
        have b1 := B7.free
        have V7 : Below w3.heap.size w3 w7 := by
          have v1 := V4.out.trans (hV.out.mono V4.out.size)
          exact Below.grown (Below.alloc v1 v1.size _) hg7 (Nat.le_trans v1.size (by simp)) (fun k hk => (Q4.out.2 k (by rw [hk]; simp)).1)
        have W7 := hid V7
        have U7 := hid (U3.out.trans (V7.mono U3.out.size))
        have R7 : RdI w7 (Nw F w w7) 3 (.slice (some ⟨g7, 0, none⟩) (left.length + 1) cap7) (left ++ [l]) := by
          have hrow : Row w7 59 1 (CpS w3 (Nw F w w3) 2) (.slice (some ⟨g7, 0, none⟩) (left.length + 1) cap7) (left ++ [l]) ((Value.slice (some ⟨g7, 0, none⟩) (left.length + 1) cap7).ownBlock.toList ++ []) := ⟨_, [], by rw [List.length_append]; exact hown7, LS.out, rfl⟩
          refine rdS_cp hrow V7 (fun j hj => ?_) (fun j hj => ?_)
          · rcases hj with hj | hj
            · exact Or.inl hj
            · exact Or.inr ⟨hj.1, Nat.lt_of_lt_of_le hj.2 V7.size⟩
          · rw [List.append_nil] at hj
            refine Or.inr ⟨?_, ownsRow_lt hown7 j hj⟩
            rcases hv7 with hv7 | hv7
            · rw [hv7] at hj
              have := (Q4.out.2 j hj).1
              omega
            · have h1 := hv7 j hj
              have h2 := U5.out.size
              simp only [World.size_alloc] at h1
              omega
        have R7' := hid R7
        have BB := hid B7
        clear hown7 hg7 hv7 hb7 B7 V7 R7
        go_wp2
        go_ret
        refine ⟨ret_int hF.out.symm, (UpB.of_below U7.out).setCell (Or.inl rfl) _, ?_⟩
        rw [hA2.out, if_pos hF.out]
        refine ⟨_, BB.out.set _, R7'.out.keep (fun j hj => ?_) (fun j hj _ => Below.heap_setCell _ _ _ _ ?_)⟩
        · rcases hj with hj | hj
          · exact Or.inl hj
          · exact Or.inr ⟨hj.1, by simpa using hj.2⟩
        · rcases hj with hj | hj
          · exact (HF.out j hj).2
          · have := hj.1
            simp only []
            omega
end Go.Proofs.YtaokifbpakbgdaaGreatDoor

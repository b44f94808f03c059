/-
  Package folioref, the document's own answer on data sets: an element from a place on, at every depth; and Decode.
-/
import Derived.Test.YtaokifbpakbgdaaGreatDoorRefd6
import Derived.Deep.RegionWith
namespace Go.Proofs.YtaokifbpakbgdaaGreatDoor
open Go.RowKit

theorem bs_slice (s : By) (i j : Nat) (_hj : j ≤ s.length) (hij : i ≤ j) : (bs s).extract i j = bs (win s i j) := by
  apply ByteArray.ext
  rw [ByteArray.data_extract]
  apply Array.ext'
  simp only [bs, Array.toList_extract, List.extract_eq_take_drop, win]
  rw [List.take_drop, Nat.add_sub_cancel' hij]
theorem two_new (w : World) (c0 c1 c2 c3 d0 d1 d2 d3 : Value) : Four (((w.alloc (.cells #[c0, c1, c2, c3] 73)).alloc (.cells #[d0, d1, d2, d3] 73)).drew) (w.heap.size + 1) d0 d1 d2 d3 ∧ Four (((w.alloc (.cells #[c0, c1, c2, c3] 73)).alloc (.cells #[d0, d1, d2, d3] 73)).drew) w.heap.size c0 c1 c2 c3 := by
  have h := Four.new (w.alloc (.cells #[c0, c1, c2, c3] 73)) d0 d1 d2 d3
  rw [World.size_alloc] at h
  refine ⟨h, ?_⟩
  show (((w.alloc (.cells #[c0, c1, c2, c3] 73)).alloc (.cells #[d0, d1, d2, d3] 73)).heap)[w.heap.size]? = _
  exact (Below.heap_alloc _ _ _ (by simp)).trans (heap_alloc_new _ _)
theorem byte_test (s k : By) (j : Nat) (h : j < s.length) : ((((bs s)[j]'(by rw [bs_size]; exact h)).toNat : Int) == ((padB k).toNat : Int)) = decide (s[j] = padB k) := by
  have e2 : (bs s)[j]'(by rw [bs_size]; exact h) = s[j] := rfl
  rw [e2, Bool.eq_iff_iff, beq_iff_eq, decide_eq_true_eq]
  exact ⟨fun h => UInt8.toNat_inj.1 (by omega), fun h => by rw [h]⟩
theorem relement_short (n m : Nat) (w : World) (s : By) (a z : Nat) (hs : s.length ≤ 16384) (hz : z ≤ s.length) (haz : a ≤ z) (h8 : ¬ a + 8 ≤ z) (hsp : one (elP m n) (win s a z) = none) :
    Calls Tryz.prog 219 #[.string (bs s), .int .i64 a, .int .i64 z] w (RefEnds s z w (one (elP m n) (win s a z)) badE fun w' v x => ∃ bl, EV w' n v x bl ∧ New w w' bl) := by
  have ha : a ≤ 16384 := by omega
  go_enter Tryz.func219, Tryz.ntmps219
  go_wp2
  refine bodyPost_ret (v := .tuple #[.agg #[.int .i64 0, .string ⟨#[]⟩, .string ⟨#[]⟩, .slice none 0 0], .int .i64 (-1)]) (by simp [results, Tryz.results219, go_sem]) rfl ?_
  exact RefEnds.bad hsp (Below.alloc (Below.refl _ _) (Nat.le_refl _) _) ⟨_, _, _, _, _, _, rfl⟩ rfl
set_option maxHeartbeats 2000000 in
set_option maxRecDepth 20000 in
theorem relement_any (m : Nat) (H : ElR m) : ElR (m + 1) := by
  intro n w s a z hs haz hz hm
  have hbz := bs_size s
  by_cases h8 : a + 8 ≤ z
  case neg => exact relement_short n (m + 1) w s a z hs hz haz h8 (one_short hz haz h8)
  have htl := tagA_lt (s := s) (a := a) (by omega)
  have hnl := numA_lt (s := s) (a := a + 6) (k := 2) (by omega)
  rw [show (256 : Nat) ^ 2 = 65536 from rfl] at hnl
  have hres := hid (fun h => one_res (m := m) (n := n) hz haz (h : tagA s a / 65536 = 65534))
  have hel := hid (fun h => one_el (m := m) (n := n) hz h8 (h : tagA s a / 65536 ≠ 65534))
  have c1 := hid (fun w => rtagAt_any w s a hs (by omega))
  have c2 := hid (fun w => rnum_any w s (a + 6) 2 hs (by decide) (by omega))
  have hsl : (bs s).extract ((a : Int) + 4).toNat ((a : Int) + 6).toNat = bs (win s (a + 4) (a + 6)) := by
    rw [show ((a : Int) + 4).toNat = a + 4 by omega, show ((a : Int) + 6).toNat = a + 6 by omega]
    exact bs_slice s (a + 4) (a + 6) (by omega) (by omega)
  generalize one (elP (m + 1) n) (win s a z) = spec at hres hel ⊢
  generalize tagA s a = t at htl hres hel c1
  generalize win s (a + 4) (a + 6) = k at hel hsl
  have hw4 : IntKind.i64.wrap ((a : Int) + 4) = (a : Int) + 4 := by rw [IntKind.wrap_i64]; omega
  have hw6 : IntKind.i64.wrap ((a : Int) + 6) = (a : Int) + 6 := by rw [IntKind.wrap_i64]; omega
  have hq1 : (0 : Int) ≤ (a : Int) + 4 := by omega
  have hq2 : (a : Int) + 4 ≤ (a : Int) + 6 := by omega
  have hq4 : (a : Int) + 6 ≤ (s.length : Int) := by omega
  go_enter Tryz.func219, Tryz.ntmps219
  go_wp2_with fail
  go_region_with (go_at_call 261; refine (c1.out _).mono ?_; rintro e w' ⟨rfl, rfl⟩)
  all_goals clear c1
  all_goals clear hsl hw4 hw6 hq1 hq2 hq4
  all_goals have hXR := two_new w (.int .i64 0) (.string ⟨#[]⟩) (.string ⟨#[]⟩) (.slice none 0 0) (.int .i64 t) (.string (bs k)) (.string ⟨#[]⟩) (.slice none 0 0)
  all_goals obtain ⟨hX0, hR0⟩ := hXR
  all_goals have U0 := hid (((Below.alloc (Below.refl _ w) (Nat.le_refl _) (.cells #[.int .i64 0, .string ⟨#[]⟩, .string ⟨#[]⟩, .slice none 0 0] 73)).alloc (by simp) (.cells #[.int .i64 t, .string (bs k), .string ⟨#[]⟩, .slice none 0 0] 73)).drew)
  all_goals generalize ((w.alloc (.cells #[.int .i64 0, .string ⟨#[]⟩, .string ⟨#[]⟩, .slice none 0 0] 73)).alloc (.cells #[.int .i64 t, .string (bs k), .string ⟨#[]⟩, .slice none 0 0] 73)).drew = w3 at hR0 hX0 U0 ⊢
  all_goals
    obtain ⟨⟨r0, r1, r2, r3⟩, s0, s1, s2, s3⟩ := hR0.cells
    obtain ⟨⟨x0, x1, x2, x3⟩, y0, y1, y2, y3⟩ := hX0.cells
    have hkl := bs_toList k
    have hne1 : ¬ w.heap.size = w.heap.size + 1 := by omega
    have hne2 : ¬ w.heap.size + 1 = w.heap.size := by omega
    go_wp2_with fail
    go_at_call 262
    refine (c2.out _).mono ?_
    clear c2
    rintro e w4 ⟨rfl, rfl⟩
    generalize numA s (a + 6) 2 = nn at hnl hel
    by_cases ht : t / 65536 = 65534
    case pos =>
      have hd1 : ((t : Int) / 65536 == 65534) = true := by simp; omega
      have hsp := hid (hres.out ht)
      clear hres hel ht
      go_wp2
      (try simp only [Exit.inBlock, Exit.then])
      refine bodyPost_ret (v := .tuple #[.agg #[.int .i64 t, .string (bs k), .string ⟨#[]⟩, .slice none 0 0], .int .i64 (-1)]) (by simp [results, Tryz.results219, go_sem, r0, r1, r2, r3]) rfl ?_
      exact RefEnds.bad hsp.out ((((U0.out.setCell (Nat.le_refl _) _).setCell (Nat.le_refl _) _).setCell (Nat.le_refl _) _).setCell (Nat.le_refl _) _) ⟨_, _, _, _, _, _, rfl⟩ rfl
    have hd1 : ((t : Int) / 65536 == 65534) = false := by simp; omega
    have hel' := hid (hel.out ht)
    clear hres hel ht
    by_cases hq : (k == [83, 81]) = true
    case pos =>
      have hks := hid (show k = SQ by simpa using hq)
      by_cases hb : nn = 0 ∧ a + 12 ≤ z
      case neg =>
        have hsp := hid (show spec = none by rw [hel'.out, if_pos hks.out, if_neg hb])
        by_cases hn0 : nn = 0
        · have hd2 : ((nn : Int) != 0) = false := by simp; omega
          have hd3 : decide ((z : Int) < (a : Int) + 12) = true := by
            have : ¬ a + 12 ≤ z := fun e => hb ⟨hn0, e⟩
            simp; omega
          clear hb hn0 hel'
          go_wp2
          (try simp only [Exit.inBlock, Exit.then])
          refine bodyPost_ret (v := .tuple #[.agg #[.int .i64 t, .string (bs k), .string ⟨#[]⟩, .slice none 0 0], .int .i64 (-1)]) (by simp [results, Tryz.results219, go_sem, r0, r1, r2, r3]) rfl ?_
          exact RefEnds.bad hsp.out ((((U0.out.setCell (Nat.le_refl _) _).setCell (Nat.le_refl _) _).setCell (Nat.le_refl _) _).setCell (Nat.le_refl _) _) ⟨_, _, _, _, _, _, rfl⟩ rfl
        · have hd2 : ((nn : Int) != 0) = true := by simp; omega
          clear hb hn0 hel'
          go_wp2
          (try simp only [Exit.inBlock, Exit.then])
          refine bodyPost_ret (v := .tuple #[.agg #[.int .i64 t, .string (bs k), .string ⟨#[]⟩, .slice none 0 0], .int .i64 (-1)]) (by simp [results, Tryz.results219, go_sem, r0, r1, r2, r3]) rfl ?_
          exact RefEnds.bad hsp.out ((((U0.out.setCell (Nat.le_refl _) _).setCell (Nat.le_refl _) _).setCell (Nat.le_refl _) _).setCell (Nat.le_refl _) _) ⟨_, _, _, _, _, _, rfl⟩ rfl
      obtain ⟨hn0, h12⟩ := hb
      subst hn0
      have hsp := hid (show spec = (lgN 4294893789 (itP (elP m (n - 1))) (numA s (a + 8) 4) (win s (a + 12) z)).map (fun p => (mkE n t k [] p.1, p.2)) by rw [hel'.out, if_pos hks.out, if_pos ⟨rfl, h12⟩])
      have hzl := numA_lt (s := s) (a := a + 8) (k := 4) (by omega)
      rw [show (256 : Nat) ^ 4 = 4294967296 from rfl] at hzl
      clear hel'
      go_wp2_with fail
      go_at_call 262
      refine (rnum_any _ s (a + 8) 4 hs (by decide) (by omega)).mono ?_
      rintro e w5 ⟨rfl, rfl⟩
      generalize numA s (a + 8) 4 = sz at hzl hsp
      go_wp2_with fail
      go_at_call 263
      refine (ritems_any m H (n - 1) _ s (a + 12) z sz hs h12 hz (by omega) hzl).mono ?_
      generalize lgN 4294893789 (itP (elP m (n - 1))) sz (win s (a + 12) z) = oo at hsp
      clear r0 r1 r2 r3 x0 x1 x2 x3 s0 s1 s2 s3 y0 y1 y2 y3
      cases oo with
      | none =>
        rintro e w6 ⟨u6, v, rfl, rfl⟩
        obtain ⟨⟨r0, r1, r2, r3⟩, s0, s1, s2, s3⟩ := (hR0.keep (u6.block _ hR0.lt)).cells
        obtain ⟨⟨x0, x1, x2, x3⟩, y0, y1, y2, y3⟩ := (hX0.keep (u6.block _ hX0.lt)).cells
        have U6 := hid (U0.out.trans (u6.mono U0.out.size))
        clear u6
        go_wp2
        (try simp only [Exit.inBlock, Exit.then])
        refine bodyPost_ret (v := .tuple #[.agg #[.int .i64 t, .string (bs k), .string ⟨#[]⟩, .slice none 0 0], .int .i64 (-1)]) (by simp [results, Tryz.results219, go_sem, r0, r1, r2, r3]) rfl ?_
        exact RefEnds.bad (by rw [hsp.out]; rfl) (((((U6.out.setCell (by simp) _).setCell (Nat.le_refl _) _).setCell (Nat.le_refl _) _).setCell (Nat.le_refl _) _).setCell (Nat.le_refl _) _) ⟨_, _, _, _, _, _, rfl⟩ rfl
      | some q =>
        obtain ⟨its, r⟩ := q
        rintro e w6 ⟨u6, iv, b2, hr, hb2, rfl, bl, how, hbl⟩
        obtain ⟨ad, cap, rfl⟩ := how.slice
        obtain ⟨⟨r0, r1, r2, r3⟩, s0, s1, s2, s3⟩ := (hR0.keep (u6.block _ hR0.lt)).cells
        obtain ⟨⟨x0, x1, x2, x3⟩, y0, y1, y2, y3⟩ := (hX0.keep (u6.block _ hX0.lt)).cells
        have U6 := hid (U0.out.trans (u6.mono U0.out.size))
        have hlx := hX0.lt
        have how' := hid (how.keep (w' := after w6 (w.heap.size + 1) 3 w.heap.size (.slice ad its.length cap) (.int .i64 t) (.string (bs k)) (.string ⟨#[]⟩) (.slice ad its.length cap)) (fun j hj => after_keep _ _ _ _ _ _ _ _ _ j (by have := (hbl.2 j hj).1; omega) (by have := (hbl.2 j hj).1; omega)))
        have hbl' := hid hbl
        have hr' := hid hr
        clear u6 how hbl hr
        go_wp2
        (try simp only [Exit.inBlock, Exit.then])
        refine bodyPost_ret (v := .tuple #[.agg #[.int .i64 t, .string (bs k), .string ⟨#[]⟩, .slice ad its.length cap], .int .i64 (b2 : Nat)]) (by simp [results, Tryz.results219, go_sem, r0, r1, r2, r3]) rfl ?_
        obtain ⟨bl', hb1, hb3, hce⟩ := CE.mk (t := t) (k := k) (v := []) how'.out
        refine RefEnds.ok (x := mkE n t k [] its) (r := r) (by rw [hsp.out]; rfl) (((((U6.out.setCell (by simp) _).setCell (Nat.le_refl _) _).setCell (Nat.le_refl _) _).setCell (Nat.le_refl _) _).setCell (Nat.le_refl _) _) hr'.out hb2 rfl ⟨bl', ⟨_, _, _, _, _, _, rfl, hce⟩, hb3 hbl'.out.1, fun j hj => ?_⟩
        have := hbl'.out.2 j (hb1 j hj)
        have h1 := after_size w6 (w.heap.size + 1) 3 w.heap.size (.slice ad its.length cap) (.int .i64 t) (.string (bs k)) (.string ⟨#[]⟩) (.slice ad its.length cap)
        unfold after at h1
        omega
    have hq2 : (k == [83, 81]) = false := by simpa using hq
    have hks := hid (show k ≠ SQ by simpa using hq)
    clear hq
    by_cases hb : nn % 2 = 0 ∧ a + 8 + nn ≤ z
    case neg =>
      have hsp := hid (show spec = none by rw [hel'.out, if_neg hks.out, if_neg hb])
      by_cases hn0 : nn % 2 = 0
      · have hd2 : ((nn : Int) % 2 == 1) = false := by simp; omega
        have hd3 : decide ((z : Int) < (a : Int) + 8 + (nn : Int)) = true := by
          have : ¬ a + 8 + nn ≤ z := fun e => hb ⟨hn0, e⟩
          simp; omega
        clear hb hn0 hel'
        go_wp2
        (try simp only [Exit.inBlock, Exit.then])
        refine bodyPost_ret (v := .tuple #[.agg #[.int .i64 t, .string (bs k), .string ⟨#[]⟩, .slice none 0 0], .int .i64 (-1)]) (by simp [results, Tryz.results219, go_sem, r0, r1, r2, r3]) rfl ?_
        exact RefEnds.bad hsp.out ((((U0.out.setCell (Nat.le_refl _) _).setCell (Nat.le_refl _) _).setCell (Nat.le_refl _) _).setCell (Nat.le_refl _) _) ⟨_, _, _, _, _, _, rfl⟩ rfl
      · have hd2 : ((nn : Int) % 2 == 1) = true := by simp; omega
        clear hb hn0 hel'
        go_wp2
        (try simp only [Exit.inBlock, Exit.then])
        refine bodyPost_ret (v := .tuple #[.agg #[.int .i64 t, .string (bs k), .string ⟨#[]⟩, .slice none 0 0], .int .i64 (-1)]) (by simp [results, Tryz.results219, go_sem, r0, r1, r2, r3]) rfl ?_
        exact RefEnds.bad hsp.out ((((U0.out.setCell (Nat.le_refl _) _).setCell (Nat.le_refl _) _).setCell (Nat.le_refl _) _).setCell (Nat.le_refl _) _) ⟨_, _, _, _, _, _, rfl⟩ rfl
    obtain ⟨hn0, hfit⟩ := hb
    have hsp := hid (show spec = some (mkE n t k (trimB (padB k) (win s (a + 8) (a + 8 + nn))) [], win s (a + 8 + nn) z) by rw [hel'.out, if_neg hks.out, if_pos ⟨hn0, hfit⟩])
    have hd2 : ((nn : Int) % 2 == 1) = false := by simp; omega
    have hd3 : decide ((z : Int) < (a : Int) + 8 + (nn : Int)) = false := by simp; omega
    clear hel' hn0
    have hRh := hid hR0
    have hXh := hid hX0
    go_wp2_with fail
    clear r0 r1 r2 r3 x0 x1 x2 x3 s0 s1 s2 s3 y0 y1 y2 y3 hR0 hX0
    go_loopw [14] (fun kk wr => ∃ j : Nat, a + 8 ≤ j ∧ j ≤ a + 8 + nn ∧ kk = .int .i64 j ∧ Hid (trimB (padB k) (win s (a + 8) (a + 8 + nn)) = trimB (padB k) (win s (a + 8) j)) ∧ Hid (Below w.heap.size w wr) ∧ Hid (Four wr w.heap.size (.int .i64 0) (.string ⟨#[]⟩) (.string ⟨#[]⟩) (.slice none 0 0)) ∧ Hid (Four wr (w.heap.size + 1) (.int .i64 t) (.string (bs k)) (.string ⟨#[]⟩) (.slice none 0 0))) (fun kk _ => (intOf kk).toNat)
    case atStart => exact ⟨a + 8 + nn, by omega, Nat.le_refl _, by go_num, rfl, U0, hRh, hXh⟩
    case round =>
      obtain ⟨j, hj1, hj2, rfl, htr, hup, hR, hX⟩ := hrel
      obtain ⟨⟨r0, r1, r2, r3⟩, s0, s1, s2, s3⟩ := hR.out.cells
      obtain ⟨⟨x0, x1, x2, x3⟩, y0, y1, y2, y3⟩ := hX.out.cells
      have hwa : IntKind.i64.wrap ((a : Int) + 8) = (a : Int) + 8 := by rw [IntKind.wrap_i64]; omega
      by_cases hgo : a + 8 < j
      case pos =>
        obtain ⟨j', rfl⟩ : ∃ j', j = j' + 1 := ⟨j - 1, by omega⟩
        have hlt : j' < s.length := by omega
        have htest := byte_test s k j' hlt
        have hwj : IntKind.i64.wrap (((j' + 1 : Nat) : Int) - 1) = (j' : Int) := by rw [IntKind.wrap_i64]; omega
        have hwj2 : IntKind.i64.wrap ((j' : Int) + 1 - 1) = (j' : Int) := by rw [IntKind.wrap_i64]; omega
        have hdj : decide ((a : Int) + 8 < ((j' + 1 : Nat) : Int)) = true := by simp; omega
        have hdj2 : decide ((a : Int) + 8 < (j' : Int) + 1) = true := by simp; omega
        by_cases hp : s[j'] = padB k
        case pos =>
          have htr2 := hid (htr.out.trans (trim_pad hlt (by omega) hp))
          rw [decide_eq_true hp] at htest
          clear hp htr
          go_wp2_with fail
          go_quiet ((go_at_call 149; exact Calls.quiet_of_same (rpad_any _ k)))
          go_wp2
          go_roundw
          case rel => exact ⟨j', by omega, by omega, by go_num, htr2, below_drewN hup.out _, hR, hX⟩
          case measure => simp [intOf]
        have htr2 := hid (htr.out.trans (trim_else hlt (by omega) hp))
        rw [decide_eq_false hp] at htest
        clear hp htr
        go_wp2_with fail
        go_quiet ((go_at_call 149; exact Calls.quiet_of_same (rpad_any _ k)))
        have hsl := bs_slice s (a + 8) (j' + 1) (by omega) (by omega)
        have hq5 : (a : Int) + 8 ≤ (j' : Int) + 1 := by omega
        have hq6 : (j' : Int) + 1 ≤ (s.length : Int) := by omega
        have hq7 : (0 : Int) ≤ (a : Int) + 8 := by omega
        have hRq : Four (wr.drewN nq) w.heap.size (.int .i64 0) (.string ⟨#[]⟩) (.string ⟨#[]⟩) (.slice none 0 0) := hR.out
        have hXq : Four (wr.drewN nq) (w.heap.size + 1) (.int .i64 t) (.string (bs k)) (.string ⟨#[]⟩) (.slice none 0 0) := hX.out
        have hupq := hid (below_drewN hup.out nq)
        generalize wr.drewN nq = wq at hRq hXq hupq ⊢
        clear r0 r1 r2 r3 x0 x1 x2 x3 s0 s1 s2 s3 y0 y1 y2 y3
        obtain ⟨⟨r0, r1, r2, r3⟩, s0, s1, s2, s3⟩ := hRq.cells
        obtain ⟨⟨x0, x1, x2, x3⟩, y0, y1, y2, y3⟩ := hXq.cells
        go_wp2
        (try simp only [Exit.inBlock, Exit.then])
        refine bodyPost_ret (v := .tuple #[.agg #[.int .i64 t, .string (bs k), .string (bs (win s (a + 8) (j' + 1))), .slice none 0 0], .int .i64 ((a : Int) + 8 + (nn : Int))]) (by simp [results, Tryz.results219, go_sem, r0, r1, r2, r3]) rfl ?_
        obtain ⟨bl', hb1, hb3, hce⟩ := CE.mk (t := t) (k := k) (v := win s (a + 8) (j' + 1)) (OwI.nil (after wq (w.heap.size + 1) 2 w.heap.size (.string (bs (win s (a + 8) (j' + 1)))) (.int .i64 t) (.string (bs k)) (.string (bs (win s (a + 8) (j' + 1)))) (.slice none 0 0)) (n - 1))
        exact RefEnds.ok (x := mkE n t k (win s (a + 8) (j' + 1)) []) (b := a + 8 + nn) (by rw [hsp.out, htr2.out]) (((((hupq.out.setCell (by simp) _).setCell (Nat.le_refl _) _).setCell (Nat.le_refl _) _).setCell (Nat.le_refl _) _).setCell (Nat.le_refl _) _) rfl hfit (ret_vi (by omega)) ⟨bl', ⟨_, _, _, _, _, _, rfl, hce⟩, hb3 List.nodup_nil, fun j hj => nomatch hb1 j hj⟩
      case neg =>
        have hja : j = a + 8 := by omega
        have htr2 := hid (htr.out.trans (show trimB (padB k) (win s (a + 8) j) = win s (a + 8) j by rw [hja, win_self _ _ (by omega)]; rfl))
        have hdj : decide ((a : Int) + 8 < (j : Int)) = false := by simp; omega
        clear hja htr
        go_wp2_with fail
        go_quiet (fail)
        have hsl := bs_slice s (a + 8) (j) (by omega) (by omega)
        have hq5 : (a : Int) + 8 ≤ (j : Int) := by omega
        have hq6 : (j : Int) ≤ (s.length : Int) := by omega
        have hq7 : (0 : Int) ≤ (a : Int) + 8 := by omega
        have hRq : Four (wr.drewN nq) w.heap.size (.int .i64 0) (.string ⟨#[]⟩) (.string ⟨#[]⟩) (.slice none 0 0) := hR.out
        have hXq : Four (wr.drewN nq) (w.heap.size + 1) (.int .i64 t) (.string (bs k)) (.string ⟨#[]⟩) (.slice none 0 0) := hX.out
        have hupq := hid (below_drewN hup.out nq)
        generalize wr.drewN nq = wq at hRq hXq hupq ⊢
        clear r0 r1 r2 r3 x0 x1 x2 x3 s0 s1 s2 s3 y0 y1 y2 y3
        obtain ⟨⟨r0, r1, r2, r3⟩, s0, s1, s2, s3⟩ := hRq.cells
        obtain ⟨⟨x0, x1, x2, x3⟩, y0, y1, y2, y3⟩ := hXq.cells
        go_wp2
        (try simp only [Exit.inBlock, Exit.then])
        refine bodyPost_ret (v := .tuple #[.agg #[.int .i64 t, .string (bs k), .string (bs (win s (a + 8) (j))), .slice none 0 0], .int .i64 ((a : Int) + 8 + (nn : Int))]) (by simp [results, Tryz.results219, go_sem, r0, r1, r2, r3]) rfl ?_
        obtain ⟨bl', hb1, hb3, hce⟩ := CE.mk (t := t) (k := k) (v := win s (a + 8) (j)) (OwI.nil (after wq (w.heap.size + 1) 2 w.heap.size (.string (bs (win s (a + 8) (j)))) (.int .i64 t) (.string (bs k)) (.string (bs (win s (a + 8) (j)))) (.slice none 0 0)) (n - 1))
        exact RefEnds.ok (x := mkE n t k (win s (a + 8) (j)) []) (b := a + 8 + nn) (by rw [hsp.out, htr2.out]) (((((hupq.out.setCell (by simp) _).setCell (Nat.le_refl _) _).setCell (Nat.le_refl _) _).setCell (Nat.le_refl _) _).setCell (Nat.le_refl _) _) rfl hfit (ret_vi (by omega)) ⟨bl', ⟨_, _, _, _, _, _, rfl, hce⟩, hb3 List.nodup_nil, fun j hj => nomatch hb1 j hj⟩
theorem relement_all : ∀ m, ElR m
  | 0 => fun n w s a z hs haz hz hm => relement_short n 0 w s a z hs hz haz (by omega) (by
    unfold one
    cases tg (win s a z) with
    | none => rfl
    | some p => rfl)
  | m + 1 => relement_any m (relement_all m)
end Go.Proofs.YtaokifbpakbgdaaGreatDoor

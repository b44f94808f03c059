/-
  Package folioref, the document's own answer on data sets: the items of a sequence from a place on.
-/
import Derived.Test.YtaokifbpakbgdaaGreatDoorPut16
import Derived.Maps.AppendAt
namespace Go.Proofs.YtaokifbpakbgdaaGreatDoor
open Go.RowKit

set_option maxHeartbeats 2000000 in
set_option maxRecDepth 20000 in
theorem ritems_open (m : Nat) (H : ElR m) (n : Nat) (w : World) (s : By) (a z : Nat) (hs : s.length ≤ 16384) (haz : a ≤ z) (hz : z ≤ s.length) (hm : z - a < m + 4) :
    Calls Tryz.prog 263 #[.string (bs s), .int .i64 a, .int .i64 z, .int .i64 4294967295] w (RefEnds s z w (lgN 4294893789 (itP (elP m n)) 4294967295 (win s a z)) badN fun w' v l => ∃ bl, OwI w' n v l bl ∧ New w w' bl) := by
  obtain ⟨i0, hi, hz0, hz1, hz2⟩ := info_parts info_it
  have HI := hid hi
  clear hi
  have hE : Eats (itP (elP m n)) := itP_eats (elP_eats m n)
  have hM := itP_mark (elP m n)
  rw [lgN_open]
  have hfinal : Hid (∀ b l, b ≤ z → setP true 4294893789 (itP (elP m n)) (win s a z) = some (l, win s b z) → setP true 4294893789 (itP (elP m n)) (win s a z) = some (l, win s b z) ∧ b ≤ z) := fun b l hb h => ⟨h, hb⟩
  have hnothing : Hid (setP true 4294893789 (itP (elP m n)) (win s a z) = none → setP true 4294893789 (itP (elP m n)) (win s a z) = none) := fun h => h
  have haz' : a ≤ z := haz
  have hzs : z ≤ s.length := hz
  go_enter Tryz.func263, Tryz.ntmps263
  go_wp2_with fail
  go_loopw [1, 11] (fun at_ v wr => ∃ (b : Nat) (done : Its n) (xs : List Value) (cs : List Nat), at_ = .int .i64 b ∧ a ≤ b ∧ b ≤ z ∧ Hid (setP true 4294893789 (itP (elP m n)) (win s a z) = (setP true 4294893789 (itP (elP m n)) (win s b z)).map (fun p => (done ++ p.1, p.2))) ∧ Hid (done.length + (z - b) ≤ z - a) ∧ Hid (Below w.heap.size w wr) ∧
      Hid (wr.ownsRow 0 182 1 v done.length xs) ∧ Hid (Ls 1 (fun c s b => ∃ sv, c = [sv] ∧ Ow wr n sv s b) xs done cs) ∧ Hid (New w wr (v.ownBlock.toList ++ cs))) (fun at_ _ _ => z - (intOf at_).toNat)
  case atStart => exact ⟨a, [], [], [], rfl, Nat.le_refl _, haz', map_id_nil _, by unfold Hid; simp, Below.refl _ _, World.ownsRow_nil _ _ _ _, ⟨rfl, rfl⟩, New.nil _ _⟩
  case round =>
    obtain ⟨b, done, xs, cs, rfl, hab, hbz, hspec, hlen, hup, hown, hes, hnew⟩ := hrel
    have hwl := hid (win_length (s := s) (a := b) hzs)
    cases hmk : markB 4294893789 (win s b z) with
    | true =>
      have h8 : b + 8 ≤ z := by
        rw [markB_win _ hzs hbz] at hmk
        exact (of_decide_eq_true hmk).1
      have hsp := hid (hfinal.out (b + 8) done h8 (by rw [hspec.out, setP_mark hE hmk, win_drop]; simp))
      have c1 := rmark_any wr s b z 4294893789 hs hbz hzs
      rw [hmk] at c1
      clear hmk
      go_wp2_with fail
      go_at_call 218
      refine c1.mono ?_
      clear c1
      rintro e w1 ⟨rfl, rfl⟩
      go_wp2
      go_ret2
      exact RefEnds.ok hsp.out.1 hup.out rfl hsp.out.2 (ret_vi (by omega)) ⟨_, ⟨xs, cs, hown.out, hes.out, rfl⟩, hnew.out⟩
    | false =>
      have hcase : (true = true ∧ markB 4294893789 (win s b z) = false) ∨ (true = false ∧ win s b z ≠ []) := Or.inl ⟨rfl, hmk⟩
      have c1 := rmark_any wr s b z 4294893789 hs hbz hzs
      rw [hmk] at c1
      clear hmk
      have hnone := hid (fun h => setP_none (M := 4294893789) (f := itP (elP m n)) hE hcase h)
      have hsome := hid (fun x r h => setP_one (M := 4294893789) (f := itP (elP m n)) (x := x) (r := r) hE hM hcase h)
      have heats := hid (fun x r h => one_eats (f := itP (elP m n)) (s := win s b z) (x := x) (r := r) hE h)
      have hone := one_it (f := elP m n) (s := s) (a := b) (e := z) hzs hbz
      clear hcase
      by_cases h8 : b + 8 ≤ z
      case neg =>
        have hn0 := hid (hnothing.out (by rw [hspec.out, hnone.out (by rw [hone, if_neg (fun e => h8 e.1)])]; rfl))
        clear hnone hsome heats hone hnothing hfinal
        go_wp2_with fail
        go_at_call 218
        refine c1.mono ?_
        clear c1
        rintro e w1 ⟨rfl, rfl⟩
        go_wp2
        go_ret2
        exact RefEnds.bad hn0.out hup.out rfl rfl
      have c2 := rtagAt_any wr s b hs (by omega)
      have c3 := rnum_any wr s (b + 4) 4 hs (by decide) (by omega)
      have hnl := numA_lt (s := s) (a := b + 4) (k := 4) (by omega)
      rw [show (256 : Nat) ^ 4 = 4294967296 from rfl] at hnl
      generalize tagA s b = t at c2 hone
      generalize numA s (b + 4) 4 = nn at c3 hone hnl
      have hd1 : ((t : Int) != 4294893568) = !decide (t = 4294893568) := by
        rw [Bool.eq_iff_iff]; simp; omega
      by_cases ht : t = 4294893568
      case neg =>
        have hn0 := hid (hnothing.out (by rw [hspec.out, hnone.out (by rw [hone, if_neg (fun e => ht e.2)])]; rfl))
        rw [decide_eq_false ht] at hd1
        clear hnone hsome heats hone hnothing hfinal ht
        go_wp2_with fail
        go_at_call 218
        refine c1.mono ?_
        clear c1
        rintro e w1 ⟨rfl, rfl⟩
        go_wp2_with fail
        go_at_call 261
        refine c2.mono ?_
        clear c2
        rintro e w2 ⟨rfl, rfl⟩
        go_wp2_with fail
        go_at_call 262
        refine c3.mono ?_
        clear c3
        rintro e w2 ⟨rfl, rfl⟩
        go_wp2
        go_ret2
        exact RefEnds.bad hn0.out hup.out rfl rfl
      rw [decide_eq_true ht] at hd1
      rw [if_pos ⟨h8, ht⟩] at hone
      clear ht
      by_cases hnn : nn = 4294967295
      · skip
        have hd2 : ((nn : Int) != 4294967295) = false := by simp; omega
        have hd3 : ((nn : Int) == 4294967295) = true := by simp; omega
        rw [hnn, lgN_open] at hone
        have hres : Hid (∀ x b2, b2 ≤ z → setP true 4294893581 (elP m n) (win s (b + 8) z) = some (x, win s b2 z) → one (itP (elP m n)) (win s b z) = some (x, win s b2 z) ∧ b2 ≤ z) := fun x b2 hb h => ⟨hone.trans h, hb⟩
        have hres0 : Hid (setP true 4294893581 (elP m n) (win s (b + 8) z) = none → one (itP (elP m n)) (win s b z) = none) := fun h => hone.trans h
        have hto : b + 8 ≤ z := h8
        have hts : z ≤ s.length := hzs
        have htm : z - (b + 8) < m + 4 := by omega
        clear hone hnn
        go_wp2_with fail
        go_at_call 218
        refine c1.mono ?_
        clear c1
        rintro e w1 ⟨rfl, rfl⟩
        go_wp2_with fail
        go_at_call 261
        refine c2.mono ?_
        clear c2
        rintro e w2 ⟨rfl, rfl⟩
        go_wp2_with fail
        go_at_call 262
        refine c3.mono ?_
        clear c3
        rintro e w3 ⟨rfl, rfl⟩
        go_wp2_with fail
        go_at_call 160
        refine (rset_any m H n _ s (b + 8) z true hs hto hts htm).mono ?_
        generalize hset : setP true 4294893581 (elP m n) (win s (b + 8) z) = oo at hres hres0
        clear hset
        cases oo with
        | none =>
          have hn0 := hid (hnothing.out (by rw [hspec.out, hnone.out (hres0.out rfl)]; rfl))
          rintro e w4 ⟨u4, v, rfl, rfl⟩
          have U4 := hid (hup.out.trans (u4.mono hup.out.size))
          clear u4 hnone hsome heats hres hres0 hnothing hfinal
          go_wp2
          go_ret2
          exact RefEnds.bad hn0.out U4.out rfl rfl
        | some q =>
          obtain ⟨x, r⟩ := q
          rintro e w4 ⟨u4, v, b2, hr, hb2, rfl, bl, how, hbl⟩
          obtain ⟨ho1, hb3⟩ := hres.out x b2 hb2 (by rw [hr])
          have hs0 := hid (hsome.out _ _ ho1)
          have hl0 := heats.out _ _ ho1
          rw [hwl.out, win_length hzs] at hl0
          clear hnone hsome heats hres hres0 hr ho1
          obtain ⟨adx, capx, rfl⟩ := how.slice
          have hold := hnew.out.below u4
          have hown4 := hid (ownsRow_keep hown.out (fun j hj => hold j (List.mem_append_left _ hj)))
          have hes4 := hid (hes.out.mono (R' := fun c s b => ∃ sv, c = [sv] ∧ Ow w4 n sv s b) (fun c y b' hb' _ hr => by
            obtain ⟨sv, e1, e2⟩ := hr
            exact ⟨sv, e1, e2.keep _ _ _ _ (fun j hj => hold j (List.mem_append_right _ (hb' j hj)))⟩))
          have hx4 : Hid (∃ sv, [Value.slice adx x.length capx] = [sv] ∧ Ow w4 n sv x bl) := ⟨_, rfl, how⟩
          have hnew4 := hid (New.add (hnew.out) hbl hup.out.size u4.size)
          have U4 := hid (hup.out.trans (u4.mono hup.out.size))
          clear hold u4 how hbl
          go_wp2_with (at_builtin; refine wpList_append_sep _ rfl _ _ 71 rfl 182 i0 _ 1 24 Tryz.underlying71 HI.out hz0 hz1 hz2 rfl (by decide) _ _ _ rfl (hown4.out.alloc _) ⟨w4.heap.size, 0, none⟩ 1 1 [.slice adx x.length capx] rfl rfl (cell_one_new _ _ _) (by simp [Value.oneCell']) (by unfold maxLen; have := hlen.out; omega) (by have := hlen.out; omega) ?_)
          intro v' w5 hown' hg hv
          have R := hid (Row.push (R := fun w c s b => ∃ sv, c = [sv] ∧ Ow w n sv s b) (fun _ _ _ _ _ h k => by
            obtain ⟨sv, e1, e2⟩ := h
            exact ⟨sv, e1, e2.keep _ _ _ _ k⟩) hes4.out rfl hx4.out U4.out.size hnew4.out hown' hg hv)
          have U5 := hid ((UpB.of_below (b := w.heap.size) (Below.alloc U4.out U4.out.size (.cells #[.slice adx x.length capx] 182))).grown hg (fun k hk => Or.inr ((hnew.out.2 k (List.mem_append_left _ (by rw [hk]; simp))).1)) |>.below (Nat.le_refl _) (Nat.le_refl _))
          have H1 : Hid (setP true 4294893789 (itP (elP m n)) (win s a z) = (setP true 4294893789 (itP (elP m n)) (win s b2 z)).map (fun p => ((done ++ [x]) ++ p.1, p.2))) := by
            unfold Hid
            rw [hspec.out, hs0.out]
            cases setP true 4294893789 (itP (elP m n)) (win s b2 z) <;> simp
          have H2 : Hid ((done ++ [x]).length + (z - b2) ≤ z - a) := by
            have := hlen.out
            unfold Hid
            rw [List.length_append, List.length_singleton]
            omega
          have hab2 : a ≤ b2 := by omega
          clear hown' hg hv
          go_wp2
          go_roundw
          case rel => first | exact ⟨b2, done ++ [x], _, _, rfl, hab2, hb3, H1, H2, U5, R.out.2.1, R.out.1, R.out.2.2⟩ | ((repeat apply Exists.intro); exact ⟨⟨b2, done ++ [x], _, _, rfl, hab2, hb3, H1, H2, U5, R.out.2.1, R.out.1, R.out.2.2⟩, rfl⟩)
          case measure => simp [intOf]; omega
      · by_cases hfit : b + 8 + nn ≤ z
        case neg =>
          have hn0 := hid (hnothing.out (by rw [hspec.out, hnone.out (by rw [hone, lgN_short hzs h8 hnn hfit])]; rfl))
          have hd2 : ((nn : Int) != 4294967295) = true := by simp; omega
          have hd4 : decide ((z : Int) < (b : Int) + 8 + (nn : Int)) = true := by simp; omega
          clear hnone hsome heats hone hnothing hfinal hnn
          go_wp2_with fail
          go_at_call 218
          refine c1.mono ?_
          clear c1
          rintro e w1 ⟨rfl, rfl⟩
          go_wp2_with fail
          go_at_call 261
          refine c2.mono ?_
          clear c2
          rintro e w2 ⟨rfl, rfl⟩
          go_wp2_with fail
          go_at_call 262
          refine c3.mono ?_
          clear c3
          rintro e w3 ⟨rfl, rfl⟩
          go_wp2
          go_ret2
          exact RefEnds.bad hn0.out hup.out rfl rfl
        have hd4 : decide ((z : Int) < (b : Int) + 8 + (nn : Int)) = false := by simp; omega
        have hd2 : ((nn : Int) != 4294967295) = true := by simp; omega
        have hd3 : ((nn : Int) == 4294967295) = false := by simp; omega
        rw [lgN_closed hzs h8 hnn hfit] at hone
        have hres : Hid (∀ x b2, b2 ≤ b + 8 + nn → setP false 4294893581 (elP m n) (win s (b + 8) (b + 8 + nn)) = some (x, win s b2 (b + 8 + nn)) → one (itP (elP m n)) (win s b z) = some (x, win s b2 z) ∧ b2 ≤ z) := fun x b2 hb h => by
          have hr : (win s b2 (b + 8 + nn)).length = 0 := by
            unfold setP at h
            simp only [Bool.false_eq_true, if_false, Option.map_eq_some_iff, Prod.mk.injEq] at h
            obtain ⟨_, _, _, h⟩ := h
            rw [← h]; rfl
          rw [win_length (by omega)] at hr
          obtain rfl : b2 = b + 8 + nn := by omega
          rw [hone, h]
          exact ⟨rfl, hfit⟩
        have hres0 : Hid (setP false 4294893581 (elP m n) (win s (b + 8) (b + 8 + nn)) = none → one (itP (elP m n)) (win s b z) = none) := fun h => by rw [hone, h]; rfl
        have hto : b + 8 ≤ b + 8 + nn := by omega
        have hts : b + 8 + nn ≤ s.length := by omega
        have htm : b + 8 + nn - (b + 8) < m + 4 := by omega
        clear hone hnn
        go_wp2_with fail
        go_at_call 218
        refine c1.mono ?_
        clear c1
        rintro e w1 ⟨rfl, rfl⟩
        go_wp2_with fail
        go_at_call 261
        refine c2.mono ?_
        clear c2
        rintro e w2 ⟨rfl, rfl⟩
        go_wp2_with fail
        go_at_call 262
        refine c3.mono ?_
        clear c3
        rintro e w3 ⟨rfl, rfl⟩
        go_wp2_with fail
        go_at_call 160
        refine (rset_any m H n _ s (b + 8) (b + 8 + nn) false hs hto hts htm).mono ?_
        generalize hset : setP false 4294893581 (elP m n) (win s (b + 8) (b + 8 + nn)) = oo at hres hres0
        clear hset
        cases oo with
        | none =>
          have hn0 := hid (hnothing.out (by rw [hspec.out, hnone.out (hres0.out rfl)]; rfl))
          rintro e w4 ⟨u4, v, rfl, rfl⟩
          have U4 := hid (hup.out.trans (u4.mono hup.out.size))
          clear u4 hnone hsome heats hres hres0 hnothing hfinal
          go_wp2
          go_ret2
          exact RefEnds.bad hn0.out U4.out rfl rfl
        | some q =>
          obtain ⟨x, r⟩ := q
          rintro e w4 ⟨u4, v, b2, hr, hb2, rfl, bl, how, hbl⟩
          obtain ⟨ho1, hb3⟩ := hres.out x b2 hb2 (by rw [hr])
          have hs0 := hid (hsome.out _ _ ho1)
          have hl0 := heats.out _ _ ho1
          rw [hwl.out, win_length hzs] at hl0
          clear hnone hsome heats hres hres0 hr ho1
          obtain ⟨adx, capx, rfl⟩ := how.slice
          have hold := hnew.out.below u4
          have hown4 := hid (ownsRow_keep hown.out (fun j hj => hold j (List.mem_append_left _ hj)))
          have hes4 := hid (hes.out.mono (R' := fun c s b => ∃ sv, c = [sv] ∧ Ow w4 n sv s b) (fun c y b' hb' _ hr => by
            obtain ⟨sv, e1, e2⟩ := hr
            exact ⟨sv, e1, e2.keep _ _ _ _ (fun j hj => hold j (List.mem_append_right _ (hb' j hj)))⟩))
          have hx4 : Hid (∃ sv, [Value.slice adx x.length capx] = [sv] ∧ Ow w4 n sv x bl) := ⟨_, rfl, how⟩
          have hnew4 := hid (New.add (hnew.out) hbl hup.out.size u4.size)
          have U4 := hid (hup.out.trans (u4.mono hup.out.size))
          clear hold u4 how hbl
          go_wp2_with (at_builtin; refine wpList_append_sep _ rfl _ _ 71 rfl 182 i0 _ 1 24 Tryz.underlying71 HI.out hz0 hz1 hz2 rfl (by decide) _ _ _ rfl (hown4.out.alloc _) ⟨w4.heap.size, 0, none⟩ 1 1 [.slice adx x.length capx] rfl rfl (cell_one_new _ _ _) (by simp [Value.oneCell']) (by unfold maxLen; have := hlen.out; omega) (by have := hlen.out; omega) ?_)
          intro v' w5 hown' hg hv
          have R := hid (Row.push (R := fun w c s b => ∃ sv, c = [sv] ∧ Ow w n sv s b) (fun _ _ _ _ _ h k => by
            obtain ⟨sv, e1, e2⟩ := h
            exact ⟨sv, e1, e2.keep _ _ _ _ k⟩) hes4.out rfl hx4.out U4.out.size hnew4.out hown' hg hv)
          have U5 := hid ((UpB.of_below (b := w.heap.size) (Below.alloc U4.out U4.out.size (.cells #[.slice adx x.length capx] 182))).grown hg (fun k hk => Or.inr ((hnew.out.2 k (List.mem_append_left _ (by rw [hk]; simp))).1)) |>.below (Nat.le_refl _) (Nat.le_refl _))
          have H1 : Hid (setP true 4294893789 (itP (elP m n)) (win s a z) = (setP true 4294893789 (itP (elP m n)) (win s b2 z)).map (fun p => ((done ++ [x]) ++ p.1, p.2))) := by
            unfold Hid
            rw [hspec.out, hs0.out]
            cases setP true 4294893789 (itP (elP m n)) (win s b2 z) <;> simp
          have H2 : Hid ((done ++ [x]).length + (z - b2) ≤ z - a) := by
            have := hlen.out
            unfold Hid
            rw [List.length_append, List.length_singleton]
            omega
          have hab2 : a ≤ b2 := by omega
          clear hown' hg hv
          go_wp2
          go_roundw
          case rel => first | exact ⟨b2, done ++ [x], _, _, rfl, hab2, hb3, H1, H2, U5, R.out.2.1, R.out.1, R.out.2.2⟩ | ((repeat apply Exists.intro); exact ⟨⟨b2, done ++ [x], _, _, rfl, hab2, hb3, H1, H2, U5, R.out.2.1, R.out.1, R.out.2.2⟩, rfl⟩)
          case measure => simp [intOf]; omega
set_option maxHeartbeats 2000000 in
set_option maxRecDepth 20000 in
theorem ritems_closed (m : Nat) (H : ElR m) (n : Nat) (w : World) (s : By) (a z : Nat) (k : Nat) (hs : s.length ≤ 16384) (haz : a ≤ z) (hz : z ≤ s.length) (hm : z - a < m + 4) (hk : k ≠ 4294967295) (hk2 : a + k ≤ z) :
    Calls Tryz.prog 263 #[.string (bs s), .int .i64 a, .int .i64 z, .int .i64 (k : Nat)] w (RefEnds s z w (lgN 4294893789 (itP (elP m n)) k (win s a z)) badN fun w' v l => ∃ bl, OwI w' n v l bl ∧ New w w' bl) := by
  obtain ⟨i0, hi, hz0, hz1, hz2⟩ := info_parts info_it
  have HI := hid hi
  clear hi
  have hE : Eats (itP (elP m n)) := itP_eats (elP_eats m n)
  have hM := itP_mark (elP m n)
  obtain ⟨zz, ez⟩ : ∃ zz, zz = a + k := ⟨_, rfl⟩
  have hfinal : Hid (∀ b l, b ≤ zz → setP false 4294893789 (itP (elP m n)) (win s a zz) = some (l, win s b zz) → lgN 4294893789 (itP (elP m n)) k (win s a z) = some (l, win s b z) ∧ b ≤ z) := fun b l hb h => by
    have hr : (win s b zz).length = 0 := by
      unfold setP at h
      simp only [Bool.false_eq_true, if_false, Option.map_eq_some_iff, Prod.mk.injEq] at h
      obtain ⟨_, _, _, h⟩ := h
      rw [← h]; rfl
    rw [win_length (by omega)] at hr
    obtain rfl : b = zz := by omega
    rw [lgN_closed hz haz hk hk2, ← ez, h]
    exact ⟨rfl, by omega⟩
  have hnothing : Hid (setP false 4294893789 (itP (elP m n)) (win s a zz) = none → lgN 4294893789 (itP (elP m n)) k (win s a z) = none) := fun h => by
    rw [lgN_closed hz haz hk hk2, ← ez, h]; rfl
  have haz' : a ≤ zz := by omega
  have hzz : zz ≤ z := by omega
  have hzs : zz ≤ s.length := by omega
  have ez2 : (a : Int) + (k : Int) = (zz : Int) := by omega
  have hkk : ((k : Int) == 4294967295) = false := by simp; omega
  have hkz : decide (z < zz) = false := by simp; omega
  have hkz2 : decide ((z : Int) < (zz : Int)) = false := by simp; omega
  clear ez hk hk2
  go_enter Tryz.func263, Tryz.ntmps263
  go_wp2_with fail
  go_loopw [1, 11] (fun at_ v wr => ∃ (b : Nat) (done : Its n) (xs : List Value) (cs : List Nat), at_ = .int .i64 b ∧ a ≤ b ∧ b ≤ zz ∧ Hid (setP false 4294893789 (itP (elP m n)) (win s a zz) = (setP false 4294893789 (itP (elP m n)) (win s b zz)).map (fun p => (done ++ p.1, p.2))) ∧ Hid (done.length + (zz - b) ≤ zz - a) ∧ Hid (Below w.heap.size w wr) ∧
      Hid (wr.ownsRow 0 182 1 v done.length xs) ∧ Hid (Ls 1 (fun c s b => ∃ sv, c = [sv] ∧ Ow wr n sv s b) xs done cs) ∧ Hid (New w wr (v.ownBlock.toList ++ cs))) (fun at_ _ _ => zz - (intOf at_).toNat)
  case atStart => exact ⟨a, [], [], [], rfl, Nat.le_refl _, haz', map_id_nil _, by unfold Hid; simp, Below.refl _ _, World.ownsRow_nil _ _ _ _, ⟨rfl, rfl⟩, New.nil _ _⟩
  case round =>
    obtain ⟨b, done, xs, cs, rfl, hab, hbz, hspec, hlen, hup, hown, hes, hnew⟩ := hrel
    have hwl := hid (win_length (s := s) (a := b) hzs)
    by_cases hbe : b = zz
    · subst hbe
      have hsp := hid (hfinal.out b done (Nat.le_refl _) (by rw [hspec.out, win_self _ _ hzs, setP_end]; simp))
      go_wp2
      go_ret2
      exact RefEnds.ok hsp.out.1 hup.out rfl hsp.out.2 (ret_vi rfl) ⟨_, ⟨xs, cs, hown.out, hes.out, rfl⟩, hnew.out⟩
    · have hcase : (false = true ∧ markB 4294893789 (win s b zz) = false) ∨ (false = false ∧ win s b zz ≠ []) := Or.inr ⟨rfl, fun e => by
        have h1 := hwl.out
        rw [e, List.length_nil] at h1
        omega⟩
      have hne : ((b : Int) == (zz : Int)) = false := by simp; omega
      have hbe' := hid hbe
      clear hbe
      have hnone := hid (fun h => setP_none (M := 4294893789) (f := itP (elP m n)) hE hcase h)
      have hsome := hid (fun x r h => setP_one (M := 4294893789) (f := itP (elP m n)) (x := x) (r := r) hE hM hcase h)
      have heats := hid (fun x r h => one_eats (f := itP (elP m n)) (s := win s b zz) (x := x) (r := r) hE h)
      have hone := one_it (f := elP m n) (s := s) (a := b) (e := zz) hzs hbz
      clear hcase
      by_cases h8 : b + 8 ≤ zz
      case neg =>
        have hn0 := hid (hnothing.out (by rw [hspec.out, hnone.out (by rw [hone, if_neg (fun e => h8 e.1)])]; rfl))
        clear hnone hsome heats hone hnothing hfinal
        go_wp2
        go_ret2
        exact RefEnds.bad hn0.out hup.out rfl rfl
      have c2 := rtagAt_any wr s b hs (by omega)
      have c3 := rnum_any wr s (b + 4) 4 hs (by decide) (by omega)
      have hnl := numA_lt (s := s) (a := b + 4) (k := 4) (by omega)
      rw [show (256 : Nat) ^ 4 = 4294967296 from rfl] at hnl
      generalize tagA s b = t at c2 hone
      generalize numA s (b + 4) 4 = nn at c3 hone hnl
      have hd1 : ((t : Int) != 4294893568) = !decide (t = 4294893568) := by
        rw [Bool.eq_iff_iff]; simp; omega
      by_cases ht : t = 4294893568
      case neg =>
        have hn0 := hid (hnothing.out (by rw [hspec.out, hnone.out (by rw [hone, if_neg (fun e => ht e.2)])]; rfl))
        rw [decide_eq_false ht] at hd1
        clear hnone hsome heats hone hnothing hfinal ht
        go_wp2_with fail
        go_at_call 261
        refine c2.mono ?_
        clear c2
        rintro e w2 ⟨rfl, rfl⟩
        go_wp2_with fail
        go_at_call 262
        refine c3.mono ?_
        clear c3
        rintro e w2 ⟨rfl, rfl⟩
        go_wp2
        go_ret2
        exact RefEnds.bad hn0.out hup.out rfl rfl
      rw [decide_eq_true ht] at hd1
      rw [if_pos ⟨h8, ht⟩] at hone
      clear ht
      by_cases hnn : nn = 4294967295
      · skip
        have hd2 : ((nn : Int) != 4294967295) = false := by simp; omega
        have hd3 : ((nn : Int) == 4294967295) = true := by simp; omega
        rw [hnn, lgN_open] at hone
        have hres : Hid (∀ x b2, b2 ≤ zz → setP true 4294893581 (elP m n) (win s (b + 8) zz) = some (x, win s b2 zz) → one (itP (elP m n)) (win s b zz) = some (x, win s b2 zz) ∧ b2 ≤ zz) := fun x b2 hb h => ⟨hone.trans h, hb⟩
        have hres0 : Hid (setP true 4294893581 (elP m n) (win s (b + 8) zz) = none → one (itP (elP m n)) (win s b zz) = none) := fun h => hone.trans h
        have hto : b + 8 ≤ zz := h8
        have hts : zz ≤ s.length := hzs
        have htm : zz - (b + 8) < m + 4 := by omega
        clear hone hnn
        go_wp2_with fail
        go_at_call 261
        refine c2.mono ?_
        clear c2
        rintro e w2 ⟨rfl, rfl⟩
        go_wp2_with fail
        go_at_call 262
        refine c3.mono ?_
        clear c3
        rintro e w3 ⟨rfl, rfl⟩
        go_wp2_with fail
        go_at_call 160
        refine (rset_any m H n _ s (b + 8) zz true hs hto hts htm).mono ?_
        generalize hset : setP true 4294893581 (elP m n) (win s (b + 8) zz) = oo at hres hres0
        clear hset
        cases oo with
        | none =>
          have hn0 := hid (hnothing.out (by rw [hspec.out, hnone.out (hres0.out rfl)]; rfl))
          rintro e w4 ⟨u4, v, rfl, rfl⟩
          have U4 := hid (hup.out.trans (u4.mono hup.out.size))
          clear u4 hnone hsome heats hres hres0 hnothing hfinal
          go_wp2
          go_ret2
          exact RefEnds.bad hn0.out U4.out rfl rfl
        | some q =>
          obtain ⟨x, r⟩ := q
          rintro e w4 ⟨u4, v, b2, hr, hb2, rfl, bl, how, hbl⟩
          obtain ⟨ho1, hb3⟩ := hres.out x b2 hb2 (by rw [hr])
          have hs0 := hid (hsome.out _ _ ho1)
          have hl0 := heats.out _ _ ho1
          rw [hwl.out, win_length hzs] at hl0
          clear hnone hsome heats hres hres0 hr ho1
          obtain ⟨adx, capx, rfl⟩ := how.slice
          have hold := hnew.out.below u4
          have hown4 := hid (ownsRow_keep hown.out (fun j hj => hold j (List.mem_append_left _ hj)))
          have hes4 := hid (hes.out.mono (R' := fun c s b => ∃ sv, c = [sv] ∧ Ow w4 n sv s b) (fun c y b' hb' _ hr => by
            obtain ⟨sv, e1, e2⟩ := hr
            exact ⟨sv, e1, e2.keep _ _ _ _ (fun j hj => hold j (List.mem_append_right _ (hb' j hj)))⟩))
          have hx4 : Hid (∃ sv, [Value.slice adx x.length capx] = [sv] ∧ Ow w4 n sv x bl) := ⟨_, rfl, how⟩
          have hnew4 := hid (New.add (hnew.out) hbl hup.out.size u4.size)
          have U4 := hid (hup.out.trans (u4.mono hup.out.size))
          clear hold u4 how hbl
          go_wp2_with (at_builtin; refine wpList_append_sep _ rfl _ _ 71 rfl 182 i0 _ 1 24 Tryz.underlying71 HI.out hz0 hz1 hz2 rfl (by decide) _ _ _ rfl (hown4.out.alloc _) ⟨w4.heap.size, 0, none⟩ 1 1 [.slice adx x.length capx] rfl rfl (cell_one_new _ _ _) (by simp [Value.oneCell']) (by unfold maxLen; have := hlen.out; omega) (by have := hlen.out; omega) ?_)
          intro v' w5 hown' hg hv
          have R := hid (Row.push (R := fun w c s b => ∃ sv, c = [sv] ∧ Ow w n sv s b) (fun _ _ _ _ _ h k => by
            obtain ⟨sv, e1, e2⟩ := h
            exact ⟨sv, e1, e2.keep _ _ _ _ k⟩) hes4.out rfl hx4.out U4.out.size hnew4.out hown' hg hv)
          have U5 := hid ((UpB.of_below (b := w.heap.size) (Below.alloc U4.out U4.out.size (.cells #[.slice adx x.length capx] 182))).grown hg (fun k hk => Or.inr ((hnew.out.2 k (List.mem_append_left _ (by rw [hk]; simp))).1)) |>.below (Nat.le_refl _) (Nat.le_refl _))
          have H1 : Hid (setP false 4294893789 (itP (elP m n)) (win s a zz) = (setP false 4294893789 (itP (elP m n)) (win s b2 zz)).map (fun p => ((done ++ [x]) ++ p.1, p.2))) := by
            unfold Hid
            rw [hspec.out, hs0.out]
            cases setP false 4294893789 (itP (elP m n)) (win s b2 zz) <;> simp
          have H2 : Hid ((done ++ [x]).length + (zz - b2) ≤ zz - a) := by
            have := hlen.out
            unfold Hid
            rw [List.length_append, List.length_singleton]
            omega
          have hab2 : a ≤ b2 := by omega
          clear hown' hg hv
          go_wp2
          go_roundw
          case rel => first | exact ⟨b2, done ++ [x], _, _, rfl, hab2, hb3, H1, H2, U5, R.out.2.1, R.out.1, R.out.2.2⟩ | ((repeat apply Exists.intro); exact ⟨⟨b2, done ++ [x], _, _, rfl, hab2, hb3, H1, H2, U5, R.out.2.1, R.out.1, R.out.2.2⟩, rfl⟩)
          case measure => simp [intOf]; omega
      · by_cases hfit : b + 8 + nn ≤ zz
        case neg =>
          have hn0 := hid (hnothing.out (by rw [hspec.out, hnone.out (by rw [hone, lgN_short hzs h8 hnn hfit])]; rfl))
          have hd2 : ((nn : Int) != 4294967295) = true := by simp; omega
          have hd4 : decide ((zz : Int) < (b : Int) + 8 + (nn : Int)) = true := by simp; omega
          clear hnone hsome heats hone hnothing hfinal hnn
          go_wp2_with fail
          go_at_call 261
          refine c2.mono ?_
          clear c2
          rintro e w2 ⟨rfl, rfl⟩
          go_wp2_with fail
          go_at_call 262
          refine c3.mono ?_
          clear c3
          rintro e w3 ⟨rfl, rfl⟩
          go_wp2
          go_ret2
          exact RefEnds.bad hn0.out hup.out rfl rfl
        have hd4 : decide ((zz : Int) < (b : Int) + 8 + (nn : Int)) = false := by simp; omega
        have hd2 : ((nn : Int) != 4294967295) = true := by simp; omega
        have hd3 : ((nn : Int) == 4294967295) = false := by simp; omega
        rw [lgN_closed hzs h8 hnn hfit] at hone
        have hres : Hid (∀ x b2, b2 ≤ b + 8 + nn → setP false 4294893581 (elP m n) (win s (b + 8) (b + 8 + nn)) = some (x, win s b2 (b + 8 + nn)) → one (itP (elP m n)) (win s b zz) = some (x, win s b2 zz) ∧ b2 ≤ zz) := fun x b2 hb h => by
          have hr : (win s b2 (b + 8 + nn)).length = 0 := by
            unfold setP at h
            simp only [Bool.false_eq_true, if_false, Option.map_eq_some_iff, Prod.mk.injEq] at h
            obtain ⟨_, _, _, h⟩ := h
            rw [← h]; rfl
          rw [win_length (by omega)] at hr
          obtain rfl : b2 = b + 8 + nn := by omega
          rw [hone, h]
          exact ⟨rfl, hfit⟩
        have hres0 : Hid (setP false 4294893581 (elP m n) (win s (b + 8) (b + 8 + nn)) = none → one (itP (elP m n)) (win s b zz) = none) := fun h => by rw [hone, h]; rfl
        have hto : b + 8 ≤ b + 8 + nn := by omega
        have hts : b + 8 + nn ≤ s.length := by omega
        have htm : b + 8 + nn - (b + 8) < m + 4 := by omega
        clear hone hnn
        go_wp2_with fail
        go_at_call 261
        refine c2.mono ?_
        clear c2
        rintro e w2 ⟨rfl, rfl⟩
        go_wp2_with fail
        go_at_call 262
        refine c3.mono ?_
        clear c3
        rintro e w3 ⟨rfl, rfl⟩
        go_wp2_with fail
        go_at_call 160
        refine (rset_any m H n _ s (b + 8) (b + 8 + nn) false hs hto hts htm).mono ?_
        generalize hset : setP false 4294893581 (elP m n) (win s (b + 8) (b + 8 + nn)) = oo at hres hres0
        clear hset
        cases oo with
        | none =>
          have hn0 := hid (hnothing.out (by rw [hspec.out, hnone.out (hres0.out rfl)]; rfl))
          rintro e w4 ⟨u4, v, rfl, rfl⟩
          have U4 := hid (hup.out.trans (u4.mono hup.out.size))
          clear u4 hnone hsome heats hres hres0 hnothing hfinal
          go_wp2
          go_ret2
          exact RefEnds.bad hn0.out U4.out rfl rfl
        | some q =>
          obtain ⟨x, r⟩ := q
          rintro e w4 ⟨u4, v, b2, hr, hb2, rfl, bl, how, hbl⟩
          obtain ⟨ho1, hb3⟩ := hres.out x b2 hb2 (by rw [hr])
          have hs0 := hid (hsome.out _ _ ho1)
          have hl0 := heats.out _ _ ho1
          rw [hwl.out, win_length hzs] at hl0
          clear hnone hsome heats hres hres0 hr ho1
          obtain ⟨adx, capx, rfl⟩ := how.slice
          have hold := hnew.out.below u4
          have hown4 := hid (ownsRow_keep hown.out (fun j hj => hold j (List.mem_append_left _ hj)))
          have hes4 := hid (hes.out.mono (R' := fun c s b => ∃ sv, c = [sv] ∧ Ow w4 n sv s b) (fun c y b' hb' _ hr => by
            obtain ⟨sv, e1, e2⟩ := hr
            exact ⟨sv, e1, e2.keep _ _ _ _ (fun j hj => hold j (List.mem_append_right _ (hb' j hj)))⟩))
          have hx4 : Hid (∃ sv, [Value.slice adx x.length capx] = [sv] ∧ Ow w4 n sv x bl) := ⟨_, rfl, how⟩
          have hnew4 := hid (New.add (hnew.out) hbl hup.out.size u4.size)
          have U4 := hid (hup.out.trans (u4.mono hup.out.size))
          clear hold u4 how hbl
          go_wp2_with (at_builtin; refine wpList_append_sep _ rfl _ _ 71 rfl 182 i0 _ 1 24 Tryz.underlying71 HI.out hz0 hz1 hz2 rfl (by decide) _ _ _ rfl (hown4.out.alloc _) ⟨w4.heap.size, 0, none⟩ 1 1 [.slice adx x.length capx] rfl rfl (cell_one_new _ _ _) (by simp [Value.oneCell']) (by unfold maxLen; have := hlen.out; omega) (by have := hlen.out; omega) ?_)
          intro v' w5 hown' hg hv
          have R := hid (Row.push (R := fun w c s b => ∃ sv, c = [sv] ∧ Ow w n sv s b) (fun _ _ _ _ _ h k => by
            obtain ⟨sv, e1, e2⟩ := h
            exact ⟨sv, e1, e2.keep _ _ _ _ k⟩) hes4.out rfl hx4.out U4.out.size hnew4.out hown' hg hv)
          have U5 := hid ((UpB.of_below (b := w.heap.size) (Below.alloc U4.out U4.out.size (.cells #[.slice adx x.length capx] 182))).grown hg (fun k hk => Or.inr ((hnew.out.2 k (List.mem_append_left _ (by rw [hk]; simp))).1)) |>.below (Nat.le_refl _) (Nat.le_refl _))
          have H1 : Hid (setP false 4294893789 (itP (elP m n)) (win s a zz) = (setP false 4294893789 (itP (elP m n)) (win s b2 zz)).map (fun p => ((done ++ [x]) ++ p.1, p.2))) := by
            unfold Hid
            rw [hspec.out, hs0.out]
            cases setP false 4294893789 (itP (elP m n)) (win s b2 zz) <;> simp
          have H2 : Hid ((done ++ [x]).length + (zz - b2) ≤ zz - a) := by
            have := hlen.out
            unfold Hid
            rw [List.length_append, List.length_singleton]
            omega
          have hab2 : a ≤ b2 := by omega
          clear hown' hg hv
          go_wp2
          go_roundw
          case rel => first | exact ⟨b2, done ++ [x], _, _, rfl, hab2, hb3, H1, H2, U5, R.out.2.1, R.out.1, R.out.2.2⟩ | ((repeat apply Exists.intro); exact ⟨⟨b2, done ++ [x], _, _, rfl, hab2, hb3, H1, H2, U5, R.out.2.1, R.out.1, R.out.2.2⟩, rfl⟩)
          case measure => simp [intOf]; omega
theorem ritems_short (w : World) (s : By) (a z k : Nat) (hs : s.length ≤ 16384) (hz : z ≤ s.length) (haz : a ≤ z) (hk : k ≠ 4294967295) (hk3 : k < 4294967296) (hk2 : ¬ a + k ≤ z) :
    Calls Tryz.prog 263 #[.string (bs s), .int .i64 a, .int .i64 z, .int .i64 (k : Nat)] w fun e w' => e = .returned (.tuple #[.slice none 0 0, .int .i64 (-1)]) ∧ w' = w := by
  have hkk : ((k : Int) == 4294967295) = false := by simp; omega
  have hkz : decide ((z : Int) < (a : Int) + (k : Int)) = true := by simp; omega
  clear hk
  go_enter Tryz.func263, Tryz.ntmps263
  go_wp2
  go_ret2
  exact ⟨rfl, rfl⟩
theorem ritems_any (m : Nat) (H : ElR m) (n : Nat) (w : World) (s : By) (a z k : Nat) (hs : s.length ≤ 16384) (haz : a ≤ z) (hz : z ≤ s.length) (hm : z - a < m + 4) (hk : k < 4294967296) :
    Calls Tryz.prog 263 #[.string (bs s), .int .i64 a, .int .i64 z, .int .i64 (k : Nat)] w (RefEnds s z w (lgN 4294893789 (itP (elP m n)) k (win s a z)) badN fun w' v l => ∃ bl, OwI w' n v l bl ∧ New w w' bl) := by
  by_cases h1 : k = 4294967295
  · subst h1
    exact ritems_open m H n w s a z hs haz hz hm
  · by_cases h2 : a + k ≤ z
    · exact ritems_closed m H n w s a z k hs haz hz hm h1 h2
    · refine (ritems_short w s a z k hs hz haz h1 hk h2).mono ?_
      rintro e w' ⟨rfl, rfl⟩
      exact RefEnds.bad (lgN_short hz haz h1 h2) (Below.refl _ _) rfl rfl
end Go.Proofs.YtaokifbpakbgdaaGreatDoor

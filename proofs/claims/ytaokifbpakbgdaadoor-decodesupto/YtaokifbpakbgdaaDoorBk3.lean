/-
  Package foliolaw: a list that came out is written full by its owner, deep inside first.
-/
import Derived.Test.YtaokifbpakbgdaaDoorBk4
import Derived.Test.YtaokifbpakbgdaaDoorLBad
import Derived.Test.YtaokifbpakbgdaaDoorEnc0
import Derived.Maps.AppendAt
namespace Go.Proofs.YtaokifbpakbgdaaDoor
open Go.RowKit

theorem row_slice' {w : World} {T : TypeId} {v : Value} {n : Nat} {X : List Value} (h : w.ownsRow 0 T 1 v n X) : ∃ ad cap, v = .slice ad n cap := by
  rcases h.2 with ⟨rfl, hn⟩ | ⟨g, cap, cur, rfl, _⟩
  · exact ⟨none, 0, by rw [hn]⟩
  · exact ⟨_, _, rfl⟩
theorem info_its : (Tryd.prog.info? 35).map (fun i => (i.zero, i.size, i.bytes)) = some (some (.slice none 0 0), 1, 24) := by kernel_rfl
theorem info_els : (Tryd.prog.info? 22).map (fun i => (i.zero, i.size, i.bytes)) = some (some (.slice none 0 0), 1, 24) := by kernel_rfl
theorem info_it' : (Tryd.prog.info? 52).map (fun i => (i.zero, i.size, i.bytes)) = some (some (.agg #[.slice none 0 0]), 1, 24) := by kernel_rfl
theorem badx_any (w : World) (k : Int) (h0 : 0 ≤ k) (h1 : k ≤ 1152921504606846976) : Calls Tryd.prog 20 #[.int .i64 k] w fun e w' => e = .returned (.agg #[.int .i64 (-1000 - k), .string ⟨#[63, 63]⟩, .string ⟨#[]⟩, .slice none 0 0]) ∧ Below w.heap.size w w' := bad_any w k h0 h1
theorem info_el' : (Tryd.prog.info? 37).map (fun i => (i.zero, i.size, i.bytes)) = some (some (.agg #[.int .i64 0, .string ByteArray.empty, .string ByteArray.empty, .slice none 0 0]), 4, 64) := by kernel_rfl
/-- Four cells of a row of one's own are written. -/
theorem own_set4 {w : World} {T : TypeId} {g n cap kk : Nat} {zs : List Value} {q : Int} (h : w.ownsRow 0 T 4 (.slice (some ⟨g, 0, none⟩) n cap) n zs) (hk : kk < n) (hz : ∀ j, j < kk * 4 → zs[j]? = some (badV q (j % 4))) :
    ∃ zs', (set4 w g (kk * 4) (badV q 0) (badV q 1) (badV q 2) (badV q 3)).ownsRow 0 T 4 (.slice (some ⟨g, 0, none⟩) n cap) n zs' ∧ ∀ j, j < (kk + 1) * 4 → zs'[j]? = some (badV q (j % 4)) := by
  have hl := h.1
  refine ⟨_, own_set (j := kk * 4 + 3) (own_set (j := kk * 4 + 2) (own_set (j := kk * 4 + 1) (own_set (j := kk * 4) h (by omega) _) (by omega) _) (by omega) _) (by omega) _, fun j hj => ?_⟩
  simp only [List.getElem?_set, List.length_set]
  by_cases h3 : kk * 4 + 3 = j
  · rw [if_pos h3, if_pos (by omega), show j % 4 = 3 by omega]
  · rw [if_neg h3]
    by_cases h2 : kk * 4 + 2 = j
    · rw [if_pos h2, if_pos (by omega), show j % 4 = 2 by omega]
    · rw [if_neg h2]
      by_cases h1 : kk * 4 + 1 = j
      · rw [if_pos h1, if_pos (by omega), show j % 4 = 1 by omega]
      · rw [if_neg h1]
        by_cases h0 : kk * 4 = j
        · rw [if_pos h0, if_pos (by omega), show j % 4 = 0 by omega]
        · rw [if_neg h0]
          exact hz j (by omega)
theorem badC_all {zs : List Value} {q : Int} {n : Nat} (hl : zs.length = n * 4) (hz : ∀ j, j < n * 4 → zs[j]? = some (badV q (j % 4))) : zs = badC q n := by
  apply List.ext_getElem?
  intro j
  by_cases h : j < n * 4
  · rw [hz j h, badC_at h]
  · rw [List.getElem?_eq_none (by omega), List.getElem?_eq_none (by rw [badC_length]; omega)]
theorem badJ_set {w : World} {F : Nat → Prop} {q : Int} {zs : List Value} {kk h : Nat} (hz : badJ w F q (zs.take kk)) (hh : F h ∧ Bad1 q w h) : badJ w F q ((zs.set kk (.slice (some ⟨h, 0, none⟩) 1 1)).take (kk + 1)) := by
  intro y hy
  obtain ⟨i, hi⟩ := List.getElem?_of_mem hy
  rw [List.getElem?_take] at hi
  split at hi
  · rename_i hik
    by_cases he : kk = i
    · subst he
      rw [List.getElem?_set] at hi
      simp only [if_true] at hi
      split at hi
      · obtain rfl := Option.some.inj hi
        exact ⟨h, hh.1, rfl, hh.2⟩
      · cases hi
    · rw [List.getElem?_set_ne he] at hi
      refine hz y (List.mem_of_getElem? (i := i) ?_)
      rw [List.getElem?_take, if_pos (by omega)]
      exact hi
  · cases hi
def KC (n : Nat) : Prop := ∀ (w : World) (B : Nat) (E I : List Value) (S : Nat → Prop) (v : Value) (l : List (El (n + 1))) (bl : List Nat) (X : Nat → Prop) (e i : Nat), Bk w B E I S → Ow w (n + 1) v l bl → Full (n + 1) l → Sz (n + 1) l → bl.Nodup → (∀ j ∈ bl, ¬ S j ∧ X j) → (∀ j, X j → j < w.heap.size) →
  E.length = 4 * e → I.length = 4 * i → E.length + I.length + 8 * cnt (n + 1) l ≤ 1099511627776 → Wh w (Fz X S w) E I → Calls Tryd.prog 14 #[ptr B, v] w (KeepEnd w B E I S l bl X)
set_option maxHeartbeats 4000000 in
set_option maxRecDepth 20000 in
theorem keep_step (n : Nat) (H : ∀ m, n = m + 1 → KC m) : KC n := by
  intro w B E I S v l bl X e0 i0 hB hO hfu hsz hnd hbl hX he0 hi0 hcnt hW
  obtain ⟨xs, iv, ys, bd, hD, J⟩ := hO.apart hnd
  obtain ⟨ad, cap, rfl⟩ := hO.slice
  have hblt : Hid (∀ j ∈ bl, ¬ S j ∧ j < w.heap.size) := fun j hj => ⟨(hbl j hj).1, hX j (hbl j hj).2⟩
  have Q0 : Hid (K1 w B E I S (.slice ad l.length cap) l xs iv ys bd bl X (pnd 0 0) w [] [] S) := by
    refine K1.weak (pend := fun _ _ => True) ⟨by rw [List.append_nil, List.append_nil]; exact hB, Kp.refl _ _, fun j hj => Or.inl hj, ?_, hD⟩ (fun _ _ _ => trivial)
    rw [List.append_nil, List.append_nil]
    exact hW.mono (fun j hj => hj.mono (fun j hj => hj.1))
  have hl24 : l.length ≤ 24 := hsz.1
  have HJ := hid J
  have HSZ := hid hsz
  have HBL := hid hbl
  have HX := hid hX
  have HCN := hid hcnt
  have HE0 := hid (And.intro he0 hi0)
  clear hB hO hnd hbl hX hcnt hW hD J hsz he0 hi0
  go_enter Tryd.func14, Tryd.ntmps14
  go_wp2_with fail
  go_loopw [4] (fun iv_ wr => ∃ (k : Nat) (E' I' : List Value) (S' : Nat → Prop), k ≤ l.length ∧ iv_ = .int .i64 k ∧ Hid (K1 w B E I S (.slice ad l.length cap) l xs iv ys bd bl X (pnd k 0) wr E' I' S') ∧ Hid (∃ a b, E'.length = 4 * a ∧ I'.length = 4 * b ∧ a + b + k ≤ ((l.take k).map (cntE (cnt n))).sum)) (fun i _ => l.length - (intOf i).toNat)
  case atStart => exact ⟨0, [], [], S, Nat.zero_le _, rfl, Q0, 0, 0, rfl, rfl, by simp⟩
  case round =>
    obtain ⟨k, E', I', S', hk, rfl, hQ, hC⟩ := hrel
    by_cases hkl : k < l.length
    · have hxk := hid (List.getElem?_eq_getElem hkl)
      have hful := hid (hfu l[k] (List.getElem_mem hkl))
      have hszx := hid (HSZ.out.2 l[k] (List.getElem_mem hkl))
      have hsum := hid (sum_take (cntE (cnt n)) l k hkl)
      have hsum2 := hid (sum_take_le (cntE (cnt n)) l (k + 1))
      generalize l[k] = x at hxk hful hszx hsum
      obtain ⟨t, kd, u, its⟩ := x
      simp only at hful hszx
      have hi8 : its.length ≤ 8 := hszx.out.1
      go_wp2_with fail
      go_loopw [5] (fun iv_ wi => ∃ (kk : Nat) (E2 I2 : List Value) (S2 : Nat → Prop), kk ≤ its.length ∧ iv_ = .int .i64 kk ∧ Hid (K1 w B E I S (.slice ad l.length cap) l xs iv ys bd bl X (pnd k kk) wi E2 I2 S2) ∧ Hid (∃ a b, E2.length = 4 * a ∧ I2.length = 4 * b ∧ a + b + k ≤ ((l.take k).map (cntE (cnt n))).sum + ((its.take kk).map (cnt n)).sum)) (fun i _ => its.length - (intOf i).toNat)
      case atStart => exact ⟨0, E', I', S', Nat.zero_le _, rfl, hQ, by obtain ⟨a, b, h1, h2, h3⟩ := hC.out; exact ⟨a, b, h1, h2, by rw [List.take_zero, List.map_nil, List.sum_nil]; omega⟩⟩
      case round =>
        obtain ⟨kk, E2, I2, S2, hkk, rfl, hQ2, hC2⟩ := hrel
        obtain ⟨hx3, hrow, hdeep⟩ := hQ2.out.2.2.2.2.2 k _ hxk.out
        simp only at hrow hdeep
        have hown := hQ2.out.2.2.2.2.1
        rcases id hown.2 with ⟨_, h0⟩ | ⟨g, cap0, cur, ev, _⟩
        · omega
        injection ev with ev1 ev2 ev3
        subst ev1
        subst ev3
        clear ev2
        have c3 : wr.cell? ⟨g, k * 4 + 3, none⟩ = some (iv k) := by
          rw [hown.cellAt _ (by omega), ← hx3, Nat.mul_comm]
        obtain ⟨adi, capi, hiv⟩ := row_slice' hrow
        rw [hiv] at c3
        by_cases hkl2 : kk < its.length
        · rcases id hrow.2 with ⟨_, h0⟩ | ⟨gi, cap1, cur1, ev, _⟩
          · omega
          rw [hiv] at ev
          injection ev with ev1 _ _
          subst ev1
          have hsk := hid (List.getElem?_eq_getElem hkl2)
          have hsy := hid (sum_take (cnt n) its kk hkl2)
          have hsy2 := hid (sum_take_le (cnt n) its (kk + 1))
          have hfy := hid (hful.out its[kk] (List.getElem_mem hkl2))
          have hzy := hid (hszx.out.2 its[kk] (List.getElem_mem hkl2))
          obtain ⟨sv, hsv, ⟨ad3, len3, cap3, rfl⟩, hOw⟩ := hdeep kk _ (List.getElem?_eq_getElem hkl2)
          have d3 : wr.cell? ⟨gi, kk, none⟩ = some (.slice ad3 len3 cap3) := by
            rw [hiv] at hrow
            rw [hrow.cellAt _ (by omega)]
            exact hsv
          have OW := hid (hOw (Or.inr ⟨rfl, Nat.le_refl _⟩))
          generalize its[kk] = y at hsk hsy hfy hzy OW
          clear hdeep hOw hsv hrow hx3 hown hiv
          go_wp2_with fail
          go_at_call 14
          obtain ⟨m, rfl⟩ : ∃ m, n = m + 1 := by
            cases n with
            | zero => exact hfy.out.elim
            | succ m => exact ⟨m, rfl⟩
          obtain ⟨a, b, ha, hb, hab⟩ := hC2.out
          have hcx : Hid (((l.take k).map (cntE (cnt (m + 1)))).sum + 2 + (its.map (cnt (m + 1))).sum ≤ cnt (m + 1 + 1) l) := by
            have h1 := hsum.out
            have h2 := hsum2.out
            have h3 : cntE (cnt (m + 1)) (t, kd, u, its) = 1 + (its.map (cnt (m + 1))).sum := rfl
            rw [h3] at h1
            unfold Hid
            rw [cnt_succ]
            omega
          refine (H m rfl wr B (E ++ E2) (I ++ I2) S2 _ y (bd k kk) (Xd X l bd (pnd k kk)) (e0 + a) (i0 + b) hQ2.out.1 OW.out hfy.out hzy.out (HJ.out.deep k _ kk _ hxk.out hsk.out).1 (fun j hj => ?_) (fun j hj => Nat.lt_of_lt_of_le (HX.out j hj.1) hQ2.out.2.1.size) (by rw [List.length_append, HE0.out.1, ha]; omega) (by rw [List.length_append, HE0.out.2, hb]; omega) (by
            have h1 := HCN.out
            have h2 := hcx.out
            have h3 := hsy.out
            have h4 := hsy2.out
            rw [List.length_append, List.length_append]
            omega) hQ2.out.2.2.2.1).mono ?_
          · have hd := (HJ.out.deep k _ kk _ hxk.out hsk.out).2 j hj
            refine ⟨fun e => ?_, (HBL.out j hd.1).2, fun e x' k' s' a b c => ?_⟩
            · rcases hQ2.out.2.2.1 j e with q | q
              · exact (hblt.out j hd.1).1 q
              · have := (hblt.out j hd.1).2; omega
            · by_cases hq : k = e ∧ kk = k'
              · obtain ⟨rfl, rfl⟩ := hq
                exact Or.inr ⟨rfl, Nat.le_refl _⟩
              · exact absurd c (HJ.out.deeps k _ kk _ e x' k' s' hxk.out hsk.out a b hq j hj)
          rintro en w1 hK
          obtain ⟨E3, I3, S3, rfl, K3, a3, b3, g1, g2, g3⟩ := hQ2.out.sub HJ.out hblt.out hxk.out hsk.out hK
          have K4 := hid K3
          have C4 : Hid (∃ a b, (E2 ++ E3).length = 4 * a ∧ (I2 ++ I3).length = 4 * b ∧ a + b + k ≤ ((l.take k).map (cntE (cnt (m + 1)))).sum + ((its.take (kk + 1)).map (cnt (m + 1))).sum) := ⟨a + a3, b + b3, by rw [List.length_append]; omega, by rw [List.length_append]; omega, by have := hsy.out; omega⟩
          clear K3 hK g1 g2 g3 ha hb hab
          go_wp2
          go_roundw
          case rel => first | exact ⟨kk + 1, _, _, S3, by omega, by go_num, K4, C4⟩ | ((repeat apply Exists.intro); exact ⟨⟨kk + 1, _, _, S3, by omega, by go_num, K4, C4⟩, rfl⟩)
          case measure => simp [intOf]; omega
        · have hQ3 := hid (hQ2.out.weak (pend' := pnd (k + 1) 0) (fun e k' h => by
            rcases h with h | ⟨h, _⟩
            · exact Or.inl (by omega)
            · exact Or.inl (by omega)))
          have C3 : Hid (∃ a b, E2.length = 4 * a ∧ I2.length = 4 * b ∧ a + b + (k + 1) ≤ ((l.take (k + 1)).map (cntE (cnt n))).sum) := by
            obtain ⟨a, b, ha, hb, hab⟩ := hC2.out
            rw [List.take_of_length_le (l := its) (by omega)] at hab
            refine ⟨a, b, ha, hb, ?_⟩
            rw [hsum.out]
            show _ ≤ _ + (1 + (its.map (cnt n)).sum)
            omega
          clear hdeep hrow hx3 hown hiv
          go_wp2
          go_roundw
          case rel => first | exact ⟨k + 1, _, _, S2, by omega, by go_num, hQ3, C3⟩ | ((repeat apply Exists.intro); exact ⟨⟨k + 1, _, _, S2, by omega, by go_num, hQ3, C3⟩, rfl⟩)
          case measure => simp [intOf]; omega
    · obtain rfl : k = l.length := by omega
      have Q1 := hid hQ.out.rows
      have C1 : Hid (∃ a b, E'.length = 4 * a ∧ I'.length = 4 * b ∧ a + b + l.length ≤ (l.map (cntE (cnt n))).sum + 0) := by
        obtain ⟨a, b, h1, h2, h3⟩ := hC.out
        rw [List.take_of_length_le (Nat.le_refl _)] at h3
        exact ⟨a, b, h1, h2, h3⟩
      clear hQ hC Q0
      go_wp2_with fail
      go_loopw [6] (fun iv_ wr => ∃ (k : Nat) (E' I' : List Value) (S' : Nat → Prop), k ≤ l.length ∧ iv_ = .int .i64 k ∧ Hid (K2 w B E I S (.slice ad l.length cap) l xs iv ys bl (Xi X l bd iv k) (fun e => k ≤ e) wr E' I' S') ∧ Hid (∃ a b, E'.length = 4 * a ∧ I'.length = 4 * b ∧ a + b + l.length ≤ (l.map (cntE (cnt n))).sum + k)) (fun i _ => l.length - (intOf i).toNat)
      case atStart => exact ⟨0, E', I', S', Nat.zero_le _, rfl, Q1, C1⟩
      case round =>
        obtain ⟨k, E', I', S', hk, rfl, hQ, hC⟩ := hrel
        have hown := hQ.out.2.2.2.2.1
        by_cases hkl : k < l.length
        · have hxk := hid (List.getElem?_eq_getElem hkl)
          have hszx := hid (HSZ.out.2 l[k] (List.getElem_mem hkl))
          generalize l[k] = x at hxk hszx
          obtain ⟨t, kd, u, its⟩ := x
          simp only at hszx
          have hi8 : its.length ≤ 8 := hszx.out.1
          obtain ⟨hx3, hrow⟩ := hQ.out.2.2.2.2.2 k _ hxk.out (Nat.le_refl _)
          simp only at hrow
          rcases id hown.2 with ⟨_, h0⟩ | ⟨g, cap0, cur, ev, _⟩
          · omega
          injection ev with ev1 ev2 ev3
          subst ev1
          subst ev3
          clear ev2
          have c3 : wr.cell? ⟨g, k * 4 + 3, none⟩ = some (iv k) := by
            rw [hown.cellAt _ (by omega), ← hx3, Nat.mul_comm]
          obtain ⟨adi, capi, hiv⟩ := row_slice' hrow
          rw [hiv] at c3
          obtain ⟨v0, v1, hRw, hSe⟩ := hQ.out.1
          obtain ⟨⟨_, b1⟩, _, f1⟩ := bk_cells hRw
          obtain ⟨_, r1⟩ := bk_rows hRw
          obtain ⟨adb, capb, rfl⟩ := row_slice r1
          obtain ⟨qa, qb, hqa, hqb, hqc⟩ := hC.out
          have hIIl : Hid ((I ++ I').length = 4 * (i0 + qb)) := by unfold Hid; rw [List.length_append, HE0.out.2, hqb]; omega
          have hcx := cnt_succ n l
          have hbnd : Hid (4 * (i0 + qb) + 8 ≤ 1099511627776) := by
            have h1 := HCN.out
            have h2 := HE0.out.2
            unfold Hid
            omega
          obtain ⟨II, eII⟩ : ∃ II, Hid (II = I ++ I') := ⟨_, rfl⟩
          rw [← eII.out] at b1 hIIl
          have hq4 : (II.length : Int) / 4 = ((i0 + qb : Nat) : Int) := by have := hIIl.out; omega
          obtain ⟨q, eq⟩ : ∃ q, Hid (q = i0 + qb) := ⟨_, rfl⟩
          rw [← eq.out] at hq4
          have hq0 : (0 : Int) ≤ (q : Int) := by omega
          have hq1 : (q : Int) ≤ 1152921504606846976 := by have := hbnd.out; have := eq.out; omega
          have hk0 : Hid (K2 w B E I S (.slice (some ⟨g, 0, none⟩) l.length cap) l xs iv ys bl (Xi X l bd iv k) (fun e => k < e) wr E' I' S') := hQ.out.weak (fun e he => Nat.le_of_lt he)
          have HR := hid hrow
          clear hx3 hrow hown hRw hSe r1 hcx
          go_wp2_with fail
          go_loopw [9] (fun iv_ wi => ∃ (kk : Nat) (zs : List Value), kk ≤ its.length ∧ iv_ = .int .i64 kk ∧ Hid (K2 w B E I S (.slice (some ⟨g, 0, none⟩) l.length cap) l xs iv ys bl (Xi X l bd iv k) (fun e => k < e) wi E' I' S') ∧ Hid (wi.ownsRow 0 52 1 (iv k) its.length zs) ∧ Hid (badJ wi (Mk X S') (q : Int) (zs.take kk))) (fun i _ => its.length - (intOf i).toNat)
          case atStart => exact ⟨0, ys k, Nat.zero_le _, rfl, hk0, HR, fun y hy => by simp at hy⟩
          case round =>
            obtain ⟨kk, zs, hkk, rfl, hQ2, hR2, hJ2⟩ := hrel
            have hrw := hid (fun j hj => HJ.out.row (j := j) HBL.out HX.out hQ2.out.2.2.1 hxk.out hj)
            have hws : w.heap.size ≤ wr.heap.size := hQ2.out.2.1.size
            by_cases hkl2 : kk < its.length
            · rcases id hR2.out.2 with ⟨_, h0⟩ | ⟨gi, cap1, cur1, ev, _⟩
              · omega
              have hgb : Hid ((iv k).ownBlock = some gi) := by unfold Hid; rw [ev]; rfl
              have ev' := ev
              rw [hiv] at ev
              injection ev with ev1 _ ev3
              subst ev1
              subst ev3
              go_wp2_with fail
              go_at_call 21
              refine (badItem_any wr q hq0 hq1).mono ?_
              rintro e w1 ⟨h5, rfl, u1, hh5, hbad⟩
              have hR3 := own_below hR2.out u1
              rw [ev'] at hR3
              have x0 : w1.cell? ⟨gi, kk, none⟩ = some (zs.getD kk (.bool false)) := by
                rw [hR3.cellAt _ (by omega)]
                have := hR3.1
                rw [List.getD_eq_getElem?_getD, List.getElem?_eq_getElem (by omega)]; rfl
              have y0 := own_free hR3 kk
              have hMk : Mk X S' h5 := ⟨fun e => by have := HX.out h5 e; omega, fun e => by have := hQ2.out.1.lt e; omega⟩
              have kp1 : Kp (fun j => j = gi) w1 (w1.setCell ⟨gi, kk, none⟩ (.slice (some ⟨h5, 0, none⟩) 1 1)) := (Kp.refl (fun j => j = gi) w1).setCell (p := ⟨gi, kk, none⟩) (Or.inl rfl) _
              have hty : ∀ g, g = gi → ∃ cur, w1.heap[g]? = some (.cells cur 52 (0, 0)) := fun g hg => by
                subst hg
                exact own_cells hR3 rfl
              have K4 := hid ((hQ2.out.below u1).turn kp1 (fun j hj => by subst hj; exact hrw.out _ hgb.out))
              have R4 := hid (own_set hR3 (j := kk) (by omega) (.slice (some ⟨h5, 0, none⟩) 1 1))
              rw [← ev'] at R4
              have J4 := hid ((badJ_set (hJ2.out.still (Kp.of_below (S := fun _ => False) u1) (fun _ h => h.elim)) ⟨hMk, hbad⟩).still kp1 hty)
              clear hR3 hMk kp1 hty hbad u1 hh5 ev'
              go_wp2
              go_roundw
              case rel => first | exact ⟨kk + 1, _, by omega, by go_num, K4, R4, J4⟩ | ((repeat apply Exists.intro); exact ⟨⟨kk + 1, _, by omega, by go_num, K4, R4, J4⟩, rfl⟩)
              case measure => simp [intOf]; omega
            · obtain rfl : kk = its.length := by omega
              have hJ3 := hid (show badJ wr (Mk X S') (q : Int) zs by have := hJ2.out; rwa [List.take_of_length_le (by have := hR2.out.1; omega)] at this)
              clear hJ2
              have R0 := hid (show wr.ownsRow 0 52 1 (.slice adi its.length capi) its.length zs by have := hR2.out; rwa [hiv] at this)
              obtain ⟨i1, hi1, hy0, hy1, hy2⟩ := info_parts info_it'
              have HI1 := hid hi1
              have hMk : Hid (∀ h w', Below wr.heap.size wr w' → w'.heap.size ≤ h → Mk X S' h) := fun h w' u hh => ⟨fun e => by have := HX.out h e; have := u.size; omega, fun e => by have := hQ2.out.1.lt e; have := u.size; omega⟩
              have hMk2 : Hid (∀ h, wr.heap.size ≤ h → Mk X S' h) := fun h hh => ⟨fun e => by have := HX.out h e; omega, fun e => by have := hQ2.out.1.lt e; omega⟩
              clear hi1 hR2 hMk
              go_wp2_with fail
              go_at_call 21
              refine (badItem_any wr q hq0 hq1).mono ?_
              rintro e w1 ⟨h1, rfl, u1, hh1, hbad1⟩
              have R0a := hid (own_below R0.out u1)
              have M0a := hid (badJ_app (hJ3.out.still (Kp.of_below (S := fun _ => False) u1) (fun _ h => h.elim)) ⟨hMk2.out h1 hh1, hbad1⟩)
              have U1 := hid u1
              clear u1 hh1 hbad1 hJ3
              go_wp2_with (at_builtin; refine wpList_append_two _ rfl _ _ 35 rfl 52 i1 _ 1 24 Tryd.underlying35 HI1.out hy0 hy1 hy2 rfl (by decide) _ _ _ rfl (R0a.out.alloc _) ⟨w1.heap.size, 0, none⟩ 1 1 [.slice (some ⟨h1, 0, none⟩) 1 1] rfl rfl (cell_one_new _ _ _) (by simp [Value.oneCell']) (by unfold maxLen; omega) (by omega) ?_)
              intro v1' w2 r1 hg hm r0
              obtain ⟨g1', cap1', rfl⟩ := own_succ r1
              have ua := Below.alloc (Below.refl w1.heap.size w1) (Nat.le_refl _) (.cells #[.slice (some ⟨h1, 0, none⟩) 1 1] 52)
              have F1 := hid (Fr1.mk (w0 := wr) (U1.out.trans (ua.mono U1.out.size)) hg hm r1 r0)
              have M1 := hid (M0a.out.still (kp_grown ua hg (fun g hg' => ownsRow_lt R0a.out g (mem_own.2 hg'))) (fun g hg' => own_cells R0a.out hg'))
              clear r1 r0 hg hm ua M0a R0a U1
              have Z2 : wr.heap.size ≤ w2.heap.size := F1.out.2.2.1.size
              go_wp2_with fail
              go_at_call 21
              refine (badItem_any w2 q hq0 hq1).mono ?_
              rintro e w3 ⟨h2, rfl, u3, hh2, hbad2⟩
              have R1a := hid (own_below F1.out.2.1 u3)
              have M1a := hid (badJ_app (M1.out.still (Kp.of_below (S := fun _ => False) u3) (fun _ h => h.elim)) ⟨hMk2.out h2 (by omega), hbad2⟩)
              have U3 := hid u3
              clear u3 hh2 hbad2 M1
              go_wp2_with (at_builtin; refine wpList_append_two _ rfl _ _ 35 rfl 52 i1 _ 1 24 Tryd.underlying35 HI1.out hy0 hy1 hy2 rfl (by decide) _ _ _ rfl (R1a.out.alloc _) ⟨w3.heap.size, 0, none⟩ 1 1 [.slice (some ⟨h2, 0, none⟩) 1 1] rfl rfl (cell_one_new _ _ _) (by simp [Value.oneCell']) (by unfold maxLen; omega) (by omega) ?_)
              intro v2' w4 r2 hg hm r1
              obtain ⟨g2', cap2', rfl⟩ := own_succ r2
              have ua := Below.alloc (Below.refl w3.heap.size w3) (Nat.le_refl _) (.cells #[.slice (some ⟨h2, 0, none⟩) 1 1] 52)
              have r2' : w4.ownsRow 0 52 1 (.slice (some ⟨g2', 0, none⟩) (its.length + 1 + 1) cap2') (its.length + 1 + 1) (zs ++ [.slice (some ⟨h1, 0, none⟩) 1 1] ++ [.slice (some ⟨h2, 0, none⟩) 1 1]) := by rw [List.append_assoc]; exact r2
              have F2 := hid (Fr2.mk (by decide) F1.out (U3.out.trans (ua.mono U3.out.size)) hg hm r2' r1)
              have M2 := hid (M1a.out.still (kp_grown ua hg (fun g hg' => ownsRow_lt R1a.out g (mem_own.2 hg'))) (fun g hg' => own_cells R1a.out hg'))
              clear r2 r2' r1 hg hm ua M1a R1a U3 F1
              have Z4 : wr.heap.size ≤ w4.heap.size := F2.out.1.2.2.1.size
              go_wp2_with fail
              go_at_call 21
              refine (badItem_any w4 q hq0 hq1).mono ?_
              rintro e w5 ⟨h3, rfl, u5, hh3, hbad3⟩
              have R2a := hid (own_below F2.out.2.1 u5)
              have M2a := hid (badJ_app (M2.out.still (Kp.of_below (S := fun _ => False) u5) (fun _ h => h.elim)) ⟨hMk2.out h3 (by omega), hbad3⟩)
              have U5 := hid u5
              clear u5 hh3 hbad3 M2
              go_wp2_with (at_builtin; refine wpList_append_two _ rfl _ _ 35 rfl 52 i1 _ 1 24 Tryd.underlying35 HI1.out hy0 hy1 hy2 rfl (by decide) _ _ _ rfl (R2a.out.alloc _) ⟨w5.heap.size, 0, none⟩ 1 1 [.slice (some ⟨h3, 0, none⟩) 1 1] rfl rfl (cell_one_new _ _ _) (by simp [Value.oneCell']) (by unfold maxLen; omega) (by omega) ?_)
              intro v3' w6 r3 hg hm r2
              obtain ⟨g3', cap3', rfl⟩ := own_succ r3
              have ua := Below.alloc (Below.refl w5.heap.size w5) (Nat.le_refl _) (.cells #[.slice (some ⟨h3, 0, none⟩) 1 1] 52)
              have r3' : w6.ownsRow 0 52 1 (.slice (some ⟨g3', 0, none⟩) (its.length + 1 + 1 + 1) cap3') (its.length + 1 + 1 + 1) (zs ++ [.slice (some ⟨h1, 0, none⟩) 1 1] ++ [.slice (some ⟨h2, 0, none⟩) 1 1] ++ [.slice (some ⟨h3, 0, none⟩) 1 1]) := by rw [List.append_assoc, List.append_assoc]; exact r3
              have r2' : w6.ownsRow 0 52 1 (.slice (some ⟨g2', 0, none⟩) (its.length + 1 + 1) cap2') (its.length + 1 + 1) (zs ++ [.slice (some ⟨h1, 0, none⟩) 1 1] ++ [.slice (some ⟨h2, 0, none⟩) 1 1]) := by rw [List.append_assoc]; exact r2
              have F3 := hid (Fr3.mk (by decide) F2.out (U5.out.trans (ua.mono U5.out.size)) hg hm r3' r2')
              have M3 := hid (M2a.out.still (kp_grown ua hg (fun g hg' => ownsRow_lt R2a.out g (mem_own.2 hg'))) (fun g hg' => own_cells R2a.out hg'))
              clear r3 r3' r2 r2' hg hm ua M2a R2a U5 F2
              have K6 := hid (hQ2.out.turn F3.out.1.1.2.2.1 (fun j hj => hrw.out j (by rw [hiv]; exact hj)))
              obtain ⟨w0', v1b, hRw, hSe⟩ := K6.out.1
              rw [← eII.out] at hRw hSe
              obtain ⟨⟨_, b1'⟩, _, f1'⟩ := bk_cells hRw
              obtain ⟨_, r1⟩ := bk_rows hRw
              obtain ⟨adb2, capb2, rfl⟩ := row_slice r1
              obtain ⟨i2, hi2, hs0, hs1, hs2⟩ := info_parts info_its
              have HK := hid hi2
              have R1 := hid r1
              have RW := hid hRw
              have SE := hid hSe
              have hIIb : II.length ≤ 1099511627776 := by have := hIIl.out; have := hbnd.out; omega
              clear hi2 r1 hRw hSe HI1 hy0 hy1 hy2
              go_wp2_with (at_builtin; refine wpList_append_sep _ rfl _ _ 27 rfl 35 i2 _ 1 24 Tryd.underlying27 HK.out hs0 hs1 hs2 rfl (by decide) _ _ _ rfl (R1.out.alloc _) ⟨w6.heap.size, 0, none⟩ 4 4 [.slice adi its.length capi, .slice (some ⟨g1', 0, none⟩) (its.length + 1) cap1', .slice (some ⟨g2', 0, none⟩) (its.length + 1 + 1) cap2', .slice (some ⟨g3', 0, none⟩) (its.length + 1 + 1 + 1) cap3'] rfl rfl (four_cells _ _ _ _ _ _) (by simp [Value.oneCell']) (by unfold maxLen; omega) (by omega) ?_)
              intro v4' w7 hown' hg hm
              obtain ⟨g4', cap4', rfl⟩ := own_succ hown'
              have hBk := ln_kept (f := 1) RW.out rfl (Below.alloc (Below.refl _ _) (Nat.le_refl _) _) hg
              obtain ⟨S5, L5, M5⟩ := bk_push1 (Y := [.slice adi its.length capi, .slice (some ⟨g1', 0, none⟩) (its.length + 1) cap1', .slice (some ⟨g2', 0, none⟩) (its.length + 1 + 1) cap2', .slice (some ⟨g3', 0, none⟩) (its.length + 1 + 1 + 1) cap3']) RW.out (Below.alloc (Below.refl _ _) (Nat.le_refl _) _) hown' hg hm
              rw [← SE.out] at M5
              have b1'' := cell_keep (p := ⟨B, 1, none⟩) hBk b1'
              have f1'' := (World.frozen?_of_block (a := ⟨B, 1, none⟩) hBk).trans f1'
              have hIq : (I ++ I').length = 4 * q := by rw [← eII.out, hIIl.out, eq.out]
              have K7 := hid (K6.out.push (q := q) (Y := [.slice adi its.length capi, .slice (some ⟨g1', 0, none⟩) (its.length + 1) cap1', .slice (some ⟨g2', 0, none⟩) (its.length + 1 + 1) cap2', .slice (some ⟨g3', 0, none⟩) (its.length + 1 + 1 + 1) cap3']) HJ.out HBL.out HX.out hxk.out (by rw [← eII.out]; exact L5) M5 hIq rfl (fun uu huu => by
                have hsplit : ∀ j, (Value.slice adi its.length capi).ownBlock = some j ∨ wr.heap.size ≤ j → (iv k).ownBlock = some j ∨ (¬ X j ∧ ¬ S' j) := fun j hj => by
                  rcases hj with e | e
                  · exact Or.inl (by rw [hiv]; exact e)
                  · exact Or.inr (hMk2.out j e)
                simp only [List.mem_cons, List.not_mem_nil, or_false] at huu
                rcases huu with rfl | rfl | rfl | rfl
                · exact ⟨_, _, F3.out.1.1.1, by omega, fun y hy => M3.out y (List.mem_append_left _ (List.mem_append_left _ (List.mem_append_left _ hy))), fun j hj => hsplit j (Or.inl hj)⟩
                · exact ⟨_, _, F3.out.1.1.2.1, by omega, fun y hy => M3.out y (List.mem_append_left _ (List.mem_append_left _ hy)), fun j hj => hsplit j (F3.out.1.1.2.2.2 j hj)⟩
                · exact ⟨_, _, F3.out.1.2.1, by omega, fun y hy => M3.out y (List.mem_append_left _ hy), fun j hj => hsplit j (F3.out.1.2.2 j hj)⟩
                · exact ⟨_, _, F3.out.2.1, by omega, fun y hy => M3.out y hy, fun j hj => hsplit j (F3.out.2.2 j hj)⟩))
              have C7 : Hid (∃ a b, E'.length = 4 * a ∧ (I' ++ ([.slice adi its.length capi, .slice (some ⟨g1', 0, none⟩) (its.length + 1) cap1', .slice (some ⟨g2', 0, none⟩) (its.length + 1 + 1) cap2', .slice (some ⟨g3', 0, none⟩) (its.length + 1 + 1 + 1) cap3'] : List Value)).length = 4 * b ∧ a + b + l.length ≤ (l.map (cntE (cnt n))).sum + (k + 1)) := ⟨qa, qb + 1, hqa, by rw [List.length_append, hqb]; rfl, by omega⟩
              clear L5 M5 hown' hg hm hBk b1' f1' K6 M3 F3 RW SE R1 HK hs0 hs1 hs2
              go_wp2
              go_roundw
              case rel => first | exact ⟨k + 1, E', _, S5, by omega, by go_num, K7, C7⟩ | ((repeat apply Exists.intro); exact ⟨⟨k + 1, E', _, S5, by omega, by go_num, K7, C7⟩, rfl⟩)
              case measure => simp [intOf]; omega
        · obtain rfl : k = l.length := by omega
          obtain ⟨v0, v1, hRw, hSe⟩ := hQ.out.1
          obtain ⟨⟨b0, _⟩, f0, _⟩ := bk_cells hRw
          obtain ⟨r0, _⟩ := bk_rows hRw
          obtain ⟨adb, capb, rfl⟩ := row_slice r0
          obtain ⟨qa, qb, hqa, hqb, hqc⟩ := hC.out
          have hEEl : Hid ((E ++ E').length = 4 * (e0 + qa)) := by unfold Hid; rw [List.length_append, HE0.out.1, hqa]; omega
          have hcx := cnt_succ n l
          have hbnd : Hid (4 * (e0 + qa) + 8 ≤ 1099511627776) := by
            have h1 := HCN.out
            have h2 := HE0.out.1
            unfold Hid
            omega
          obtain ⟨EE, eEE⟩ : ∃ EE, Hid (EE = E ++ E') := ⟨_, rfl⟩
          rw [← eEE.out] at b0 hEEl
          have hq4 : (EE.length : Int) / 4 = ((e0 + qa : Nat) : Int) := by have := hEEl.out; omega
          obtain ⟨q, eq⟩ : ∃ q, Hid (q = e0 + qa) := ⟨_, rfl⟩
          rw [← eq.out] at hq4
          have hq0 : (0 : Int) ≤ (q : Int) := by omega
          have hq1 : (q : Int) ≤ 1152921504606846976 := by have := hbnd.out; have := eq.out; omega
          have K0 : Hid (K3 w B E I S bl (Xi X l bd iv l.length) wr E' I' S') := ⟨hQ.out.1, hQ.out.2.1, hQ.out.2.2.1, hQ.out.2.2.2.1⟩
          have hCf : Hid (∃ a b, E'.length + 4 = 4 * a ∧ I'.length = 4 * b ∧ a + b ≤ cnt (n + 1) l) := ⟨qa + 1, qb, by omega, hqb, by omega⟩
          have HO := hid hown
          clear hown hRw hSe r0 hcx hQ hC hqa hqb hqc
          go_wp2_with fail
          go_loopw [14] (fun iv_ wi => ∃ (kk : Nat) (zs : List Value), kk ≤ l.length ∧ iv_ = .int .i64 kk ∧ Hid (K3 w B E I S bl (Xi X l bd iv l.length) wi E' I' S') ∧ Hid (wi.ownsRow 0 37 4 (.slice ad l.length cap) l.length zs) ∧ Hid (∀ j, j < kk * 4 → zs[j]? = some (badV (q : Int) (j % 4)))) (fun i _ => l.length - (intOf i).toNat)
          case atStart => exact ⟨0, xs, Nat.zero_le _, rfl, K0, HO, fun j hj => by omega⟩
          case round =>
            obtain ⟨kk, zs, hkk, rfl, hK3, hR3, hZ3⟩ := hrel
            have hrw := hid (fun j hj => HJ.out.own (j := j) HBL.out HX.out hK3.out.2.2.1 hj)
            by_cases hkl2 : kk < l.length
            · rcases id hR3.out.2 with ⟨_, h0⟩ | ⟨g, cap0, cur, ev, _⟩
              · omega
              injection ev with ev1 ev2 ev3
              subst ev1
              subst ev3
              clear ev2
              go_wp2_with fail
              go_at_call 20
              refine (badx_any wr q hq0 hq1).mono ?_
              rintro e w1 ⟨rfl, u1⟩
              have hR4 := own_below hR3.out u1
              have hz4 := hR4.1
              obtain ⟨zs', R5, Z5⟩ := own_set4 hR4 hkl2 hZ3.out
              have x0 : w1.cell? ⟨g, kk * 4, none⟩ = some (zs.getD (kk * 4) (.bool false)) := by
                rw [hR4.cellAt _ (by omega), List.getD_eq_getElem?_getD, List.getElem?_eq_getElem (by omega)]; rfl
              have x1 : w1.cell? ⟨g, kk * 4 + 1, none⟩ = some (zs.getD (kk * 4 + 1) (.bool false)) := by
                rw [hR4.cellAt _ (by omega), List.getD_eq_getElem?_getD, List.getElem?_eq_getElem (by omega)]; rfl
              have x2 : w1.cell? ⟨g, kk * 4 + 2, none⟩ = some (zs.getD (kk * 4 + 2) (.bool false)) := by
                rw [hR4.cellAt _ (by omega), List.getD_eq_getElem?_getD, List.getElem?_eq_getElem (by omega)]; rfl
              have x3 : w1.cell? ⟨g, kk * 4 + 3, none⟩ = some (zs.getD (kk * 4 + 3) (.bool false)) := by
                rw [hR4.cellAt _ (by omega), List.getD_eq_getElem?_getD, List.getElem?_eq_getElem (by omega)]; rfl
              have y0 := own_free hR4 (kk * 4)
              have y1 := own_free hR4 (kk * 4 + 1)
              have y2 := own_free hR4 (kk * 4 + 2)
              have y3 := own_free hR4 (kk * 4 + 3)
              have kp1 : Kp (fun j => j = g) w1 (set4 w1 g (kk * 4) (badV q 0) (badV q 1) (badV q 2) (badV q 3)) := ⟨⟨rfl, rfl, rfl⟩, by rw [set4_size]; exact Nat.le_refl _, fun j _ hn => set4_other hn⟩
              have K5 := hid ((hK3.out.below u1).turn kp1 (fun j hj => by subst hj; exact hrw.out _ rfl))
              have R5' := hid R5
              have Z5' := hid Z5
              clear R5 Z5 hR4 kp1 u1 hz4
              go_wp2
              go_roundw
              case rel => first | exact ⟨kk + 1, zs', by omega, by go_num, K5, R5', Z5'⟩ | ((repeat apply Exists.intro); exact ⟨⟨kk + 1, zs', by omega, by go_num, K5, R5', Z5'⟩, rfl⟩)
              case measure => simp [intOf]; omega
            · obtain rfl : kk = l.length := by omega
              obtain rfl := badC_all hR3.out.1 hZ3.out
              clear hZ3
              obtain ⟨i1, hi1, hy0, hy1, hy2⟩ := info_parts info_el'
              have HI1 := hid hi1
              have hMk2 : Hid (∀ h, wr.heap.size ≤ h → Mk X S' h) := fun h hh => ⟨fun e => by have := HX.out h e; have := hK3.out.2.1.size; omega, fun e => by have := hK3.out.1.lt e; omega⟩
              clear hi1
              go_wp2_with fail
              go_at_call 20
              refine (badx_any wr q hq0 hq1).mono ?_
              rintro e w1 ⟨rfl, uu⟩
              have Ra := hid (own_below hR3.out uu)
              have Ua := hid uu
              clear uu
              go_wp2_with (at_builtin; refine wpList_append_two _ rfl _ _ 22 rfl 37 i1 _ 4 64 Tryd.underlying22 HI1.out hy0 hy1 hy2 rfl (by decide) _ _ _ rfl (Ra.out.alloc _) ⟨w1.heap.size, 0, none⟩ 1 1 [.int .i64 (-1000 - (q : Int)), .string ⟨#[63, 63]⟩, .string ⟨#[]⟩, .slice none 0 0] rfl rfl (four_cells _ _ _ _ _ _) (by simp [Value.oneCell']) (by unfold maxLen; omega) (by omega) ?_)
              intro vv w2 rn hg hm ro
              obtain ⟨g1', cap1', rfl⟩ := own_succ rn
              have ua := Below.alloc (Below.refl w1.heap.size w1) (Nat.le_refl _) (.cells #[.int .i64 (-1000 - (q : Int)), .string ⟨#[63, 63]⟩, .string ⟨#[]⟩, .slice none 0 0] 37)
              have F1 := hid (Fr1.mk (w0 := wr) (a := [badV (q : Int) 0, badV (q : Int) 1, badV (q : Int) 2, badV (q : Int) 3]) (Ua.out.trans (ua.mono Ua.out.size)) hg hm rn ro)
              have R1 := hid (show w2.ownsRow 0 37 4 (.slice (some ⟨g1', 0, none⟩) (l.length + 1) cap1') (l.length + 1) (badC (q : Int) (l.length + 1)) by rw [← badC_succ]; exact rn)
              clear rn ro hg hm ua Ra Ua
              go_wp2_with fail
              go_at_call 20
              refine (badx_any w2 q hq0 hq1).mono ?_
              rintro e w3 ⟨rfl, uu⟩
              have Ra := hid (own_below R1.out uu)
              have Ua := hid uu
              clear uu
              go_wp2_with (at_builtin; refine wpList_append_two _ rfl _ _ 22 rfl 37 i1 _ 4 64 Tryd.underlying22 HI1.out hy0 hy1 hy2 rfl (by decide) _ _ _ rfl (Ra.out.alloc _) ⟨w3.heap.size, 0, none⟩ 1 1 [.int .i64 (-1000 - (q : Int)), .string ⟨#[63, 63]⟩, .string ⟨#[]⟩, .slice none 0 0] rfl rfl (four_cells _ _ _ _ _ _) (by simp [Value.oneCell']) (by unfold maxLen; omega) (by omega) ?_)
              intro vv w4 rn hg hm ro
              obtain ⟨g2', cap2', rfl⟩ := own_succ rn
              have ua := Below.alloc (Below.refl w3.heap.size w3) (Nat.le_refl _) (.cells #[.int .i64 (-1000 - (q : Int)), .string ⟨#[63, 63]⟩, .string ⟨#[]⟩, .slice none 0 0] 37)
              have F2 := hid (Fr2.mk (b := [badV (q : Int) 0, badV (q : Int) 1, badV (q : Int) 2, badV (q : Int) 3]) (by decide) F1.out (Ua.out.trans (ua.mono Ua.out.size)) hg hm (by rw [badC_succ]; exact rn) (by rw [badC_succ]; exact ro))
              have R2 := hid (show w4.ownsRow 0 37 4 (.slice (some ⟨g2', 0, none⟩) (l.length + 1 + 1) cap2') (l.length + 1 + 1) (badC (q : Int) (l.length + 1 + 1)) by rw [← badC_succ]; exact rn)
              clear rn ro hg hm ua Ra Ua F1 R1
              go_wp2_with fail
              go_at_call 20
              refine (badx_any w4 q hq0 hq1).mono ?_
              rintro e w5 ⟨rfl, uu⟩
              have Ra := hid (own_below R2.out uu)
              have Ua := hid uu
              clear uu
              go_wp2_with (at_builtin; refine wpList_append_two _ rfl _ _ 22 rfl 37 i1 _ 4 64 Tryd.underlying22 HI1.out hy0 hy1 hy2 rfl (by decide) _ _ _ rfl (Ra.out.alloc _) ⟨w5.heap.size, 0, none⟩ 1 1 [.int .i64 (-1000 - (q : Int)), .string ⟨#[63, 63]⟩, .string ⟨#[]⟩, .slice none 0 0] rfl rfl (four_cells _ _ _ _ _ _) (by simp [Value.oneCell']) (by unfold maxLen; omega) (by omega) ?_)
              intro vv w6 rn hg hm ro
              obtain ⟨g3', cap3', rfl⟩ := own_succ rn
              have ua := Below.alloc (Below.refl w5.heap.size w5) (Nat.le_refl _) (.cells #[.int .i64 (-1000 - (q : Int)), .string ⟨#[63, 63]⟩, .string ⟨#[]⟩, .slice none 0 0] 37)
              have F3 := hid (Fr3.mk (c := [badV (q : Int) 0, badV (q : Int) 1, badV (q : Int) 2, badV (q : Int) 3]) (by decide) F2.out (Ua.out.trans (ua.mono Ua.out.size)) hg hm (by rw [badC_succ, badC_succ]; exact rn) (by rw [badC_succ, badC_succ]; exact ro))
              clear rn ro hg hm ua Ra Ua F2 R2
              have K6 := hid (hK3.out.turn F3.out.1.1.2.2.1 (fun j hj => hrw.out j hj))
              obtain ⟨v0b, w1', hRw, hSe⟩ := K6.out.1
              rw [← eEE.out] at hRw hSe
              obtain ⟨⟨b0', _⟩, f0', _⟩ := bk_cells hRw
              obtain ⟨r0, _⟩ := bk_rows hRw
              obtain ⟨adb2, capb2, rfl⟩ := row_slice r0
              obtain ⟨i2, hi2, hs0, hs1, hs2⟩ := info_parts info_els
              have HK := hid hi2
              have RR := hid r0
              have RW := hid hRw
              have SE := hid hSe
              have hEEb : EE.length ≤ 1099511627776 := by have := hEEl.out; have := hbnd.out; omega
              clear hi2 r0 hRw hSe HI1 hy0 hy1 hy2
              go_wp2_with (at_builtin; refine wpList_append_sep _ rfl _ _ 25 rfl 22 i2 _ 1 24 Tryd.underlying25 HK.out hs0 hs1 hs2 rfl (by decide) _ _ _ rfl (RR.out.alloc _) ⟨w6.heap.size, 0, none⟩ 4 4 [.slice ad l.length cap, .slice (some ⟨g1', 0, none⟩) (l.length + 1) cap1', .slice (some ⟨g2', 0, none⟩) (l.length + 1 + 1) cap2', .slice (some ⟨g3', 0, none⟩) (l.length + 1 + 1 + 1) cap3'] rfl rfl (four_cells _ _ _ _ _ _) (by simp [Value.oneCell']) (by unfold maxLen; omega) (by omega) ?_)
              intro v4' w7 hown' hg hm
              obtain ⟨g4', cap4', rfl⟩ := own_succ hown'
              have hBk := ln_kept (f := 0) RW.out rfl (Below.alloc (Below.refl _ _) (Nat.le_refl _) _) hg
              obtain ⟨S5, L5, M5⟩ := bk_push0 (Y := [.slice ad l.length cap, .slice (some ⟨g1', 0, none⟩) (l.length + 1) cap1', .slice (some ⟨g2', 0, none⟩) (l.length + 1 + 1) cap2', .slice (some ⟨g3', 0, none⟩) (l.length + 1 + 1 + 1) cap3']) RW.out (Below.alloc (Below.refl _ _) (Nat.le_refl _) _) hown' hg hm
              rw [← SE.out] at M5
              have b0'' := cell_keep (p := ⟨B, 0, none⟩) hBk b0'
              have f0'' := (World.frozen?_of_block (a := ⟨B, 0, none⟩) hBk).trans f0'
              have hEq : (E ++ E').length = 4 * q := by rw [← eEE.out, hEEl.out, eq.out]
              have K7 := hid (K6.out.push (q := q) (Y := [.slice ad l.length cap, .slice (some ⟨g1', 0, none⟩) (l.length + 1) cap1', .slice (some ⟨g2', 0, none⟩) (l.length + 1 + 1) cap2', .slice (some ⟨g3', 0, none⟩) (l.length + 1 + 1 + 1) cap3']) HJ.out HBL.out HX.out (by rw [← eEE.out]; exact L5) M5 hEq rfl (fun uu huu => by
                have hsplit : ∀ j, (Value.slice ad l.length cap).ownBlock = some j ∨ wr.heap.size ≤ j → (Value.slice ad l.length cap).ownBlock = some j ∨ (¬ X j ∧ ¬ S' j) := fun j hj => by
                  rcases hj with e | e
                  · exact Or.inl e
                  · exact Or.inr (hMk2.out j e)
                simp only [List.mem_cons, List.not_mem_nil, or_false] at huu
                rcases huu with rfl | rfl | rfl | rfl
                · exact ⟨_, F3.out.1.1.1, by omega, fun j hj => hsplit j (Or.inl hj)⟩
                · exact ⟨_, by have := F3.out.1.1.2.1; rwa [badC_succ] at this, by omega, fun j hj => hsplit j (F3.out.1.1.2.2.2 j hj)⟩
                · exact ⟨_, by have := F3.out.1.2.1; rwa [badC_succ, badC_succ] at this, by omega, fun j hj => hsplit j (F3.out.1.2.2 j hj)⟩
                · exact ⟨_, by have := F3.out.2.1; rwa [badC_succ, badC_succ, badC_succ] at this, by omega, fun j hj => hsplit j (F3.out.2.2 j hj)⟩))
              clear L5 M5 hown' hg hm hBk b0' f0' K6 F3 RW SE RR HK hs0 hs1 hs2
              go_wp2
              go_end0
              obtain ⟨a, b, ha, hb, hab⟩ := hCf.out
              exact ⟨_, _, S5, rfl, K7.out.1, K7.out.2.1, K7.out.2.2.1, K7.out.2.2.2, a, b, by rw [List.length_append]; exact ha, hb, hab⟩
theorem keep_any : ∀ n, KC n
  | 0 => keep_step 0 (fun m h => by omega)
  | n + 1 => keep_step (n + 1) (fun m h => by
    obtain rfl : n = m := by omega
    exact keep_any n)
end Go.Proofs.YtaokifbpakbgdaaDoor

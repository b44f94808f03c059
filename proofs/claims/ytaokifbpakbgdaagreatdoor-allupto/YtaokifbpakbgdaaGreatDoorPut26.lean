/-
  Several texts in one; what each one has stands at its head.
-/
import Derived.Test.YtaokifbpakbgdaaGreatDoorPut25
/- Package folioref on archives: asked. -/
namespace Go.Proofs.YtaokifbpakbgdaaGreatDoor
open Go.RowKit

theorem plainE_kind {n : Nat} {q : List (El (n + 1))} (hk : ∀ x ∈ q, x.2.1 = kindT x.1) (i : Nat) : plainE q i = plainV (kindT (nameT i)) (textE q (nameT i)) := by
  unfold plainE textE
  cases hf : findE q (nameT i) with
  | none => simp [plainV]
  | some x =>
    have hm : x ∈ q := List.mem_of_find?_eq_some hf
    have ht : x.1 = nameT i := by have := List.find?_some hf; simpa using this
    simp only []
    rw [hk x hm, ht]
theorem aboveE_end {n : Nat} (q : List (El (n + 1))) {lvl : Nat} (h : lvl < 4) : aboveE q (lvl : Int) ([0, 1, 2, 3].drop lvl) = true := by
  unfold aboveE
  rw [List.all_eq_true]
  intro i hi
  have : lvl ≤ i := by
    rcases (show lvl = 0 ∨ lvl = 1 ∨ lvl = 2 ∨ lvl = 3 by omega) with rfl | rfl | rfl | rfl <;> simp at hi <;> omega
  rw [decide_eq_false (by omega)]
  rfl
set_option maxRecDepth 20000 in
set_option maxHeartbeats 4000000 in
theorem rasked_any (n : Nat) (F : Nat → Prop) (w : World) (v : Value) (q : List (El (n + 2))) (lvl : Nat) (hlv : lvl < 4) (h : Rd w F (n + 2) v q) (hl : q.length ≤ 24) (hq : ∀ x ∈ q, 0 ≤ x.1 ∧ x.2.2.1.length ≤ 64 ∧ x.2.2.2.length ≤ 8 ∧ ∀ s ∈ x.2.2.2, s.length ≤ 24 ∧ ∀ y ∈ s, y.2.2.1.length ≤ 64) (hlev : ∀ x ∈ q, x.1 = 524370 → keyE (lvl : Int) x = 0) :
    Calls Tryz.prog 166 #[v, .int .i64 lvl] w fun e w' => e = .returned (.int .i64 (askE (lvl : Int) q)) ∧ Below w.heap.size w w' := by
  obtain ⟨ad, cap, rfl⟩ := h.slice
  have H := hid h
  have HQ := hid hq
  have HLV := hid hlev
  have hE := hid (show askE (lvl : Int) q = if fstE (keyE (lvl : Int)) q ≠ 0 then fstE (keyE (lvl : Int)) q else if aboveE q (lvl : Int) [0, 1, 2, 3] = true then 0 else 7 from if_neg (by omega))
  clear h hq hlev
  go_enter Tryz.func166, Tryz.ntmps166
  go_wp2_with fail
  go_loopw [5] (fun i wr => ∃ k : Nat, k ≤ q.length ∧ i = .int .i64 k ∧ Hid (Below w.heap.size w wr) ∧ Hid (fstE (keyE (lvl : Int)) q = fstE (keyE (lvl : Int)) (q.drop k))) (fun i _ => q.length - (intOf i).toNat)
  case atStart => exact ⟨0, Nat.zero_le _, rfl, Below.refl _ _, rfl⟩
  case round =>
    obtain ⟨k, hk, rfl, hU, hF⟩ := hrel
    by_cases hkl : k < q.length
    · obtain ⟨a, ad2, cap2, rfl, _, c0, c1, c2, c3, hrd⟩ := (H.out.up hU.out).at (List.getElem?_eq_getElem hkl)
      have hxk := hid (HQ.out _ (List.getElem_mem hkl))
      have hlx := hid (HLV.out _ (List.getElem_mem hkl))
      have hst := hid (hF.out.trans (fstE_drop _ hkl))
      have hrd2 := hid hrd
      clear hrd hF
      generalize q[k] = x at c0 c1 c2 c3 hrd2 hst hxk hlx
      by_cases ht : x.1 = 524370
      · have hG := hid (hst.out.trans (if_neg (fun h => h (hlx.out ht))))
        have hb : (x.1 == 524370) = true := by simpa using ht
        clear hst hlx ht
        go_wp2
        go_roundw
        case rel => exact ⟨k + 1, by omega, by go_num, hU, hG⟩
        case measure => simp [intOf]; omega
      · have hb : (x.1 == 524370) = false := by simpa using ht
        have C := hid (rkey_any n F wr x ad2 cap2 lvl hlv hrd2.out hxk.out.1 ht hxk.out.2.1 hxk.out.2.2.1 hxk.out.2.2.2)
        clear ht hlx hrd2
        go_wp2_with fail
        go_at_call 221
        refine C.out.mono ?_
        rintro e w2 ⟨rfl, u2⟩
        have U2 := hid (hU.out.trans (u2.mono hU.out.size))
        clear u2 C
        generalize keyE (lvl : Int) x = cc at hst ⊢
        by_cases hc : cc = 0
        · have hG := hid (hst.out.trans (if_neg (fun h => h hc)))
          subst hc
          clear hst
          go_wp2
          go_roundw
          case rel => exact ⟨k + 1, by omega, by go_num, U2, hG⟩
          case measure => simp [intOf]; omega
        · have hG := hid (hst.out.trans (if_pos hc))
          have hR := hid (show askE (lvl : Int) q = cc by rw [hE.out, hG.out]; exact if_pos hc)
          have hc2 : (cc == 0) = false := beq_eq_false_iff_ne.2 hc
          clear hst hc
          go_wp2
          go_ret
          rw [hR.out]
          exact ⟨rfl, U2.out⟩
    · have hG := hid (hF.out.trans (fstE_end _ (by omega)))
      have hR := hid (hE.out.trans (if_neg (fun h => h hG.out)))
      have hkk := hid (fun x hx => keyE_kind (fstE_zero hG.out x hx))
      clear hF hE
      obtain ⟨wA, rfl⟩ : ∃ wA, wA = wr := ⟨_, rfl⟩
      go_wp2_with fail
      go_at_call 163
      refine (rRows_any wA).mono ?_
      rintro e w1 ⟨b, rfl, hrw, u1⟩
      have R1 := hid hrw
      have U1 := hid (hU.out.trans (u1.mono hU.out.size))
      clear hrw u1 hG
      go_wp2_with fail
      go_loopw [8] (fun i wr => ∃ j : Nat, j ≤ lvl ∧ i = .int .i64 j ∧ Hid (Below w1.heap.size w1 wr) ∧ Hid (aboveE q (lvl : Int) [0, 1, 2, 3] = aboveE q (lvl : Int) ([0, 1, 2, 3].drop j))) (fun i _ => lvl - (intOf i).toNat)
      case atStart => exact ⟨0, Nat.zero_le _, rfl, Below.refl _ _, rfl⟩
      case round =>
        obtain ⟨j, hj, rfl, hV, hF⟩ := hrel
        by_cases hjl : j < lvl
        · obtain ⟨c, _, c1, _, c2⟩ := (R1.out.up hV.out) j (by omega)
          have c3 := c2 0 (nameT j) (by rcases (show j = 0 ∨ j = 1 ∨ j = 2 ∨ j = 3 by omega) with rfl | rfl | rfl | rfl <;> rfl)
          have c4 : 0 < (tagsL j).length := by rcases (show j = 0 ∨ j = 1 ∨ j = 2 ∨ j = 3 by omega) with rfl | rfl | rfl | rfl <;> decide
          have hst := hid (hF.out.trans ((aboveE_drop q (lvl : Int) (show j < 4 by omega)).trans (by rw [decide_eq_true (show (j : Int) < (lvl : Int) by omega), plainE_kind hkk.out j]; rfl : _ = (plainV (kindT (nameT j)) (textE q (nameT j)) && aboveE q (lvl : Int) ([0, 1, 2, 3].drop (j + 1))))))
          have hjz : (j : Int) < lvl := by omega
          clear c2 hF
          generalize (tagsL j).length = m at c1 c4
          have B := hid (U1.out.trans (hV.out.mono U1.out.size))
          have htl : (textE q (nameT j)).length ≤ 64 := by
            unfold textE
            cases hf : findE q (nameT j) with
            | none => exact Nat.zero_le _
            | some x => exact (HQ.out x (List.mem_of_find?_eq_some hf)).2.1
          have C1 := hid (fun W (hW : Below w.heap.size w W) => rText_any (n + 1) F W _ q (nameT j) (H.out.up hW) hl)
          have C2 := hid (fun W => rplain_any (bs (kindT (nameT j))) (bs (textE q (nameT j))) W (by rw [bs_size]; omega))
          go_wp2_with fail
          go_at_call 161
          refine (rKind_any _ (nameT j)).mono ?_
          rintro e w2 ⟨rfl, rfl⟩
          go_wp2_with fail
          go_at_call 164
          refine (C1.out _ B.out).mono ?_
          rintro e w3 ⟨rfl, u3⟩
          have V3 := hid (hV.out.trans (u3.mono hV.out.size))
          clear u3
          go_wp2_with fail
          go_at_call 222
          refine (C2.out _).mono ?_
          rintro e w4 ⟨rfl, u4⟩
          have V4 := hid (V3.out.trans (u4.mono V3.out.size))
          clear u4 C1 C2
          rw [bs_list, bs_list]
          generalize plainV (kindT (nameT j)) (textE q (nameT j)) = pb at hst ⊢
          cases pb
          · have hG := hid (show askE (lvl : Int) q = 7 by rw [hR.out, hst.out]; rfl)
            go_wp2
            go_ret
            rw [hG.out]
            exact ⟨rfl, U1.out.trans (V4.out.mono U1.out.size)⟩
          · go_wp2
            go_roundw
            case rel => exact ⟨j + 1, by omega, by go_num, V4, hst⟩
            case measure => simp [intOf]; omega
        · obtain rfl : j = lvl := by omega
          have hG := hid (show askE ((j : Nat) : Int) q = 0 by rw [hR.out, hF.out, aboveE_end q hlv]; rfl)
          clear hF
          go_wp2
          go_ret
          rw [hG.out]
          exact ⟨rfl, U1.out.trans (hV.out.mono U1.out.size)⟩
end Go.Proofs.YtaokifbpakbgdaaGreatDoor

/- Package archive: does something fit a key? fitsKey at a value, fitsItem, the closure of fitsParts. -/
namespace Go.Proofs.YtaokifbpakbgdaaGreatDoor
open Go.RowKit

set_option maxRecDepth 20000 in
set_option maxHeartbeats 2000000 in
theorem fitsKeyV_any (w : World) (t : Int) (kd pv : By) (ad : Option Addr) (m c : Nat) (t2 : Int) (kd2 vl : By) (ad2 : Option Addr) (m2 c2 : Nat) (hp : pv.length ≤ 64) (hl : vl.length ≤ 64) (hk : kd ≠ SQ) (hv : Vars w) :
    Calls Tryz.prog 185 #[.agg #[.int .i64 t, .string (bs kd), .string (bs pv), .slice ad m c], .agg #[.int .i64 t2, .string (bs kd2), .string (bs vl), .slice ad2 m2 c2]] w fun e w' => e = .returned (.bool (matchV kd pv vl)) ∧ Below w.heap.size w w' := by
  have C := hid (fun (W : World) (hW : Vars W) => Match_any (bs kd) (bs pv) (bs vl) W (by rw [bs_size]; omega) (by rw [bs_size]; omega) hW)
  have x1 := bs_toList kd
  have hk2 : (kd == [83, 81]) = false := beq_eq_false_iff_ne.2 hk
  have u1 := Below.alloc (Below.alloc (Below.refl w.heap.size w) (Nat.le_refl _) (.cells #[.int .i64 t, .string (bs kd), .string (bs pv), .slice ad m c] 73)) (by simp) (.cells #[.int .i64 t2, .string (bs kd2), .string (bs vl), .slice ad2 m2 c2] 73)
  have U1 := hid u1
  have V := hid (hv.up u1)
  clear u1 hv hk
  go_enter Tryz.func185, Tryz.ntmps185
  go_wp2_with fail
  go_at_call 12
  refine (C.out _ V.out).mono ?_
  rintro e w2 ⟨rfl, u2⟩
  have U2 := hid (U1.out.trans (Below.mono u2 U1.out.size))
  clear u2 C
  rw [bs_list, bs_list, bs_list]
  generalize hG : matchV kd pv vl = b
  have HG := hid hG
  clear hG
  generalize matchE kd pv vl = ee
  go_wp2
  go_ret
  exact ⟨by rw [HG.out]; rfl, U2.out⟩
/-- An element of an item fits one that was asked for; an item. -/
def fitY {n : Nat} (s : List (El (n + 1))) (y : El (n + 1)) : Bool := matchV y.2.1 y.2.2.1 (textE s y.1)
def fitS {n : Nat} (a s : List (El (n + 1))) : Bool := a.all (fitY s)
theorem all_drop {α : Type} (f : α → Bool) {l : List α} {k : Nat} (h : k < l.length) : (l.drop k).all f = (f l[k] && (l.drop (k + 1)).all f) := by rw [List.drop_eq_getElem_cons h, List.all_cons]
theorem anyb_drop {α : Type} (f : α → Bool) {l : List α} {k : Nat} (h : k < l.length) : (l.drop k).any f = (f l[k] || (l.drop (k + 1)).any f) := by rw [List.drop_eq_getElem_cons h, List.any_cons]
set_option maxRecDepth 20000 in
set_option maxHeartbeats 2000000 in
theorem fitsItem_any (n : Nat) (F G : Nat → Prop) (w : World) (v1 v2 : Value) (a s : List (El (n + 1))) (h1 : Rd w F (n + 1) v1 a) (h2 : Rd w G (n + 1) v2 s) (ha : a.length ≤ 24) (hs : s.length ≤ 24) (hax : ∀ y ∈ a, y.2.1 ≠ SQ ∧ y.2.2.1.length ≤ 64) (hsx : ∀ y ∈ s, y.2.2.1.length ≤ 64) (hv : Vars w) :
    Calls Tryz.prog 280 #[.agg #[v1], .agg #[v2]] w fun e w' => e = .returned (.bool (fitS a s)) ∧ Below w.heap.size w w' := by
  obtain ⟨ad1, cap1, rfl⟩ := h1.slice
  obtain ⟨ad2, cap2, rfl⟩ := h2.slice
  have u1 := Below.alloc (Below.alloc (Below.refl w.heap.size w) (Nat.le_refl _) (.cells #[.slice ad1 a.length cap1] 182)) (by simp) (.cells #[.slice ad2 s.length cap2] 182)
  have hb2 : ((w.alloc (.cells #[.slice ad1 a.length cap1] 182)).alloc (.cells #[.slice ad2 s.length cap2] 182)).heap[w.heap.size + 1]? = some (.cells #[.slice ad2 s.length cap2] 182 (0, 0)) := by
    have := heap_alloc_new (w.alloc (.cells #[.slice ad1 a.length cap1] 182)) (.cells #[.slice ad2 s.length cap2] 182)
    simpa using this
  have HB := hid hb2
  have U1 := hid u1
  have H1 := hid h1
  have H2 := hid h2
  have V := hid hv
  have HA := hid hax
  have HS := hid hsx
  clear h1 h2 hv hax hsx u1 hb2
  go_enter Tryz.func280, Tryz.ntmps280
  go_wp2_with fail
  go_loopw [10] (fun i wr => ∃ k : Nat, k ≤ a.length ∧ i = .int .i64 k ∧ Hid (Below w.heap.size w wr) ∧ Hid (wr.heap[w.heap.size + 1]? = some (.cells #[.slice ad2 s.length cap2] 182 (0, 0))) ∧ Hid (fitS a s = (a.drop k).all (fitY s))) (fun i _ => a.length - (intOf i).toNat)
  case atStart => exact ⟨0, Nat.zero_le _, rfl, U1, HB, rfl⟩
  case round =>
    obtain ⟨k, hk, rfl, hU, hB, hE⟩ := hrel
    by_cases hkl : k < a.length
    · have hat := hid ((H1.out.up hU.out).at (List.getElem?_eq_getElem hkl))
      obtain ⟨a3, ad3, cap3, rfl, _, d0, d1, d2, d3, _⟩ := hat.out
      have hy := hid (HA.out _ (List.getElem_mem hkl))
      have hst := hid (hE.out.trans (all_drop _ hkl))
      clear hat hE
      generalize a[k] = y at d0 d1 d2 d3 hy hst
      have u2 := Below.alloc (Below.refl wr.heap.size wr) (Nat.le_refl _) (.cells #[.int .i64 y.1, .string (bs y.2.1), .string (bs y.2.2.1), .slice ad3 y.2.2.2.length cap3] 73)
      have hX := (Four.new wr (.int .i64 y.1) (.string (bs y.2.1)) (.string (bs y.2.2.1)) (.slice ad3 y.2.2.2.length cap3)).cells
      obtain ⟨⟨x0, x1, x2, x3⟩, _⟩ := hX
      have U2 := hid (hU.out.trans (u2.mono hU.out.size))
      have hlt := lt_of_block hB.out
      have HB2 := hid ((u2.block _ hlt).trans hB.out)
      have z0 : (wr.alloc (.cells #[.int .i64 y.1, .string (bs y.2.1), .string (bs y.2.2.1), .slice ad3 y.2.2.2.length cap3] 73)).cell? ⟨w.heap.size + 1, 0, none⟩ = some (.slice ad2 s.length cap2) := by simp [World.cell?, HB2.out]
      have C1 := hid (fun W (hW : Below w.heap.size w W) => elementOf_any n G W _ s y.1 (H2.out.up hW) hs)
      have C2 := hid (fun W (hW : Below w.heap.size w W) (t2 : Int) (kd2 vl : By) (ad4 : Option Addr) (m4 c4 : Nat) (hvl : vl.length ≤ 64) => fitsKeyV_any W y.1 y.2.1 y.2.2.1 ad3 y.2.2.2.length cap3 t2 kd2 vl ad4 m4 c4 hy.out.2 hvl hy.out.1 (V.out.up hW))
      clear u2 hlt
      go_wp2_with fail
      go_region_with (first
        | (go_at_call 109
           refine (C1.out _ U2.out.drew).mono ?_
           rintro e w3 ⟨u3, hf⟩
           have hx : ∃ (t : Int) (kd vl : By) (ad4 : Option Addr) (n4 cap4 : Nat), e = .returned (.agg #[.int .i64 t, .string (bs kd), .string (bs vl), .slice ad4 n4 cap4]) ∧ Hid (fitY s y = matchV y.2.1 y.2.2.1 vl) ∧ vl.length ≤ 64 := by
             rcases hf with ⟨h1, h2⟩ | ⟨x, iv, h1, h2, h3⟩
             · exact ⟨0, [], [], none, 0, 0, h2, by unfold Hid fitY textE; rw [h1], by decide⟩
             · obtain ⟨ad4, cap4, h4⟩ := h3.slice
               subst h4
               exact ⟨x.1, x.2.1, x.2.2.1, ad4, _, cap4, h2, by unfold Hid fitY textE; rw [h1], HS.out x (List.mem_of_find?_eq_some h1)⟩
           obtain ⟨t, kd, vl, ad4, n4, cap4, rfl, hP, hvl⟩ := hx
           have U3 := hid (U2.out.drew.trans (u3.mono U2.out.drew.size))
           have HB3 := hid ((u3.block _ (lt_of_block HB2.out)).trans HB2.out)
           have X3 := hid (Four.keep (Four.new wr (.int .i64 y.1) (.string (bs y.2.1)) (.string (bs y.2.2.1)) (.slice ad3 y.2.2.2.length cap3)) (u3.block wr.heap.size (show wr.heap.size < (wr.alloc _).heap.size by simp)))
           obtain ⟨⟨y0, y1, y2, y3⟩, _⟩ := X3.out.cells
           clear hf u3)
        | (go_at_call 185
           refine (C2.out _ U3.out t kd vl ad4 n4 cap4 hvl).mono ?_
           rintro e w4 ⟨rfl, u4⟩
           have U4 := hid (U3.out.trans (u4.mono U3.out.size))
           have HB4 := hid ((u4.block _ (lt_of_block HB3.out)).trans HB3.out)
           clear u4
           rw [← hP.out]))
      all_goals
        generalize fitY s y = b at hst ⊢
        cases b
        · go_wp2
          go_ret
          rw [hst.out]
          exact ⟨rfl, U4.out⟩
        · go_wp2
          go_roundw
          case rel => exact ⟨k + 1, by omega, by go_num, U4, HB4, hst⟩
          case measure => simp [intOf]; omega
    · have hF := hid (show fitS a s = true by rw [hE.out, List.drop_eq_nil_of_le (by omega)]; rfl)
      clear hE
      go_wp2
      go_ret
      rw [hF.out]
      exact ⟨rfl, hU.out⟩
end Go.Proofs.YtaokifbpakbgdaaGreatDoor

/- Package folioref on archives: has, itemFits. -/
namespace Go.Proofs.YtaokifbpakbgdaaGreatDoor
open Go.RowKit

theorem RefA.up {w w' : World} {F : Nat → Prop} {n b : Nat} {A : List (List (El (n + 1)))} (h : RefA w F n b A) (k : Below w.heap.size w w') : RefA w' F n b A := h.keep (k.block _ h.lt) (fun _ h => h) (fun j _ hj => k.block j hj)
/-- What something has of a tag. -/
def hasV {n : Nat} (A : List (List (El (n + 1)))) (lvl : Nat) (l : List (El (n + 1))) (t : Int) : By :=
  if (rowG t 0 (lvl + 1)).2 = true then decB (seenA ((rowG t 0 (lvl + 1)).1.toNat + 1) (selA (rowG t 0 (lvl + 1)).1 (nm (rowG t 0 (lvl + 1)).1.toNat l) A) []).length else textE l t
theorem rowG_count {t : Int} (h0 : 0 ≤ t) : ∀ {n i : Nat}, i + n ≤ 4 → (rowG t i n).2 = true → ∃ j : Nat, j < 3 ∧ (rowG t i n).1 = j ∧ cntT j = t
  | 0, i, _, h => by rw [rowG] at h; cases h
  | n + 1, i, hi, h => by
    rw [rowG] at h ⊢
    by_cases h1 : cntT i = t
    · rw [if_pos h1]
      refine ⟨i, ?_, rfl, h1⟩
      apply Decidable.byContradiction
      intro hc
      have : i = 3 := by omega
      subst this
      have : cntT 3 = -1 := by decide
      omega
    · rw [if_neg h1] at h ⊢
      by_cases h2 : (tagsL i).contains t = true
      · rw [if_pos h2] at h; cases h
      · rw [if_neg h2] at h ⊢
        exact rowG_count h0 (by omega) h
theorem selA_len {n : Nat} (ab : Int) (name : By) (A : List (List (El (n + 1)))) : (selA ab name A).length ≤ A.length := by
  unfold selA
  first | exact List.length_filter_le _ _ | (split <;> first | exact List.length_filter_le _ _ | exact Nat.le_refl _)
set_option maxRecDepth 20000 in
set_option maxHeartbeats 2000000 in
theorem rhas_any (n : Nat) (F : Nat → Prop) (w : World) (b : Nat) (A : List (List (El (n + 1)))) (v : Value) (l : List (El (n + 1))) (t : Int) (lvl : Nat) (hlv : lvl < 4) (h : RefA w F n b A) (hv : Rd w F (n + 1) v l) (h24 : l.length ≤ 24) (hl : A.length ≤ 48) (hs : ∀ l ∈ A, l.length ≤ 24) (h0 : 0 ≤ t) :
    Calls Tryz.prog 223 #[ptr b, v, .int .i64 t, .int .i64 lvl] w fun e w' => e = .returned (.string (bs (hasV A lvl l t))) ∧ Below w.heap.size w w' := by
  have H := hid h
  have HV := hid hv
  have HS := hid hs
  have hE := hid (show hasV A lvl l t = if (rowG t 0 (lvl + 1)).2 = true then decB (seenA ((rowG t 0 (lvl + 1)).1.toNat + 1) (selA (rowG t 0 (lvl + 1)).1 (nm (rowG t 0 (lvl + 1)).1.toNat l) A) []).length else textE l t from rfl)
  have hcnt := hid (rowG_count h0 (n := lvl + 1) (i := 0) (by omega))
  clear h hv hs
  go_enter Tryz.func223, Tryz.ntmps223
  go_wp2_with fail
  go_at_call 264
  refine (rrowOf_any _ t lvl hlv).mono ?_
  rintro e w1 ⟨rfl, u1⟩
  have U1 := hid u1
  clear u1
  generalize rowG t 0 (lvl + 1) = rg at hE hcnt ⊢
  cases hb : rg.2
  · have hF := hid (hE.out.trans (if_neg (by rw [hb]; decide)))
    have C := hid (rText_any n F w1 v l t (HV.out.up U1.out) h24)
    clear hE hcnt hb
    go_wp2_with fail
    go_at_call 164
    refine C.out.mono ?_
    rintro e w2 ⟨rfl, u2⟩
    have U2 := hid (U1.out.trans (u2.mono U1.out.size))
    clear u2 C
    rw [← hF.out]
    go_wp2
    go_ret
    exact ⟨rfl, U2.out⟩
  · obtain ⟨i, hi, hr1, _⟩ := hcnt.out hb
    have hF := hid (show hasV A lvl l t = decB (seenA (i + 1) (selA (i : Int) (nm i l) A) []).length by rw [hE.out, if_pos hb, hr1]; rfl)
    have C := hid (rnames_any n F w1 v l (HV.out.up U1.out) h24)
    rw [hr1]
    clear hE hcnt hb hr1
    go_wp2_with fail
    go_at_call 100
    refine C.out.mono ?_
    rintro e w2 ⟨g, cap, rfl, _, hn, u2⟩
    have U2 := hid (U1.out.trans (u2.mono U1.out.size))
    have c0 := hn i (by omega)
    have wrapE : IntKind.i64.wrap ((i : Int) + 1) = ((i + 1 : Nat) : Int) := by
      rcases (show i = 0 ∨ i = 1 ∨ i = 2 by omega) with rfl | rfl | rfl <;> decide
    have hlt : (i : Int) < 4 := by omega
    have C2 := hid (runder_any n F w2 b A (i + 1) (i : Int) (nm i l) (RefA.up H.out U2.out) hl HS.out (by omega) (by omega))
    have hlen := hid (show (seenA (i + 1) (selA (i : Int) (nm i l) A) []).length < 100 from Nat.lt_of_le_of_lt (Nat.le_trans (cntA_le (selA (i : Int) (nm i l) A) (i + 1)) (selA_len _ _ _)) (by omega))
    generalize (seenA (i + 1) (selA (i : Int) (nm i l) A) []).length = cn at hF C2 hlen
    clear u2 hn C
    go_wp2_with fail
    go_at_call 105
    refine C2.out.mono ?_
    rintro e w3 ⟨rfl, u3⟩
    have U3 := hid (U2.out.trans (u3.mono U2.out.size))
    clear u3 C2
    go_wp2_with fail
    go_at_call 266
    refine (rdecimal_any cn _ hlen.out).mono ?_
    rintro e w4 ⟨rfl, u4⟩
    have U4 := hid (U3.out.trans (u4.mono U3.out.size))
    clear u4
    rw [← hF.out]
    go_wp2
    go_ret
    exact ⟨rfl, U4.out⟩
set_option maxRecDepth 20000 in
set_option maxHeartbeats 2000000 in
theorem ritemFits_any (n : Nat) (F G : Nat → Prop) (w : World) (v1 v2 : Value) (s a : List (El (n + 1))) (h1 : Rd w G (n + 1) v1 s) (h2 : Rd w F (n + 1) v2 a) (ha : a.length ≤ 24) (hs : s.length ≤ 24) (hax : ∀ y ∈ a, y.2.1 = LO ∧ y.2.2.1.length ≤ 64) (hsx : ∀ y ∈ s, y.2.2.1.length ≤ 64) :
    Calls Tryz.prog 224 #[.agg #[v1], .agg #[v2]] w fun e w' => e = .returned (.bool (fitS a s)) ∧ Below w.heap.size w w' := by
  obtain ⟨ad1, cap1, rfl⟩ := h1.slice
  obtain ⟨ad2, cap2, rfl⟩ := h2.slice
  have u1 := Below.alloc (Below.alloc (Below.refl w.heap.size w) (Nat.le_refl _) (.cells #[.slice ad1 s.length cap1] 182)) (by simp) (.cells #[.slice ad2 a.length cap2] 182)
  have hb1 : ((w.alloc (.cells #[.slice ad1 s.length cap1] 182)).alloc (.cells #[.slice ad2 a.length cap2] 182)).heap[w.heap.size]? = some (.cells #[.slice ad1 s.length cap1] 182 (0, 0)) := (Below.heap_alloc _ _ _ (by simp)).trans (heap_alloc_new _ _)
  have hb2 : ((w.alloc (.cells #[.slice ad1 s.length cap1] 182)).alloc (.cells #[.slice ad2 a.length cap2] 182)).heap[w.heap.size + 1]? = some (.cells #[.slice ad2 a.length cap2] 182 (0, 0)) := by
    have := heap_alloc_new (w.alloc (.cells #[.slice ad1 s.length cap1] 182)) (.cells #[.slice ad2 a.length cap2] 182)
    simpa using this
  have HB1 := hid hb1
  have HB2 := hid hb2
  have U1 := hid u1
  have H1 := hid h1
  have H2 := hid h2
  have HA := hid hax
  have HS := hid hsx
  clear h1 h2 hax hsx u1 hb1 hb2
  go_enter Tryz.func224, Tryz.ntmps224
  go_wp2_with fail
  go_loopw [5] (fun i wr => ∃ k : Nat, k ≤ a.length ∧ i = .int .i64 k ∧ Hid (Below w.heap.size w wr) ∧ Hid (wr.heap[w.heap.size]? = some (.cells #[.slice ad1 s.length cap1] 182 (0, 0))) ∧ Hid (wr.heap[w.heap.size + 1]? = some (.cells #[.slice ad2 a.length cap2] 182 (0, 0))) ∧ Hid (fitS a s = (a.drop k).all (fitY s))) (fun i _ => a.length - (intOf i).toNat)
  case atStart => exact ⟨0, Nat.zero_le _, rfl, U1, HB1, HB2, rfl⟩
  case round =>
    obtain ⟨k, hk, rfl, hU, hB1, hB2, hE⟩ := hrel
    have z1 : wr.cell? ⟨w.heap.size, 0, none⟩ = some (.slice ad1 s.length cap1) := by simp [World.cell?, hB1.out]
    have z2 : wr.cell? ⟨w.heap.size + 1, 0, none⟩ = some (.slice ad2 a.length cap2) := by simp [World.cell?, hB2.out]
    by_cases hkl : k < a.length
    · obtain ⟨a3, ad3, cap3, rfl, _, d0, d1, d2, d3, _⟩ := (H2.out.up hU.out).at (List.getElem?_eq_getElem hkl)
      have hy := hid (HA.out _ (List.getElem_mem hkl))
      have hst := hid (hE.out.trans (all_drop _ hkl))
      clear hE
      generalize a[k] = y at d0 d1 d2 d3 hy hst
      have htl : (textE s y.1).length ≤ 64 := by
        unfold textE
        cases hf : findE s y.1 with
        | none => exact Nat.zero_le _
        | some x => exact HS.out x (List.mem_of_find?_eq_some hf)
      have C1 := hid (rText_any n G wr.drew _ s y.1 (H1.out.up hU.out.drew) hs)
      have C2 := hid (fun W => rMatch_any ⟨#[76, 79]⟩ (bs y.2.2.1) (bs (textE s y.1)) W (by rw [bs_size]; have := hy.out.2; omega) (by rw [bs_size]; omega))
      have hF := hid (show fitY s y = matchV (⟨#[76, 79]⟩ : ByteArray).data.toList (bs y.2.2.1).data.toList (bs (textE s y.1)).data.toList by unfold fitY; rw [hy.out.1]; rfl)
      go_wp2_with fail
      go_region_with (go_at_call 164; refine C1.out.mono ?_; rintro e w2 ⟨rfl, u2⟩)
      all_goals
        have U2 := hid (hU.out.drew.trans (u2.mono hU.out.drew.size))
        have hl1 : w.heap.size < wr.heap.size := lt_of_block hB1.out
        have hl2 : w.heap.size + 1 < wr.heap.size := lt_of_block hB2.out
        have B1' := hid ((u2.block _ hl1).trans hB1.out)
        have B2' := hid ((u2.block _ hl2).trans hB2.out)
        have y2 : w2.cell? ⟨w.heap.size + 1, 0, none⟩ = some (.slice (some a3) a.length cap2) := by simp [World.cell?, B2'.out]
        have e2 := (u2.cell (World.block_lt_of_cell? _ _ d2)).trans d2
        clear u2
        go_wp2_with fail
        go_at_call 15
        refine (C2.out _).mono ?_
        rintro e w3 ⟨rfl, u3⟩
        have U3 := hid (U2.out.trans (Below.mono u3 U2.out.size))
        have B1'' := hid ((Below.block u3 _ (lt_of_block B1'.out)).trans B1'.out)
        have B2'' := hid ((Below.block u3 _ (lt_of_block B2'.out)).trans B2'.out)
        clear u3
        rw [← hF.out]
        generalize matchE _ _ _ = ee
        generalize fitY s y = fb at hst ⊢
        cases fb
        · go_wp2
          go_ret
          rw [hst.out]
          exact ⟨rfl, U3.out⟩
        · go_wp2
          go_roundw
          case rel => exact ⟨k + 1, by omega, by go_num, U3, B1'', B2'', hst⟩
          case measure => simp [intOf]; omega
    · have hF := hid (show fitS a s = true by rw [hE.out, List.drop_eq_nil_of_le (by omega)]; rfl)
      clear hE
      go_wp2
      go_ret
      rw [hF.out]
      exact ⟨rfl, hU.out⟩
end Go.Proofs.YtaokifbpakbgdaaGreatDoor

/- Package archive: does something fit a key? The closure of fitsParts, slices.IndexFunc and ContainsFunc over it, fitsParts, fitsKey. -/
namespace Go.Proofs.YtaokifbpakbgdaaGreatDoor
open Go.RowKit

set_option maxRecDepth 20000 in
set_option maxHeartbeats 2000000 in
theorem fitsClo_any (n : Nat) (F G : Nat → Prop) (w : World) (b : Nat) (ad : Option Addr) (m c : Nat) (v2 : Value) (a : List (El (n + 1))) (r : Its (n + 1)) (s : List (El (n + 1))) (hb : w.cell? ⟨b, 0, none⟩ = some (.slice ad m c)) (h1 : RdI w F (n + 1) (.slice ad m c) (a :: r)) (h2 : Rd w G (n + 1) v2 s) (ha : a.length ≤ 24) (hs : s.length ≤ 24) (hax : ∀ y ∈ a, y.2.1 ≠ SQ ∧ y.2.2.1.length ≤ 64) (hsx : ∀ y ∈ s, y.2.2.1.length ≤ 64) (hv : Vars w) :
    Calls Tryz.prog 279 #[.agg #[v2], .pointer (some ⟨b, 0, none⟩)] w fun e w' => e = .returned (.bool (fitS a s)) ∧ Below w.heap.size w w' := by
  obtain ⟨ad2, cap2, rfl⟩ := h2.slice
  have hat := h1.at (i := 0) (x := a) rfl
  obtain ⟨p, ad3, cap3, rfl, _, c0, hrd⟩ := hat
  have hm0 : 0 < m := by
    obtain ⟨ad', cap', hvv, _⟩ := h1
    rw [(Value.slice.inj hvv).2.1]; simp
  have u1 := Below.alloc (Below.refl w.heap.size w) (Nat.le_refl _) (.cells #[.slice ad2 s.length cap2] 182)
  have U1 := hid u1
  have d0 := (u1.cell (World.block_lt_of_cell? _ _ c0)).trans c0
  have d1 := (u1.cell (World.block_lt_of_cell? _ _ hb)).trans hb
  have d2 := d0
  rw [Addr.add_zero'] at d2
  have C := hid (fun (W : World) (hW : Below w.heap.size w W) => fitsItem_any n F G W _ _ a s (hrd.up hW) (h2.up hW) ha hs hax hsx (hv.up hW))
  clear h1 h2 hax hsx hv hrd u1 c0 hb
  go_enter Tryz.func279, Tryz.ntmps279
  go_wp2_with fail
  go_region_with (go_at_call 280; refine (C.out _ U1.out.drew).mono ?_; rintro e w2 ⟨rfl, u2⟩)
  all_goals
    have U2 := hid (U1.out.drew.trans (u2.mono U1.out.drew.size))
    clear u2
    go_wp2
    go_ret
    exact ⟨rfl, U2.out⟩
set_option maxRecDepth 20000 in
set_option maxHeartbeats 2000000 in
theorem fitsIndex_any (n : Nat) (F G : Nat → Prop) (w : World) (b : Nat) (ad : Option Addr) (m c : Nat) (v2 : Value) (a : List (El (n + 1))) (r its : Its (n + 1)) (hb : w.cell? ⟨b, 0, none⟩ = some (.slice ad m c)) (h1 : RdI w F (n + 1) (.slice ad m c) (a :: r)) (h2 : RdI w G (n + 1) v2 its) (ha : a.length ≤ 24) (hi : its.length ≤ 8) (hs : ∀ s ∈ its, s.length ≤ 24 ∧ ∀ y ∈ s, y.2.2.1.length ≤ 64) (hax : ∀ y ∈ a, y.2.1 ≠ SQ ∧ y.2.2.1.length ≤ 64) (hv : Vars w) :
    Calls Tryz.prog 311 #[v2, .func (.func 279) #[] #[.pointer (some ⟨b, 0, none⟩)]] w fun e w' => (∃ i : Int, e = .returned (.int .i64 i) ∧ decide (0 ≤ i) = its.any (fitS a)) ∧ Below w.heap.size w w' := by
  obtain ⟨ad2, cap2, rfl⟩ := h2.slice
  have HS := hid hs
  have H2 := hid h2
  have C := hid (fun (W : World) (hW : Below w.heap.size w W) (v : Value) (s : List (El (n + 1))) (hrd : Rd W G (n + 1) v s) (hsl : s.length ≤ 24) (hsx : ∀ y ∈ s, y.2.2.1.length ≤ 64) => fitsClo_any n F G W b ad m c v a r s ((hW.cell (World.block_lt_of_cell? _ _ hb)).trans hb) (h1.up hW) hrd ha hsl hax hsx (hv.up hW))
  clear hb h1 hax hv h2 hs
  go_enter Tryz.func311, Tryz.ntmps311
  go_wp2_with fail
  go_loopw [8] (fun i wr => ∃ k : Nat, k ≤ its.length ∧ i = .int .i64 k ∧ Hid (its.any (fitS a) = (its.drop k).any (fitS a)) ∧ Hid (Below w.heap.size w wr)) (fun i _ => its.length - (intOf i).toNat)
  case atStart => exact ⟨0, Nat.zero_le _, rfl, rfl, Below.refl _ _⟩
  case round =>
    obtain ⟨k, hk, rfl, hsp, hU⟩ := hrel
    by_cases hkl : k < its.length
    · have hat := hid ((H2.out.up hU.out).at (List.getElem?_eq_getElem hkl))
      obtain ⟨p, ad3, cap3, rfl, _, c0, hrd⟩ := hat.out
      have hst := hid (hsp.out.trans (anyb_drop _ hkl))
      have hsk := hid (HS.out _ (List.getElem_mem hkl))
      have hrd2 := hid hrd
      clear hat hrd hsp
      generalize its[k] = s at c0 hrd2 hsk hst
      go_wp2_with fail
      go_at_call 279
      refine (C.out _ hU.out _ s hrd2.out hsk.out.1 hsk.out.2).mono ?_
      rintro e w2 ⟨rfl, u2⟩
      have U2 := hid (hU.out.trans (u2.mono hU.out.size))
      clear u2
      generalize fitS a s = bb at hst ⊢
      cases bb
      · have hst2 := hid (hst.out.trans (Bool.false_or _))
        clear hst
        go_wp2
        go_roundw
        case rel => exact ⟨k + 1, by omega, by go_num, hst2, U2⟩
        case measure => simp [intOf]; omega
      · have hF := hid (show its.any (fitS a) = true by rw [hst.out, Bool.true_or])
        clear hst
        go_wp2
        go_ret
        exact ⟨⟨_, rfl, by rw [hF.out]; simp⟩, U2.out⟩
    · have hF := hid (show its.any (fitS a) = false by rw [hsp.out, List.drop_eq_nil_of_le (by omega)]; rfl)
      go_wp2
      go_ret
      exact ⟨⟨-1, rfl, by rw [hF.out]; rfl⟩, hU.out⟩
set_option maxRecDepth 20000 in
theorem fitsContains_any (n : Nat) (F G : Nat → Prop) (w : World) (b : Nat) (ad : Option Addr) (m c : Nat) (v2 : Value) (a : List (El (n + 1))) (r its : Its (n + 1)) (hb : w.cell? ⟨b, 0, none⟩ = some (.slice ad m c)) (h1 : RdI w F (n + 1) (.slice ad m c) (a :: r)) (h2 : RdI w G (n + 1) v2 its) (ha : a.length ≤ 24) (hi : its.length ≤ 8) (hs : ∀ s ∈ its, s.length ≤ 24 ∧ ∀ y ∈ s, y.2.2.1.length ≤ 64) (hax : ∀ y ∈ a, y.2.1 ≠ SQ ∧ y.2.2.1.length ≤ 64) (hv : Vars w) :
    Calls Tryz.prog 278 #[v2, .func (.func 279) #[] #[.pointer (some ⟨b, 0, none⟩)]] w fun e w' => e = .returned (.bool (its.any (fitS a))) ∧ Below w.heap.size w w' := by
  have c1 := hid (fitsIndex_any n F G w b ad m c v2 a r its hb h1 h2 ha hi hs hax hv)
  clear hb h1 h2 hs hax hv
  go_enter Tryz.func278, Tryz.ntmps278
  go_wp2_with fail
  go_at_call 311
  refine c1.out.mono ?_
  rintro e w2 ⟨⟨i, rfl, hi⟩, u2⟩
  have U2 := hid u2
  have HI := hid hi
  clear u2 c1 hi
  go_wp2
  go_ret
  exact ⟨ret_bool HI.out, U2.out⟩
/-- Do items fit what was asked for? Of that there is one at most. -/
def fitI {n : Nat} (q its : Its (n + 1)) : Bool := match q with
  | [] => true
  | a :: _ => its.any (fitS a)
set_option maxRecDepth 20000 in
set_option maxHeartbeats 2000000 in
theorem fitsParts_any (n : Nat) (F G : Nat → Prop) (w : World) (v1 v2 : Value) (q its : Its (n + 1)) (h1 : RdI w F (n + 1) v1 q) (h2 : RdI w G (n + 1) v2 its) (hi : its.length ≤ 8) (hq : q.length ≤ 8) (hs : ∀ s ∈ its, s.length ≤ 24 ∧ ∀ y ∈ s, y.2.2.1.length ≤ 64) (hqx : ∀ a ∈ q, a.length ≤ 24 ∧ ∀ y ∈ a, y.2.1 ≠ SQ ∧ y.2.2.1.length ≤ 64) (hv : Vars w) :
    Calls Tryz.prog 237 #[v1, v2] w fun e w' => e = .returned (.bool (fitI q its)) ∧ Below w.heap.size w w' := by
  obtain ⟨ad, cap, rfl⟩ := h1.slice
  have u1 := Below.alloc (Below.refl w.heap.size w) (Nat.le_refl _) (.cells #[.slice ad q.length cap] 71)
  have U1 := hid u1
  have d0 : (w.alloc (.cells #[.slice ad q.length cap] 71)).cell? ⟨w.heap.size, 0, none⟩ = some (.slice ad q.length cap) := by simp
  cases q with
  | nil =>
    clear h1 h2 hs hqx hv u1
    go_enter Tryz.func237, Tryz.ntmps237
    go_wp2
    go_ret
    exact ⟨rfl, U1.out⟩
  | cons a r =>
    have C := hid (fitsContains_any n F G _ w.heap.size ad (a :: r).length cap v2 a r its d0 (h1.up u1) (h2.up u1) (hqx a List.mem_cons_self).1 hi hs (hqx a List.mem_cons_self).2 (hv.up u1))
    obtain ⟨ad2, cap2, rfl⟩ := h2.slice
    have hF := hid (show fitI (a :: r) its = its.any (fitS a) from rfl)
    rw [hF.out]
    have hb : (((a :: r).length : Int) == 0) = false := by simp; omega
    clear h1 h2 hs hqx hv u1 hF
    generalize (a :: r).length = m at *
    generalize its.any (fitS a) = bb at *
    go_enter Tryz.func237, Tryz.ntmps237
    go_wp2_with fail
    go_at_call 278
    refine C.out.mono ?_
    rintro e w2 ⟨rfl, u2⟩
    have U2 := hid (U1.out.trans (u2.mono U1.out.size))
    clear u2 C
    go_wp2
    go_ret
    exact ⟨rfl, U2.out⟩
/-- Does something that has this value and these items fit a key? -/
def fitK {n : Nat} (x : El (n + 2)) (vl : By) (its : Its (n + 1)) : Bool := if x.2.1 = SQ then fitI x.2.2.2 its else matchV x.2.1 x.2.2.1 vl
set_option maxRecDepth 20000 in
set_option maxHeartbeats 2000000 in
theorem fitsKey_any (n : Nat) (F G : Nat → Prop) (w : World) (x : El (n + 2)) (ad : Option Addr) (m c : Nat) (t2 : Int) (kd2 vl : By) (ad2 : Option Addr) (m2 c2 : Nat) (its : Its (n + 1)) (h1 : RdI w F (n + 1) (.slice ad m c) x.2.2.2) (h2 : RdI w G (n + 1) (.slice ad2 m2 c2) its) (hp : x.2.2.1.length ≤ 64) (hl : vl.length ≤ 64) (hi : its.length ≤ 8) (hq : x.2.2.2.length ≤ 8) (hs : ∀ s ∈ its, s.length ≤ 24 ∧ ∀ y ∈ s, y.2.2.1.length ≤ 64) (hqx : ∀ a ∈ x.2.2.2, a.length ≤ 24 ∧ ∀ y ∈ a, y.2.1 ≠ SQ ∧ y.2.2.1.length ≤ 64) (hv : Vars w) :
    Calls Tryz.prog 185 #[.agg #[.int .i64 x.1, .string (bs x.2.1), .string (bs x.2.2.1), .slice ad m c], .agg #[.int .i64 t2, .string (bs kd2), .string (bs vl), .slice ad2 m2 c2]] w fun e w' => e = .returned (.bool (fitK x vl its)) ∧ Below w.heap.size w w' := by
  by_cases hk : x.2.1 = SQ
  · have hF := hid (show fitK x vl its = fitI x.2.2.2 its from if_pos hk)
    have u1 := Below.alloc (Below.alloc (Below.refl w.heap.size w) (Nat.le_refl _) (.cells #[.int .i64 x.1, .string (bs x.2.1), .string (bs x.2.2.1), .slice ad m c] 73)) (by simp) (.cells #[.int .i64 t2, .string (bs kd2), .string (bs vl), .slice ad2 m2 c2] 73)
    have U1 := hid u1
    have C := hid (fitsParts_any n F G _ _ _ x.2.2.2 its (h1.up u1) (h2.up u1) hi hq hs hqx (hv.up u1))
    have x1 : (bs x.2.1).toList = [83, 81] := by rw [bs_toList]; exact hk
    rw [hF.out]
    clear h1 h2 hs hqx hv u1 hF hk
    generalize fitI x.2.2.2 its = bb at *
    go_enter Tryz.func185, Tryz.ntmps185
    go_wp2_with fail
    go_at_call 237
    refine C.out.mono ?_
    rintro e w2 ⟨rfl, u2⟩
    have U2 := hid (U1.out.trans (u2.mono U1.out.size))
    clear u2 C
    go_wp2
    go_ret
    exact ⟨rfl, U2.out⟩
  · rw [show fitK x vl its = matchV x.2.1 x.2.2.1 vl from if_neg hk]
    exact fitsKeyV_any w x.1 x.2.1 x.2.2.1 ad m c t2 kd2 vl ad2 m2 c2 hp hl hk hv
end Go.Proofs.YtaokifbpakbgdaaGreatDoor

/-
  Several texts in one; what each one has stands at its head.
-/
import Derived.Test.YtaokifbpakbgdaaGreatDoorPut20
import Derived.Test.YtaokifbpakbgdaaGreatDoorPut15
/- Package archive: does something fit a key? fitsKey at a value, fitsItem, the closure of fitsParts. -/
namespace Go.Proofs.YtaokifbpakbgdaaGreatDoor
open Go.RowKit

set_option maxRecDepth 20000 in
set_option maxHeartbeats 2000000 in
theorem fitsKeyV_any (w : World) (t : Int) (kd pv : By) (ad : Option Addr) (m c : Nat) (t2 : Int) (kd2 vl : By) (ad2 : Option Addr) (m2 c2 : Nat) (hp : pv.length ≤ 64) (hl : vl.length ≤ 64) (hk : kd ≠ SQ) (hv : Vars w) :
    Calls Tryz.prog 185 #[.agg #[.int .i64 t, .string (bs kd), .string (bs pv), .slice ad m c], .agg #[.int .i64 t2, .string (bs kd2), .string (bs vl), .slice ad2 m2 c2]] w fun e w' => e = .returned (.bool (matchV kd pv vl)) ∧ Below w.heap.size w w' := by
  have C := hid (fun (W : World) (hW : Vars W) => Match_any (bs kd) (bs pv) (bs vl) W (by rw [bs_size]; omega) (by rw [bs_size]; omega) hW)
  have x1 := bs_toList kd
  have hk2 : (kd == [83, 81]) = false := beq_eq_false_iff_ne.2 hk
  have u1 := Below.alloc (Below.alloc (Below.refl w.heap.size w) (Nat.le_refl _) (.cells #[.int .i64 t, .string (bs kd), .string (bs pv), .slice ad m c] 73)) (by simp) (.cells #[.int .i64 t2, .string (bs kd2), .string (bs vl), .slice ad2 m2 c2] 73)
  have U1 := hid u1
  have V := hid (hv.up u1)
  clear u1 hv hk
  go_enter Tryz.func185, Tryz.ntmps185
  go_wp2_with fail
  go_at_call 12
  refine (C.out _ V.out).mono ?_
  rintro e w2 ⟨rfl, u2⟩
  have U2 := hid (U1.out.trans (Below.mono u2 U1.out.size))
  clear u2 C
  rw [bs_list, bs_list, bs_list]
  generalize hG : matchV kd pv vl = b
  have HG := hid hG
  clear hG
  generalize matchE kd pv vl = ee
  go_wp2
  go_ret
  exact ⟨by rw [HG.out]; rfl, U2.out⟩
/-- An element of an item fits one that was asked for; an item. -/
def fitY {n : Nat} (s : List (El (n + 1))) (y : El (n + 1)) : Bool := matchV y.2.1 y.2.2.1 (textE s y.1)
def fitS {n : Nat} (a s : List (El (n + 1))) : Bool := a.all (fitY s)
theorem all_drop {α : Type} (f : α → Bool) {l : List α} {k : Nat} (h : k < l.length) : (l.drop k).all f = (f l[k] && (l.drop (k + 1)).all f) := by rw [List.drop_eq_getElem_cons h, List.all_cons]
theorem anyb_drop {α : Type} (f : α → Bool) {l : List α} {k : Nat} (h : k < l.length) : (l.drop k).any f = (f l[k] || (l.drop (k + 1)).any f) := by rw [List.drop_eq_getElem_cons h, List.any_cons]
set_option maxRecDepth 20000 in
set_option maxHeartbeats 2000000 in
theorem fitsItem_any (n : Nat) (F G : Nat → Prop) (w : World) (v1 v2 : Value) (a s : List (El (n + 1))) (h1 : Rd w F (n + 1) v1 a) (h2 : Rd w G (n + 1) v2 s) (ha : a.length ≤ 24) (hs : s.length ≤ 24) (hax : ∀ y ∈ a, y.2.1 ≠ SQ ∧ y.2.2.1.length ≤ 64) (hsx : ∀ y ∈ s, y.2.2.1.length ≤ 64) (hv : Vars w) :
    Calls Tryz.prog 280 #[.agg #[v1], .agg #[v2]] w fun e w' => e = .returned (.bool (fitS a s)) ∧ Below w.heap.size w w' := by
  obtain ⟨ad1, cap1, rfl⟩ := h1.slice
  obtain ⟨ad2, cap2, rfl⟩ := h2.slice
  have u1 := Below.alloc (Below.alloc (Below.refl w.heap.size w) (Nat.le_refl _) (.cells #[.slice ad1 a.length cap1] 182)) (by simp) (.cells #[.slice ad2 s.length cap2] 182)
  have hb2 : ((w.alloc (.cells #[.slice ad1 a.length cap1] 182)).alloc (.cells #[.slice ad2 s.length cap2] 182)).heap[w.heap.size + 1]? = some (.cells #[.slice ad2 s.length cap2] 182 (0, 0)) := by
    have := heap_alloc_new (w.alloc (.cells #[.slice ad1 a.length cap1] 182)) (.cells #[.slice ad2 s.length cap2] 182)
    simpa using this
  have HB := hid hb2
  have U1 := hid u1
  have H1 := hid h1
  have H2 := hid h2
  have V := hid hv
  have HA := hid hax
  have HS := hid hsx
  clear h1 h2 hv hax hsx u1 hb2
  go_enter Tryz.func280, Tryz.ntmps280
  go_wp2_with fail
  go_loopw [10] (fun i wr => ∃ k : Nat, k ≤ a.length ∧ i = .int .i64 k ∧ Hid (Below w.heap.size w wr) ∧ Hid (wr.heap[w.heap.size + 1]? = some (.cells #[.slice ad2 s.length cap2] 182 (0, 0))) ∧ Hid (fitS a s = (a.drop k).all (fitY s))) (fun i _ => a.length - (intOf i).toNat)
  case atStart => exact ⟨0, Nat.zero_le _, rfl, U1, HB, rfl⟩
  case round =>
    obtain ⟨k, hk, rfl, hU, hB, hE⟩ := hrel
    by_cases hkl : k < a.length
    · have hat := hid ((H1.out.up hU.out).at (List.getElem?_eq_getElem hkl))
      obtain ⟨a3, ad3, cap3, rfl, _, d0, d1, d2, d3, _⟩ := hat.out
      have hy := hid (HA.out _ (List.getElem_mem hkl))
      have hst := hid (hE.out.trans (all_drop _ hkl))
      clear hat hE
      generalize a[k] = y at d0 d1 d2 d3 hy hst
      have u2 := Below.alloc (Below.refl wr.heap.size wr) (Nat.le_refl _) (.cells #[.int .i64 y.1, .string (bs y.2.1), .string (bs y.2.2.1), .slice ad3 y.2.2.2.length cap3] 73)
      have hX := (Four.new wr (.int .i64 y.1) (.string (bs y.2.1)) (.string (bs y.2.2.1)) (.slice ad3 y.2.2.2.length cap3)).cells
      obtain ⟨⟨x0, x1, x2, x3⟩, _⟩ := hX
      have U2 := hid (hU.out.trans (u2.mono hU.out.size))
      have hlt := lt_of_block hB.out
      have HB2 := hid ((u2.block _ hlt).trans hB.out)
      have z0 : (wr.alloc (.cells #[.int .i64 y.1, .string (bs y.2.1), .string (bs y.2.2.1), .slice ad3 y.2.2.2.length cap3] 73)).cell? ⟨w.heap.size + 1, 0, none⟩ = some (.slice ad2 s.length cap2) := by simp [World.cell?, HB2.out]
      have C1 := hid (fun W (hW : Below w.heap.size w W) => elementOf_any n G W _ s y.1 (H2.out.up hW) hs)
      have C2 := hid (fun W (hW : Below w.heap.size w W) (t2 : Int) (kd2 vl : By) (ad4 : Option Addr) (m4 c4 : Nat) (hvl : vl.length ≤ 64) => fitsKeyV_any W y.1 y.2.1 y.2.2.1 ad3 y.2.2.2.length cap3 t2 kd2 vl ad4 m4 c4 hy.out.2 hvl hy.out.1 (V.out.up hW))
      clear u2 hlt
      go_wp2_with fail
      go_region_with (first
        | (go_at_call 109
           refine (C1.out _ U2.out.drew).mono ?_
           rintro e w3 ⟨u3, hf⟩
           have hx : ∃ (t : Int) (kd vl : By) (ad4 : Option Addr) (n4 cap4 : Nat), e = .returned (.agg #[.int .i64 t, .string (bs kd), .string (bs vl), .slice ad4 n4 cap4]) ∧ Hid (fitY s y = matchV y.2.1 y.2.2.1 vl) ∧ vl.length ≤ 64 := by
             rcases hf with ⟨h1, h2⟩ | ⟨x, iv, h1, h2, h3⟩
             · exact ⟨0, [], [], none, 0, 0, h2, by unfold Hid fitY textE; rw [h1], by decide⟩
             · obtain ⟨ad4, cap4, h4⟩ := h3.slice
               subst h4
               exact ⟨x.1, x.2.1, x.2.2.1, ad4, _, cap4, h2, by unfold Hid fitY textE; rw [h1], HS.out x (List.mem_of_find?_eq_some h1)⟩
           obtain ⟨t, kd, vl, ad4, n4, cap4, rfl, hP, hvl⟩ := hx
           have U3 := hid (U2.out.drew.trans (u3.mono U2.out.drew.size))
           have HB3 := hid ((u3.block _ (lt_of_block HB2.out)).trans HB2.out)
           have X3 := hid (Four.keep (Four.new wr (.int .i64 y.1) (.string (bs y.2.1)) (.string (bs y.2.2.1)) (.slice ad3 y.2.2.2.length cap3)) (u3.block wr.heap.size (show wr.heap.size < (wr.alloc _).heap.size by simp)))
           obtain ⟨⟨y0, y1, y2, y3⟩, _⟩ := X3.out.cells
           clear hf u3)
        | (go_at_call 185
           refine (C2.out _ U3.out t kd vl ad4 n4 cap4 hvl).mono ?_
           rintro e w4 ⟨rfl, u4⟩
           have U4 := hid (U3.out.trans (u4.mono U3.out.size))
           have HB4 := hid ((u4.block _ (lt_of_block HB3.out)).trans HB3.out)
           clear u4
           rw [← hP.out]))
      all_goals
        generalize fitY s y = b at hst ⊢
        cases b
        · go_wp2
          go_ret
          rw [hst.out]
          exact ⟨rfl, U4.out⟩
        · go_wp2
          go_roundw
          case rel => exact ⟨k + 1, by omega, by go_num, U4, HB4, hst⟩
          case measure => simp [intOf]; omega
    · have hF := hid (show fitS a s = true by rw [hE.out, List.drop_eq_nil_of_le (by omega)]; rfl)
      clear hE
      go_wp2
      go_ret
      rw [hF.out]
      exact ⟨rfl, hU.out⟩
end Go.Proofs.YtaokifbpakbgdaaGreatDoor

/- Package folioref on archives: has, itemFits. -/
namespace Go.Proofs.YtaokifbpakbgdaaGreatDoor
open Go.RowKit

theorem RefA.up {w w' : World} {F : Nat → Prop} {n b : Nat} {A : List (List (El (n + 1)))} (h : RefA w F n b A) (k : Below w.heap.size w w') : RefA w' F n b A := h.keep (k.block _ h.lt) (fun _ h => h) (fun j _ hj => k.block j hj)
/-- What something has of a tag. -/
def hasV {n : Nat} (A : List (List (El (n + 1)))) (lvl : Nat) (l : List (El (n + 1))) (t : Int) : By :=
  if (rowG t 0 (lvl + 1)).2 = true then decB (seenA ((rowG t 0 (lvl + 1)).1.toNat + 1) (selA (rowG t 0 (lvl + 1)).1 (nm (rowG t 0 (lvl + 1)).1.toNat l) A) []).length else textE l t
theorem rowG_count {t : Int} (h0 : 0 ≤ t) : ∀ {n i : Nat}, i + n ≤ 4 → (rowG t i n).2 = true → ∃ j : Nat, j < 3 ∧ (rowG t i n).1 = j ∧ cntT j = t
  | 0, i, _, h => by rw [rowG] at h; cases h
  | n + 1, i, hi, h => by
    rw [rowG] at h ⊢
    by_cases h1 : cntT i = t
    · rw [if_pos h1]
      refine ⟨i, ?_, rfl, h1⟩
      apply Decidable.byContradiction
      intro hc
      have : i = 3 := by omega
      subst this
      have : cntT 3 = -1 := by decide
      omega
    · rw [if_neg h1] at h ⊢
      by_cases h2 : (tagsL i).contains t = true
      · rw [if_pos h2] at h; cases h
      · rw [if_neg h2] at h ⊢
        exact rowG_count h0 (by omega) h
theorem selA_len {n : Nat} (ab : Int) (name : By) (A : List (List (El (n + 1)))) : (selA ab name A).length ≤ A.length := by
  unfold selA
  first | exact List.length_filter_le _ _ | (split <;> first | exact List.length_filter_le _ _ | exact Nat.le_refl _)
set_option maxRecDepth 20000 in
set_option maxHeartbeats 2000000 in
theorem rhas_any (n : Nat) (F : Nat → Prop) (w : World) (b : Nat) (A : List (List (El (n + 1)))) (v : Value) (l : List (El (n + 1))) (t : Int) (lvl : Nat) (hlv : lvl < 4) (h : RefA w F n b A) (hv : Rd w F (n + 1) v l) (h24 : l.length ≤ 24) (hl : A.length ≤ 48) (hs : ∀ l ∈ A, l.length ≤ 24) (h0 : 0 ≤ t) :
    Calls Tryz.prog 223 #[ptr b, v, .int .i64 t, .int .i64 lvl] w fun e w' => e = .returned (.string (bs (hasV A lvl l t))) ∧ Below w.heap.size w w' := by
  have H := hid h
  have HV := hid hv
  have HS := hid hs
  have hE := hid (show hasV A lvl l t = if (rowG t 0 (lvl + 1)).2 = true then decB (seenA ((rowG t 0 (lvl + 1)).1.toNat + 1) (selA (rowG t 0 (lvl + 1)).1 (nm (rowG t 0 (lvl + 1)).1.toNat l) A) []).length else textE l t from rfl)
  have hcnt := hid (rowG_count h0 (n := lvl + 1) (i := 0) (by omega))
  clear h hv hs
  go_enter Tryz.func223, Tryz.ntmps223
  go_wp2_with fail
  go_at_call 264
  refine (rrowOf_any _ t lvl hlv).mono ?_
  rintro e w1 ⟨rfl, u1⟩
  have U1 := hid u1
  clear u1
  generalize rowG t 0 (lvl + 1) = rg at hE hcnt ⊢
  cases hb : rg.2
  · have hF := hid (hE.out.trans (if_neg (by rw [hb]; decide)))
    have C := hid (rText_any n F w1 v l t (HV.out.up U1.out) h24)
    clear hE hcnt hb
    go_wp2_with fail
    go_at_call 164
    refine C.out.mono ?_
    rintro e w2 ⟨rfl, u2⟩
    have U2 := hid (U1.out.trans (u2.mono U1.out.size))
    clear u2 C
    rw [← hF.out]
    go_wp2
    go_ret
    exact ⟨rfl, U2.out⟩
  · obtain ⟨i, hi, hr1, _⟩ := hcnt.out hb
    have hF := hid (show hasV A lvl l t = decB (seenA (i + 1) (selA (i : Int) (nm i l) A) []).length by rw [hE.out, if_pos hb, hr1]; rfl)
    have C := hid (rnames_any n F w1 v l (HV.out.up U1.out) h24)
    rw [hr1]
    clear hE hcnt hb hr1
    go_wp2_with fail
    go_at_call 100
    refine C.out.mono ?_
    rintro e w2 ⟨g, cap, rfl, _, hn, u2⟩
    have U2 := hid (U1.out.trans (u2.mono U1.out.size))
    have c0 := hn i (by omega)
    have wrapE : IntKind.i64.wrap ((i : Int) + 1) = ((i + 1 : Nat) : Int) := by
      rcases (show i = 0 ∨ i = 1 ∨ i = 2 by omega) with rfl | rfl | rfl <;> decide
    have hlt : (i : Int) < 4 := by omega
    have C2 := hid (runder_any n F w2 b A (i + 1) (i : Int) (nm i l) (RefA.up H.out U2.out) hl HS.out (by omega) (by omega))
    have hlen := hid (show (seenA (i + 1) (selA (i : Int) (nm i l) A) []).length < 100 from Nat.lt_of_le_of_lt (Nat.le_trans (cntA_le (selA (i : Int) (nm i l) A) (i + 1)) (selA_len _ _ _)) (by omega))
    generalize (seenA (i + 1) (selA (i : Int) (nm i l) A) []).length = cn at hF C2 hlen
    clear u2 hn C
    go_wp2_with fail
    go_at_call 105
    refine C2.out.mono ?_
    rintro e w3 ⟨rfl, u3⟩
    have U3 := hid (U2.out.trans (u3.mono U2.out.size))
    clear u3 C2
    go_wp2_with fail
    go_at_call 266
    refine (rdecimal_any cn _ hlen.out).mono ?_
    rintro e w4 ⟨rfl, u4⟩
    have U4 := hid (U3.out.trans (u4.mono U3.out.size))
    clear u4
    rw [← hF.out]
    go_wp2
    go_ret
    exact ⟨rfl, U4.out⟩
set_option maxRecDepth 20000 in
set_option maxHeartbeats 2000000 in
theorem ritemFits_any (n : Nat) (F G : Nat → Prop) (w : World) (v1 v2 : Value) (s a : List (El (n + 1))) (h1 : Rd w G (n + 1) v1 s) (h2 : Rd w F (n + 1) v2 a) (ha : a.length ≤ 24) (hs : s.length ≤ 24) (hax : ∀ y ∈ a, y.2.1 = LO ∧ y.2.2.1.length ≤ 64) (hsx : ∀ y ∈ s, y.2.2.1.length ≤ 64) :
    Calls Tryz.prog 224 #[.agg #[v1], .agg #[v2]] w fun e w' => e = .returned (.bool (fitS a s)) ∧ Below w.heap.size w w' := by
  obtain ⟨ad1, cap1, rfl⟩ := h1.slice
  obtain ⟨ad2, cap2, rfl⟩ := h2.slice
  have u1 := Below.alloc (Below.alloc (Below.refl w.heap.size w) (Nat.le_refl _) (.cells #[.slice ad1 s.length cap1] 182)) (by simp) (.cells #[.slice ad2 a.length cap2] 182)
  have hb1 : ((w.alloc (.cells #[.slice ad1 s.length cap1] 182)).alloc (.cells #[.slice ad2 a.length cap2] 182)).heap[w.heap.size]? = some (.cells #[.slice ad1 s.length cap1] 182 (0, 0)) := (Below.heap_alloc _ _ _ (by simp)).trans (heap_alloc_new _ _)
  have hb2 : ((w.alloc (.cells #[.slice ad1 s.length cap1] 182)).alloc (.cells #[.slice ad2 a.length cap2] 182)).heap[w.heap.size + 1]? = some (.cells #[.slice ad2 a.length cap2] 182 (0, 0)) := by
    have := heap_alloc_new (w.alloc (.cells #[.slice ad1 s.length cap1] 182)) (.cells #[.slice ad2 a.length cap2] 182)
    simpa using this
  have HB1 := hid hb1
  have HB2 := hid hb2
  have U1 := hid u1
  have H1 := hid h1
  have H2 := hid h2
  have HA := hid hax
  have HS := hid hsx
  clear h1 h2 hax hsx u1 hb1 hb2
  go_enter Tryz.func224, Tryz.ntmps224
  go_wp2_with fail
  go_loopw [5] (fun i wr => ∃ k : Nat, k ≤ a.length ∧ i = .int .i64 k ∧ Hid (Below w.heap.size w wr) ∧ Hid (wr.heap[w.heap.size]? = some (.cells #[.slice ad1 s.length cap1] 182 (0, 0))) ∧ Hid (wr.heap[w.heap.size + 1]? = some (.cells #[.slice ad2 a.length cap2] 182 (0, 0))) ∧ Hid (fitS a s = (a.drop k).all (fitY s))) (fun i _ => a.length - (intOf i).toNat)
  case atStart => exact ⟨0, Nat.zero_le _, rfl, U1, HB1, HB2, rfl⟩
  case round =>
    obtain ⟨k, hk, rfl, hU, hB1, hB2, hE⟩ := hrel
    have z1 : wr.cell? ⟨w.heap.size, 0, none⟩ = some (.slice ad1 s.length cap1) := by simp [World.cell?, hB1.out]
    have z2 : wr.cell? ⟨w.heap.size + 1, 0, none⟩ = some (.slice ad2 a.length cap2) := by simp [World.cell?, hB2.out]
    by_cases hkl : k < a.length
    · obtain ⟨a3, ad3, cap3, rfl, _, d0, d1, d2, d3, _⟩ := (H2.out.up hU.out).at (List.getElem?_eq_getElem hkl)
      have hy := hid (HA.out _ (List.getElem_mem hkl))
      have hst := hid (hE.out.trans (all_drop _ hkl))
      clear hE
      generalize a[k] = y at d0 d1 d2 d3 hy hst
      have htl : (textE s y.1).length ≤ 64 := by
        unfold textE
        cases hf : findE s y.1 with
        | none => exact Nat.zero_le _
        | some x => exact HS.out x (List.mem_of_find?_eq_some hf)
      have C1 := hid (rText_any n G wr.drew _ s y.1 (H1.out.up hU.out.drew) hs)
      have C2 := hid (fun W => rMatch_any ⟨#[76, 79]⟩ (bs y.2.2.1) (bs (textE s y.1)) W (by rw [bs_size]; have := hy.out.2; omega) (by rw [bs_size]; omega))
      have hF := hid (show fitY s y = matchV (⟨#[76, 79]⟩ : ByteArray).data.toList (bs y.2.2.1).data.toList (bs (textE s y.1)).data.toList by unfold fitY; rw [hy.out.1]; rfl)
      go_wp2_with fail
      go_region_with (go_at_call 164; refine C1.out.mono ?_; rintro e w2 ⟨rfl, u2⟩)
      all_goals
        have U2 := hid (hU.out.drew.trans (u2.mono hU.out.drew.size))
        have hl1 : w.heap.size < wr.heap.size := lt_of_block hB1.out
        have hl2 : w.heap.size + 1 < wr.heap.size := lt_of_block hB2.out
        have B1' := hid ((u2.block _ hl1).trans hB1.out)
        have B2' := hid ((u2.block _ hl2).trans hB2.out)
        have y2 : w2.cell? ⟨w.heap.size + 1, 0, none⟩ = some (.slice (some a3) a.length cap2) := by simp [World.cell?, B2'.out]
        have e2 := (u2.cell (World.block_lt_of_cell? _ _ d2)).trans d2
        clear u2
        go_wp2_with fail
        go_at_call 15
        refine (C2.out _).mono ?_
        rintro e w3 ⟨rfl, u3⟩
        have U3 := hid (U2.out.trans (Below.mono u3 U2.out.size))
        have B1'' := hid ((Below.block u3 _ (lt_of_block B1'.out)).trans B1'.out)
        have B2'' := hid ((Below.block u3 _ (lt_of_block B2'.out)).trans B2'.out)
        clear u3
        rw [← hF.out]
        generalize matchE _ _ _ = ee
        generalize fitY s y = fb at hst ⊢
        cases fb
        · go_wp2
          go_ret
          rw [hst.out]
          exact ⟨rfl, U3.out⟩
        · go_wp2
          go_roundw
          case rel => exact ⟨k + 1, by omega, by go_num, U3, B1'', B2'', hst⟩
          case measure => simp [intOf]; omega
    · have hF := hid (show fitS a s = true by rw [hE.out, List.drop_eq_nil_of_le (by omega)]; rfl)
      clear hE
      go_wp2
      go_ret
      rw [hF.out]
      exact ⟨rfl, hU.out⟩
end Go.Proofs.YtaokifbpakbgdaaGreatDoor

/- Package archive: does something fit a key? The closure of fitsParts, slices.IndexFunc and ContainsFunc over it, fitsParts, fitsKey. -/
namespace Go.Proofs.YtaokifbpakbgdaaGreatDoor
open Go.RowKit

set_option maxRecDepth 20000 in
set_option maxHeartbeats 2000000 in
theorem fitsClo_any (n : Nat) (F G : Nat → Prop) (w : World) (b : Nat) (ad : Option Addr) (m c : Nat) (v2 : Value) (a : List (El (n + 1))) (r : Its (n + 1)) (s : List (El (n + 1))) (hb : w.cell? ⟨b, 0, none⟩ = some (.slice ad m c)) (h1 : RdI w F (n + 1) (.slice ad m c) (a :: r)) (h2 : Rd w G (n + 1) v2 s) (ha : a.length ≤ 24) (hs : s.length ≤ 24) (hax : ∀ y ∈ a, y.2.1 ≠ SQ ∧ y.2.2.1.length ≤ 64) (hsx : ∀ y ∈ s, y.2.2.1.length ≤ 64) (hv : Vars w) :
    Calls Tryz.prog 279 #[.agg #[v2], .pointer (some ⟨b, 0, none⟩)] w fun e w' => e = .returned (.bool (fitS a s)) ∧ Below w.heap.size w w' := by
  obtain ⟨ad2, cap2, rfl⟩ := h2.slice
  have hat := h1.at (i := 0) (x := a) rfl
  obtain ⟨p, ad3, cap3, rfl, _, c0, hrd⟩ := hat
  have hm0 : 0 < m := by
    obtain ⟨ad', cap', hvv, _⟩ := h1
    rw [(Value.slice.inj hvv).2.1]; simp
  have u1 := Below.alloc (Below.refl w.heap.size w) (Nat.le_refl _) (.cells #[.slice ad2 s.length cap2] 182)
  have U1 := hid u1
  have d0 := (u1.cell (World.block_lt_of_cell? _ _ c0)).trans c0
  have d1 := (u1.cell (World.block_lt_of_cell? _ _ hb)).trans hb
  have d2 := d0
  rw [Addr.add_zero'] at d2
  have C := hid (fun (W : World) (hW : Below w.heap.size w W) => fitsItem_any n F G W _ _ a s (hrd.up hW) (h2.up hW) ha hs hax hsx (hv.up hW))
  clear h1 h2 hax hsx hv hrd u1 c0 hb
  go_enter Tryz.func279, Tryz.ntmps279
  go_wp2_with fail
  go_region_with (go_at_call 280; refine (C.out _ U1.out.drew).mono ?_; rintro e w2 ⟨rfl, u2⟩)
  all_goals
    have U2 := hid (U1.out.drew.trans (u2.mono U1.out.drew.size))
    clear u2
    go_wp2
    go_ret
    exact ⟨rfl, U2.out⟩
set_option maxRecDepth 20000 in
set_option maxHeartbeats 2000000 in
theorem fitsIndex_any (n : Nat) (F G : Nat → Prop) (w : World) (b : Nat) (ad : Option Addr) (m c : Nat) (v2 : Value) (a : List (El (n + 1))) (r its : Its (n + 1)) (hb : w.cell? ⟨b, 0, none⟩ = some (.slice ad m c)) (h1 : RdI w F (n + 1) (.slice ad m c) (a :: r)) (h2 : RdI w G (n + 1) v2 its) (ha : a.length ≤ 24) (hi : its.length ≤ 8) (hs : ∀ s ∈ its, s.length ≤ 24 ∧ ∀ y ∈ s, y.2.2.1.length ≤ 64) (hax : ∀ y ∈ a, y.2.1 ≠ SQ ∧ y.2.2.1.length ≤ 64) (hv : Vars w) :
    Calls Tryz.prog 311 #[v2, .func (.func 279) #[] #[.pointer (some ⟨b, 0, none⟩)]] w fun e w' => (∃ i : Int, e = .returned (.int .i64 i) ∧ decide (0 ≤ i) = its.any (fitS a)) ∧ Below w.heap.size w w' := by
  obtain ⟨ad2, cap2, rfl⟩ := h2.slice
  have HS := hid hs
  have H2 := hid h2
  have C := hid (fun (W : World) (hW : Below w.heap.size w W) (v : Value) (s : List (El (n + 1))) (hrd : Rd W G (n + 1) v s) (hsl : s.length ≤ 24) (hsx : ∀ y ∈ s, y.2.2.1.length ≤ 64) => fitsClo_any n F G W b ad m c v a r s ((hW.cell (World.block_lt_of_cell? _ _ hb)).trans hb) (h1.up hW) hrd ha hsl hax hsx (hv.up hW))
  clear hb h1 hax hv h2 hs
  go_enter Tryz.func311, Tryz.ntmps311
  go_wp2_with fail
  go_loopw [8] (fun i wr => ∃ k : Nat, k ≤ its.length ∧ i = .int .i64 k ∧ Hid (its.any (fitS a) = (its.drop k).any (fitS a)) ∧ Hid (Below w.heap.size w wr)) (fun i _ => its.length - (intOf i).toNat)
  case atStart => exact ⟨0, Nat.zero_le _, rfl, rfl, Below.refl _ _⟩
  case round =>
    obtain ⟨k, hk, rfl, hsp, hU⟩ := hrel
    by_cases hkl : k < its.length
    · have hat := hid ((H2.out.up hU.out).at (List.getElem?_eq_getElem hkl))
      obtain ⟨p, ad3, cap3, rfl, _, c0, hrd⟩ := hat.out
      have hst := hid (hsp.out.trans (anyb_drop _ hkl))
      have hsk := hid (HS.out _ (List.getElem_mem hkl))
      have hrd2 := hid hrd
      clear hat hrd hsp
      generalize its[k] = s at c0 hrd2 hsk hst
      go_wp2_with fail
      go_at_call 279
      refine (C.out _ hU.out _ s hrd2.out hsk.out.1 hsk.out.2).mono ?_
      rintro e w2 ⟨rfl, u2⟩
      have U2 := hid (hU.out.trans (u2.mono hU.out.size))
      clear u2
      generalize fitS a s = bb at hst ⊢
      cases bb
      · have hst2 := hid (hst.out.trans (Bool.false_or _))
        clear hst
        go_wp2
        go_roundw
        case rel => exact ⟨k + 1, by omega, by go_num, hst2, U2⟩
        case measure => simp [intOf]; omega
      · have hF := hid (show its.any (fitS a) = true by rw [hst.out, Bool.true_or])
        clear hst
        go_wp2
        go_ret
        exact ⟨⟨_, rfl, by rw [hF.out]; simp⟩, U2.out⟩
    · have hF := hid (show its.any (fitS a) = false by rw [hsp.out, List.drop_eq_nil_of_le (by omega)]; rfl)
      go_wp2
      go_ret
      exact ⟨⟨-1, rfl, by rw [hF.out]; rfl⟩, hU.out⟩
set_option maxRecDepth 20000 in
theorem fitsContains_any (n : Nat) (F G : Nat → Prop) (w : World) (b : Nat) (ad : Option Addr) (m c : Nat) (v2 : Value) (a : List (El (n + 1))) (r its : Its (n + 1)) (hb : w.cell? ⟨b, 0, none⟩ = some (.slice ad m c)) (h1 : RdI w F (n + 1) (.slice ad m c) (a :: r)) (h2 : RdI w G (n + 1) v2 its) (ha : a.length ≤ 24) (hi : its.length ≤ 8) (hs : ∀ s ∈ its, s.length ≤ 24 ∧ ∀ y ∈ s, y.2.2.1.length ≤ 64) (hax : ∀ y ∈ a, y.2.1 ≠ SQ ∧ y.2.2.1.length ≤ 64) (hv : Vars w) :
    Calls Tryz.prog 278 #[v2, .func (.func 279) #[] #[.pointer (some ⟨b, 0, none⟩)]] w fun e w' => e = .returned (.bool (its.any (fitS a))) ∧ Below w.heap.size w w' := by
  have c1 := hid (fitsIndex_any n F G w b ad m c v2 a r its hb h1 h2 ha hi hs hax hv)
  clear hb h1 h2 hs hax hv
  go_enter Tryz.func278, Tryz.ntmps278
  go_wp2_with fail
  go_at_call 311
  refine c1.out.mono ?_
  rintro e w2 ⟨⟨i, rfl, hi⟩, u2⟩
  have U2 := hid u2
  have HI := hid hi
  clear u2 c1 hi
  go_wp2
  go_ret
  exact ⟨ret_bool HI.out, U2.out⟩
/-- Do items fit what was asked for? Of that there is one at most. -/
def fitI {n : Nat} (q its : Its (n + 1)) : Bool := match q with
  | [] => true
  | a :: _ => its.any (fitS a)
set_option maxRecDepth 20000 in
set_option maxHeartbeats 2000000 in
theorem fitsParts_any (n : Nat) (F G : Nat → Prop) (w : World) (v1 v2 : Value) (q its : Its (n + 1)) (h1 : RdI w F (n + 1) v1 q) (h2 : RdI w G (n + 1) v2 its) (hi : its.length ≤ 8) (hq : q.length ≤ 8) (hs : ∀ s ∈ its, s.length ≤ 24 ∧ ∀ y ∈ s, y.2.2.1.length ≤ 64) (hqx : ∀ a ∈ q, a.length ≤ 24 ∧ ∀ y ∈ a, y.2.1 ≠ SQ ∧ y.2.2.1.length ≤ 64) (hv : Vars w) :
    Calls Tryz.prog 237 #[v1, v2] w fun e w' => e = .returned (.bool (fitI q its)) ∧ Below w.heap.size w w' := by
  obtain ⟨ad, cap, rfl⟩ := h1.slice
  have u1 := Below.alloc (Below.refl w.heap.size w) (Nat.le_refl _) (.cells #[.slice ad q.length cap] 71)
  have U1 := hid u1
  have d0 : (w.alloc (.cells #[.slice ad q.length cap] 71)).cell? ⟨w.heap.size, 0, none⟩ = some (.slice ad q.length cap) := by simp
  cases q with
  | nil =>
    clear h1 h2 hs hqx hv u1
    go_enter Tryz.func237, Tryz.ntmps237
    go_wp2
    go_ret
    exact ⟨rfl, U1.out⟩
  | cons a r =>
    have C := hid (fitsContains_any n F G _ w.heap.size ad (a :: r).length cap v2 a r its d0 (h1.up u1) (h2.up u1) (hqx a List.mem_cons_self).1 hi hs (hqx a List.mem_cons_self).2 (hv.up u1))
    obtain ⟨ad2, cap2, rfl⟩ := h2.slice
    have hF := hid (show fitI (a :: r) its = its.any (fitS a) from rfl)
    rw [hF.out]
    have hb : (((a :: r).length : Int) == 0) = false := by simp; omega
    clear h1 h2 hs hqx hv u1 hF
    generalize (a :: r).length = m at *
    generalize its.any (fitS a) = bb at *
    go_enter Tryz.func237, Tryz.ntmps237
    go_wp2_with fail
    go_at_call 278
    refine C.out.mono ?_
    rintro e w2 ⟨rfl, u2⟩
    have U2 := hid (U1.out.trans (u2.mono U1.out.size))
    clear u2 C
    go_wp2
    go_ret
    exact ⟨rfl, U2.out⟩
/-- Does something that has this value and these items fit a key? -/
def fitK {n : Nat} (x : El (n + 2)) (vl : By) (its : Its (n + 1)) : Bool := if x.2.1 = SQ then fitI x.2.2.2 its else matchV x.2.1 x.2.2.1 vl
set_option maxRecDepth 20000 in
set_option maxHeartbeats 2000000 in
theorem fitsKey_any (n : Nat) (F G : Nat → Prop) (w : World) (x : El (n + 2)) (ad : Option Addr) (m c : Nat) (t2 : Int) (kd2 vl : By) (ad2 : Option Addr) (m2 c2 : Nat) (its : Its (n + 1)) (h1 : RdI w F (n + 1) (.slice ad m c) x.2.2.2) (h2 : RdI w G (n + 1) (.slice ad2 m2 c2) its) (hp : x.2.2.1.length ≤ 64) (hl : vl.length ≤ 64) (hi : its.length ≤ 8) (hq : x.2.2.2.length ≤ 8) (hs : ∀ s ∈ its, s.length ≤ 24 ∧ ∀ y ∈ s, y.2.2.1.length ≤ 64) (hqx : ∀ a ∈ x.2.2.2, a.length ≤ 24 ∧ ∀ y ∈ a, y.2.1 ≠ SQ ∧ y.2.2.1.length ≤ 64) (hv : Vars w) :
    Calls Tryz.prog 185 #[.agg #[.int .i64 x.1, .string (bs x.2.1), .string (bs x.2.2.1), .slice ad m c], .agg #[.int .i64 t2, .string (bs kd2), .string (bs vl), .slice ad2 m2 c2]] w fun e w' => e = .returned (.bool (fitK x vl its)) ∧ Below w.heap.size w w' := by
  by_cases hk : x.2.1 = SQ
  · have hF := hid (show fitK x vl its = fitI x.2.2.2 its from if_pos hk)
    have u1 := Below.alloc (Below.alloc (Below.refl w.heap.size w) (Nat.le_refl _) (.cells #[.int .i64 x.1, .string (bs x.2.1), .string (bs x.2.2.1), .slice ad m c] 73)) (by simp) (.cells #[.int .i64 t2, .string (bs kd2), .string (bs vl), .slice ad2 m2 c2] 73)
    have U1 := hid u1
    have C := hid (fitsParts_any n F G _ _ _ x.2.2.2 its (h1.up u1) (h2.up u1) hi hq hs hqx (hv.up u1))
    have x1 : (bs x.2.1).toList = [83, 81] := by rw [bs_toList]; exact hk
    rw [hF.out]
    clear h1 h2 hs hqx hv u1 hF hk
    generalize fitI x.2.2.2 its = bb at *
    go_enter Tryz.func185, Tryz.ntmps185
    go_wp2_with fail
    go_at_call 237
    refine C.out.mono ?_
    rintro e w2 ⟨rfl, u2⟩
    have U2 := hid (U1.out.trans (u2.mono U1.out.size))
    clear u2 C
    go_wp2
    go_ret
    exact ⟨rfl, U2.out⟩
  · rw [show fitK x vl its = matchV x.2.1 x.2.2.1 vl from if_neg hk]
    exact fitsKeyV_any w x.1 x.2.1 x.2.2.1 ad m c t2 kd2 vl ad2 m2 c2 hp hl hk hv
end Go.Proofs.YtaokifbpakbgdaaGreatDoor

/- Package archive: what was laid in last of pictures (slices.MaxFunc, cmp.Compare); put. -/
namespace Go.Proofs.YtaokifbpakbgdaaGreatDoor
open Go.RowKit Go.Maps

theorem isNaN_any (w : World) (a : Int) : Calls Tryz.prog 275 #[.int .i64 a] w fun e w' => e = .returned (.bool false) ∧ w' = w := by
  go_enter Tryz.func275, Tryz.ntmps275
  go_wp2
  go_ret
  exact ⟨by simp, rfl⟩
theorem compare_any (w : World) (a b : Int) : Calls Tryz.prog 234 #[.int .i64 a, .int .i64 b] w fun e w' => (∃ c : Int, e = .returned (.int .i64 c) ∧ decide (0 < c) = decide (b < a)) ∧ w' = w := by
  go_enter Tryz.func234, Tryz.ntmps234
  go_wp2_with fail
  go_at_call 275
  refine (isNaN_any _ _).mono ?_
  rintro e w1 ⟨rfl, rfl⟩
  go_wp2_with fail
  go_at_call 275
  refine (isNaN_any _ _).mono ?_
  rintro e w1 ⟨rfl, rfl⟩
  by_cases h1 : a < b
  · go_wp2
    go_ret
    exact ⟨⟨_, rfl, by rw [decide_eq_false (by omega), decide_eq_false (by omega)]⟩, rfl⟩
  · by_cases h2 : b < a
    · go_wp2
      go_ret
      exact ⟨⟨_, rfl, by rw [decide_eq_true (by omega), decide_eq_true (by omega)]⟩, rfl⟩
    · go_wp2
      go_ret
      exact ⟨⟨_, rfl, by rw [decide_eq_false (by omega), decide_eq_false (by omega)]⟩, rfl⟩
set_option maxRecDepth 20000 in
theorem lastClo_any (w : World) (d1 d2 : Nat) (t1 t2 : Int) : Calls Tryz.prog 233 #[picV d1 t1, picV d2 t2] w fun e w' => (∃ c : Int, e = .returned (.int .i64 c) ∧ decide (0 < c) = decide (t2 < t1)) ∧ Below w.heap.size w w' := by
  have u1 := hid (Below.alloc (Below.alloc (Below.refl w.heap.size w) (Nat.le_refl _) (.cells #[.map (some d1), .int .i64 t1] 131)) (by simp) (.cells #[.map (some d2), .int .i64 t2] 131))
  unfold picV
  go_enter Tryz.func233, Tryz.ntmps233
  go_wp2_with fail
  go_at_call 234
  refine (compare_any _ _ _).mono ?_
  rintro e w1 ⟨⟨c, rfl, hc⟩, rfl⟩
  have HC := hid hc
  clear hc
  go_wp2
  go_ret
  exact ⟨⟨c, rfl, HC.out⟩, u1.out⟩
theorem rowP_at {n : Nat} {A : List (List (El (n + 2)))} {pd : List (El (n + 2)) → Nat × Int} : ∀ {xs : List (Of A)} {k : Nat} (h : k < xs.length), (rowP pd xs)[k * 2]? = some (.map (some (pd xs[k].1).1)) ∧ (rowP pd xs)[k * 2 + 1]? = some (.int .i64 (pd xs[k].1).2)
  | x :: xs, 0, _ => by simp [rowP, pcs]
  | x :: xs, k + 1, h => by
    have ih := rowP_at (pd := pd) (xs := xs) (k := k) (by simpa using h)
    have e : rowP pd (x :: xs) = .map (some (pd x.1).1) :: .int .i64 (pd x.1).2 :: rowP pd xs := by simp [rowP, pcs]
    rw [e, show (k + 1) * 2 = k * 2 + 1 + 1 by omega]
    simpa using ih
theorem pic_at {n : Nat} {A : List (List (El (n + 2)))} {pd : List (El (n + 2)) → Nat × Int} {w : World} {base : Nat} {v : Value} {xs : List (Of A)} (h : w.ownsRow base 131 2 v xs.length (rowP pd xs)) {k : Nat} (hk : k < xs.length) :
    ∃ g cap, v = .slice (some ⟨g, 0, none⟩) xs.length cap ∧ w.cell? ⟨g, k * 2, none⟩ = some (.map (some (pd xs[k].1).1)) ∧ w.cell? ⟨g, k * 2 + 1, none⟩ = some (.int .i64 (pd xs[k].1).2) := by
  rcases id h.2 with ⟨_, h1⟩ | ⟨g, cap, cur, rfl, _⟩
  · omega
  · obtain ⟨q0, q1⟩ := rowP_at (pd := pd) hk
    exact ⟨g, cap, rfl, by rw [h.cellAt _ (by omega)]; exact q0, by rw [h.cellAt _ (by omega)]; exact q1⟩
theorem cells2_set0 {W : World} {B : Nat} {c0 c1 : Value} (h : W.heap[B]? = some (.cells #[c0, c1] 131 (0, 0))) (u : Value) : (W.setCell ⟨B, 0, none⟩ u).heap[B]? = some (.cells #[u, c1] 131 (0, 0)) := by
  have hlt := lt_of_block h
  have h' : W.heap[B] = .cells #[c0, c1] 131 (0, 0) := by rw [Array.getElem?_eq_getElem hlt] at h; exact Option.some.inj h
  show (W.heap.modify B _)[B]? = _
  rw [Array.getElem?_eq_getElem (by simpa using hlt), Array.getElem_modify_self, h']
  rfl
theorem cells2_set1 {W : World} {B : Nat} {c0 c1 : Value} (h : W.heap[B]? = some (.cells #[c0, c1] 131 (0, 0))) (u : Value) : (W.setCell ⟨B, 1, none⟩ u).heap[B]? = some (.cells #[c0, u] 131 (0, 0)) := by
  have hlt := lt_of_block h
  have h' : W.heap[B] = .cells #[c0, c1] 131 (0, 0) := by rw [Array.getElem?_eq_getElem hlt] at h; exact Option.some.inj h
  show (W.heap.modify B _)[B]? = _
  rw [Array.getElem?_eq_getElem (by simpa using hlt), Array.getElem_modify_self, h']
  rfl
theorem cells2_set {W : World} {B : Nat} {c0 c1 : Value} (h : W.heap[B]? = some (.cells #[c0, c1] 131 (0, 0))) (u0 u1 : Value) : ((W.setCell ⟨B, 0, none⟩ u0).setCell ⟨B, 1, none⟩ u1).heap[B]? = some (.cells #[u0, u1] 131 (0, 0)) := cells2_set1 (cells2_set0 h u0) u1
/-- The one of the greatest turn. -/
def IsLast {n : Nat} {A : List (List (El (n + 2)))} (pd : List (El (n + 2)) → Nat × Int) (xs : List (Of A)) (y : Of A) : Prop := y ∈ xs ∧ ∀ x ∈ xs, (pd x.1).2 ≤ (pd y.1).2
theorem IsLast.step {n : Nat} {A : List (List (El (n + 2)))} {pd : List (El (n + 2)) → Nat × Int} {xs : List (Of A)} {k : Nat} (hk : k < xs.length) {y : Of A} (h : IsLast pd (xs.take k) y) : IsLast pd (xs.take (k + 1)) (if (pd y.1).2 < (pd xs[k].1).2 then xs[k] else y) := by
  rw [List.take_succ_eq_append_getElem hk]
  obtain ⟨h1, h2⟩ := h
  by_cases e : (pd y.1).2 < (pd xs[k].1).2
  · rw [if_pos e]
    refine ⟨List.mem_append_right _ (List.mem_singleton.2 rfl), fun x hx => ?_⟩
    rcases List.mem_append.1 hx with hx | hx
    · have := h2 x hx; omega
    · rw [List.mem_singleton.1 hx]; exact Int.le_refl _
  · rw [if_neg e]
    refine ⟨List.mem_append_left _ h1, fun x hx => ?_⟩
    rcases List.mem_append.1 hx with hx | hx
    · exact h2 x hx
    · rw [List.mem_singleton.1 hx]; omega
set_option maxRecDepth 20000 in
set_option maxHeartbeats 2000000 in
theorem maxFunc_any {n : Nat} (A : List (List (El (n + 2)))) (pd : List (El (n + 2)) → Nat × Int) (w : World) (base : Nat) (v : Value) (xs : List (Of A)) (h : w.ownsRow base 131 2 v xs.length (rowP pd xs)) (hne : 0 < xs.length) (hl : xs.length ≤ 48) :
    Calls Tryz.prog 232 #[v, .func (.func 233) #[] #[]] w fun e w' => ∃ y, IsLast pd xs y ∧ e = .returned (picV (pd y.1).1 (pd y.1).2) ∧ Below w.heap.size w w' := by
  obtain ⟨g, cap, rfl, c0, c1⟩ := pic_at h hne
  have H := hid h
  have b1 : ¬ ((xs.length : Int) < 1) := by omega
  have u1 := Below.alloc (Below.alloc (Below.refl w.heap.size w) (Nat.le_refl _) (.cells #[.map none, .int .i64 0] 131)) (by simp) (.cells #[.map (some (pd xs[0].1).1), .int .i64 (pd xs[0].1).2] 131)
  have d0 := (Below.cell (Below.alloc (Below.refl w.heap.size w) (Nat.le_refl _) (.cells #[.map none, .int .i64 0] 131)) (World.block_lt_of_cell? _ _ c0)).trans c0
  have d1 := (Below.cell (Below.alloc (Below.refl w.heap.size w) (Nat.le_refl _) (.cells #[.map none, .int .i64 0] 131)) (World.block_lt_of_cell? _ _ c1)).trans c1
  have hp : Pic2 ((w.alloc (.cells #[.map none, .int .i64 0] 131)).alloc (.cells #[.map (some (pd xs[0].1).1), .int .i64 (pd xs[0].1).2] 131)) (w.heap.size + 1) (pd xs[0].1).1 (pd xs[0].1).2 := by
    have := heap_alloc_new (w.alloc (.cells #[.map none, .int .i64 0] 131)) (.cells #[.map (some (pd xs[0].1).1), .int .i64 (pd xs[0].1).2] 131)
    rw [World.size_alloc] at this
    exact this
  have hr0 : ((w.alloc (.cells #[.map none, .int .i64 0] 131)).alloc (.cells #[.map (some (pd xs[0].1).1), .int .i64 (pd xs[0].1).2] 131)).heap[w.heap.size]? = some (.cells #[.map none, .int .i64 0] 131 (0, 0)) := (Below.heap_alloc _ _ _ (by simp)).trans (heap_alloc_new _ _)
  have U1 := hid u1
  have HP := hid hp
  have HR := hid hr0
  have HL0 := hid (show IsLast pd (xs.take 1) xs[0] by
    rw [List.take_succ_eq_append_getElem hne, List.take_zero, List.nil_append]
    exact ⟨List.mem_singleton.2 rfl, fun x hx => by rw [List.mem_singleton.1 hx]; exact Int.le_refl _⟩)
  clear h u1 hp hr0 c0 c1
  go_enter Tryz.func232, Tryz.ntmps232
  go_wp2_with fail
  go_loopw [6] (fun i wr => ∃ (k : Nat) (y : Of A), 1 ≤ k ∧ k ≤ xs.length ∧ i = .int .i64 k ∧ Hid (IsLast pd (xs.take k) y) ∧ Hid (Pic2 wr (w.heap.size + 1) (pd y.1).1 (pd y.1).2) ∧ Hid (wr.heap[w.heap.size]? = some (.cells #[.map none, .int .i64 0] 131 (0, 0))) ∧ Hid (Below w.heap.size w wr)) (fun i _ => xs.length - (intOf i).toNat)
  case atStart => exact ⟨1, xs[0], Nat.le_refl _, hne, rfl, HL0, HP, HR, U1⟩
  case round =>
    obtain ⟨k, y, hk1, hk, rfl, hL, hP, hR, hU⟩ := hrel
    have e0 := hP.out.cells.1
    have e1 := hP.out.cells.2
    have f0 : wr.frozen? ⟨w.heap.size + 1, 0, none⟩ = false := by have := hP.out; unfold Pic2 at this; simp [World.frozen?, this]
    have f1 : wr.frozen? ⟨w.heap.size + 1, 1, none⟩ = false := by have := hP.out; unfold Pic2 at this; simp [World.frozen?, this]
    by_cases hkl : k < xs.length
    · obtain ⟨g2, cap2, hv2, a0, a1⟩ := pic_at (ownsRow_keep H.out (w' := wr) (fun j hj => hU.out.block j (ownsRow_lt H.out j hj))) hkl
      obtain ⟨hg2, _, rfl⟩ := Value.slice.inj hv2
      injection hg2 with hg2
      injection hg2 with hg2 _ _
      subst hg2
      have hst := hid (hL.out.step hkl)
      clear hv2 hL
      generalize xs[k] = x at a0 a1 hst
      have C := hid (fun W => lastClo_any W (pd x.1).1 (pd y.1).1 (pd x.1).2 (pd y.1).2)
      unfold picV at C
      by_cases hlt : (pd y.1).2 < (pd x.1).2
      · rw [if_pos hlt] at hst
        go_wp2_with fail
        go_region_with (go_at_call 233; refine (C.out _).mono ?_; rintro e w2 ⟨⟨c, rfl, hc⟩, u2⟩; have hc2 : 0 < c := by rw [decide_eq_true hlt] at hc; simpa using hc)
        all_goals
          have hl1 := lt_of_block hR.out
          have hl2 : w.heap.size + 1 < wr.heap.size := lt_of_block hP.out
          have P2 := hid (show Pic2 w2 (w.heap.size + 1) (pd y.1).1 (pd y.1).2 from (u2.block _ hl2).trans hP.out)
          have R2 := hid ((u2.block _ hl1).trans hR.out)
          have U2 := hid (hU.out.drew.trans (u2.mono hU.out.drew.size))
          have b0 := (u2.cell (World.block_lt_of_cell? _ _ a0)).trans a0
          have b1' := (u2.cell (World.block_lt_of_cell? _ _ a1)).trans a1
          have e0' := P2.out.cells.1
          have e1' := P2.out.cells.2
          have f0' : w2.frozen? ⟨w.heap.size + 1, 0, none⟩ = false := by have := P2.out; unfold Pic2 at this; simp [World.frozen?, this]
          have f1' : w2.frozen? ⟨w.heap.size + 1, 1, none⟩ = false := by have := P2.out; unfold Pic2 at this; simp [World.frozen?, this]
          have PS := hid (cells2_set P2.out (.map (some (pd x.1).1)) (.int .i64 (pd x.1).2))
          have RS := hid ((Below.heap_setCell (w2.setCell ⟨w.heap.size + 1, 0, none⟩ (.map (some (pd x.1).1))) ⟨w.heap.size + 1, 1, none⟩ (.int .i64 (pd x.1).2) w.heap.size (by simp)).trans ((Below.heap_setCell w2 ⟨w.heap.size + 1, 0, none⟩ (.map (some (pd x.1).1)) w.heap.size (by simp)).trans R2.out))
          have US := hid ((U2.out.setCell (p := ⟨w.heap.size + 1, 0, none⟩) (by simp) (.map (some (pd x.1).1))).setCell (p := ⟨w.heap.size + 1, 1, none⟩) (by simp) (.int .i64 (pd x.1).2))
          clear hc hlt u2 hP hR hU
          go_wp2
          go_roundw
          case rel => exact ⟨k + 1, x, by omega, by omega, by go_num, hst, PS, RS, US⟩
          case measure => simp [intOf]; omega
      · rw [if_neg hlt] at hst
        have HC := hid (fun (c : Int) (h : decide (0 < c) = decide ((pd y.1).2 < (pd x.1).2)) => (show decide (0 < c) = false by rw [decide_eq_false hlt] at h; exact h))
        go_wp2_with fail
        go_region_with (go_at_call 233; refine (C.out _).mono ?_; rintro e w2 ⟨⟨c, rfl, hc⟩, u2⟩; have hc2 : decide (0 < c) = false := HC.out c hc; clear hc)
        all_goals
          have hl1 := lt_of_block hR.out
          have hl2 : w.heap.size + 1 < wr.heap.size := lt_of_block hP.out
          have P2 := hid (show Pic2 w2 (w.heap.size + 1) (pd y.1).1 (pd y.1).2 from (u2.block _ hl2).trans hP.out)
          have R2 := hid ((u2.block _ hl1).trans hR.out)
          have U2 := hid (hU.out.drew.trans (u2.mono hU.out.drew.size))
          clear hlt u2 hP hR hU
          go_wp2
          go_roundw
          case rel => exact ⟨k + 1, y, by omega, by omega, by go_num, hst, P2, R2, U2⟩
          case measure => simp [intOf]; omega
    · obtain rfl : k = xs.length := by omega
      have hLL := hid (show IsLast pd xs y by have := hL.out; rwa [List.take_of_length_le (Nat.le_refl _)] at this)
      have hb2 := hR.out
      have g0 : wr.cell? ⟨w.heap.size, 0, none⟩ = some (.map none) := by simp [World.cell?, hb2]
      have g1 : wr.cell? ⟨w.heap.size, 1, none⟩ = some (.int .i64 0) := by simp [World.cell?, hb2]
      have k0 : wr.frozen? ⟨w.heap.size, 0, none⟩ = false := by simp [World.frozen?, hb2]
      have k1 : wr.frozen? ⟨w.heap.size, 1, none⟩ = false := by simp [World.frozen?, hb2]
      have r0 := cells2_set hb2 (.map (some (pd y.1).1)) (.int .i64 (pd y.1).2)
      have q0 : ((wr.setCell ⟨w.heap.size, 0, none⟩ (.map (some (pd y.1).1))).setCell ⟨w.heap.size, 1, none⟩ (.int .i64 (pd y.1).2)).cell? ⟨w.heap.size, 0, none⟩ = some (.map (some (pd y.1).1)) := by simp [World.cell?, r0]
      have q1 : ((wr.setCell ⟨w.heap.size, 0, none⟩ (.map (some (pd y.1).1))).setCell ⟨w.heap.size, 1, none⟩ (.int .i64 (pd y.1).2)).cell? ⟨w.heap.size, 1, none⟩ = some (.int .i64 (pd y.1).2) := by simp [World.cell?, r0]
      clear hb2 r0 hL
      go_wp2
      (try simp only [Exit.inBlock, Exit.then])
      refine bodyPost_ret (v := .agg #[.map (some (pd y.1).1), .int .i64 (pd y.1).2]) (by simp [results, Tryz.results232, go_sem, q0, q1]) rfl ?_
      exact ⟨y, hLL.out, rfl, (hU.out.setCell (Nat.le_refl _) _).setCell (Nat.le_refl _) _⟩
set_option maxRecDepth 20000 in
theorem last_any {n : Nat} (A : List (List (El (n + 2)))) (pd : List (El (n + 2)) → Nat × Int) (w : World) (base : Nat) (v : Value) (xs : List (Of A)) (h : w.ownsRow base 131 2 v xs.length (rowP pd xs)) (hne : 0 < xs.length) (hl : xs.length ≤ 48) :
    Calls Tryz.prog 181 #[v] w fun e w' => ∃ y, IsLast pd xs y ∧ e = .returned (picV (pd y.1).1 (pd y.1).2) ∧ Below w.heap.size w w' := by
  have u1 := Below.alloc (Below.refl w.heap.size w) (Nat.le_refl _) (.cells #[.map none, .int .i64 0] 131)
  have C := hid (maxFunc_any A pd _ base v xs (h.alloc (.cells #[.map none, .int .i64 0] 131)) hne hl)
  have U1 := hid u1
  have HB := hid (heap_alloc_new w (.cells #[.map none, .int .i64 0] 131))
  clear h u1
  go_enter Tryz.func181, Tryz.ntmps181
  go_wp2_with fail
  go_at_call 232
  refine C.out.mono ?_
  rintro e w2 ⟨y, hy, rfl, u2⟩
  have HY := hid hy
  have U2 := hid (U1.out.trans (u2.mono U1.out.size))
  have hb2 := (u2.block _ (by simp)).trans HB.out
  have g0 : w2.cell? ⟨w.heap.size, 0, none⟩ = some (.map none) := by simp [World.cell?, hb2]
  have g1 : w2.cell? ⟨w.heap.size, 1, none⟩ = some (.int .i64 0) := by simp [World.cell?, hb2]
  have f0 : w2.frozen? ⟨w.heap.size, 0, none⟩ = false := by simp [World.frozen?, hb2]
  have f1 : w2.frozen? ⟨w.heap.size, 1, none⟩ = false := by simp [World.frozen?, hb2]
  have r0 := cells2_set hb2 (.map (some (pd y.1).1)) (.int .i64 (pd y.1).2)
  have q0 : ((w2.setCell ⟨w.heap.size, 0, none⟩ (.map (some (pd y.1).1))).setCell ⟨w.heap.size, 1, none⟩ (.int .i64 (pd y.1).2)).cell? ⟨w.heap.size, 0, none⟩ = some (.map (some (pd y.1).1)) := by simp [World.cell?, r0]
  have q1 : ((w2.setCell ⟨w.heap.size, 0, none⟩ (.map (some (pd y.1).1))).setCell ⟨w.heap.size, 1, none⟩ (.int .i64 (pd y.1).2)).cell? ⟨w.heap.size, 1, none⟩ = some (.int .i64 (pd y.1).2) := by simp [World.cell?, r0]
  clear u2 hb2 C hy r0
  unfold picV
  go_wp2
  (try simp only [Exit.inBlock, Exit.then])
  refine bodyPost_ret (v := .agg #[.map (some (pd y.1).1), .int .i64 (pd y.1).2]) (by simp [results, Tryz.results181, go_sem, q0, q1]) rfl ?_
  exact ⟨y, HY.out, rfl, (U2.out.setCell (Nat.le_refl _) _).setCell (Nat.le_refl _) _⟩
end Go.Proofs.YtaokifbpakbgdaaGreatDoor

/- Package archive: put; a description that was copied (maps.Clone). -/
namespace Go.Proofs.YtaokifbpakbgdaaGreatDoor
open Go.RowKit Go.Maps

set_option maxRecDepth 20000 in
theorem put_any (w : World) (F : Nat → Prop) (n b m : Nat) (g : Int → Option (El (n + 1))) (t : Int) (s : By) (h : DMk w F n b m g) (hm : m ≤ 100) (hF : ∀ j, F j → j ≠ b) (ht : -9223372036854775808 ≤ t ∧ t ≤ 9223372036854775807) :
    Calls Tryz.prog 182 #[.map (some b), .int .i64 t, .string (bs s)] w fun e w' => e = .returned (.tuple #[]) ∧ w.grownBy w' (some b) ∧ DMk w' F n b (m + 1) (updG g t (t, kindT t, s, [])) := by
  obtain ⟨f, hM, hc⟩ := h
  have hwf := int_wf ht
  have HM := hid hM
  have HC := hid hc
  have HF := hid hF
  clear hM hc hF
  go_enter Tryz.func182, Tryz.ntmps182
  go_wp2_with fail
  go_at_call 178
  refine (kindOf_any _ t).mono ?_
  rintro e w1 ⟨rfl, rfl⟩
  generalize hk : kindT t = kd
  have HK := hid hk
  clear hk
  go_wp2_with (at_mapUpdate; refine wpList_update_F rfl _ _ _ 127 rfl 3 73 (Maps.int_keyed Tryz.underlying3) Tryz.underlying127 b m f rfl HM.out (by unfold maxLen; omega) _ _ (.int .i64 t) rfl rfl (Maps.keyOf_int_mk Tryz.underlying3 hwf) trivial ?_)
  intro w4 hM4 hg4
  have D4 := hid (DMk.put (w := w1) (w' := w4) (F' := F) (x := (t, kd, s, [])) (iv := .slice none 0 0) HC.out (fun j hj => hj) (fun j hj hj2 => hg4.block j hj2 (fun e => HF.out j hj (by simpa using e))) hM4 (RdI.nil _ _ _))
  have G4 := hid hg4
  clear hM4 hg4
  go_wp2
  go_end0
  rw [HK.out]
  exact ⟨rfl, G4.out, D4.out⟩
theorem mclone_any (w : World) (F : Nat → Prop) (n b m : Nat) (g : Int → Option (El (n + 1))) (h : DMk w F n b m g) :
    Calls Tryz.prog 180 #[.map (some b)] w fun e w' => e = .returned (.map (some w.heap.size)) ∧ Below w.heap.size w w' ∧ DMk w' F n w.heap.size m g := by
  obtain ⟨f, ⟨D, h1, h2⟩, hc⟩ := h
  have hcon := AnyW.maps_Clone_owns Tryz.cloneM 3 heldR b m D w h1
  change Calls Tryz.prog 180 _ _ _ at hcon
  refine hcon.mono ?_
  rintro e w' ⟨rfl, h3, _, hB⟩
  exact ⟨rfl, hB, f, ⟨D, h3, h2⟩, fun t => (hc t).keep (fun _ h => h) (fun j _ hj => hB.block j hj)⟩
end Go.Proofs.YtaokifbpakbgdaaGreatDoor

/- The library's iterator over a slice (slices.Values), at pictures; on, by pictures that are known; countIn. -/
namespace Go.Proofs.YtaokifbpakbgdaaGreatDoor
open Go.RowKit Go.Maps Go.Shelf
attribute [local go_sem] Oper.semAt_some

set_option maxRecDepth 100000 in
set_option maxHeartbeats 2000000 in
theorem svalues_in (Fe : Fence) (nF : Nat) (h8 : Fe.fn 277) (hro : Fe.round = none) (hn : 1 ≤ nF) {n : Nat} (l Bm nb lo base N : Nat) (A : List (List (El (n + 2)))) (pd : List (El (n + 2)) → Nat × Int) (J Jx : List (Of A) → World → Prop) (v : Value) (xs : List (Of A)) (hN : xs.length ≤ N) (hN2 : N ≤ 48)
    (hY : ∀ pre x W, J pre W → pre.length < N → YieldAt Fe (nF - 1) Tryz.prog l (encP pd x) W fun e W' => (e = .returned (.bool true) ∧ J (pre ++ [x]) W' ∧ KeepsBut nb lo W W') ∨ (e = .returned (.bool false) ∧ Jx (pre ++ [x]) W'))
    (W : World) (hJ : AbidesFrom W.heap.size J) (hm : W.cell? ⟨Bm, 0, none⟩ = some v) (hrow : W.ownsRow base 131 2 v xs.length (rowP pd xs)) (hrl : ∀ j ∈ v.ownBlock.toList, j < lo) (hlo : lo ≤ W.heap.size) (h0 : J [] W) :
    CallsIn Fe nF Tryz.prog 277 #[.func (.yield l) #[] #[], .pointer (some ⟨Bm, 0, none⟩)] W fun e W' => (∃ v, e = .returned v) ∧ ((∃ ys, ys = xs ∧ J ys W') ∨ (∃ pre, True ∧ Jx pre W')) := by
  obtain ⟨ad, cap, rfl⟩ := row_sl hrow
  refine callsIn_of_wp Tryz.func277 rfl h8 ?_ hro
  simp only [Tryz.ntmps277, List.size_toArray, List.length_cons, List.length_nil, Nat.reduceAdd, Nat.reduceSub, Array.replicate_succ, Array.replicate_zero, List.push_toArray, List.append_toArray, List.nil_append, List.cons_append]
  gi_wp2
  gi_loopw [7] (fun i wr => ∃ k : Nat, k ≤ xs.length ∧ i = .int .i64 k ∧ Hid (∀ j, j < lo → wr.heap[j]? = W.heap[j]?) ∧ Hid (J (xs.take k) wr) ∧ Hid (W.heap.size ≤ wr.heap.size)) (fun i _ => xs.length - (intOf i).toNat)
  case atStart => exact ⟨0, Nat.zero_le _, rfl, fun _ _ => rfl, h0, Nat.le_refl _⟩
  case round =>
    obtain ⟨k, hk, rfl, hL, hJk, hsz⟩ := hrel
    by_cases hkl : k < xs.length
    · obtain ⟨g, cap2, hv, a0, a1⟩ := pic_at (ownsRow_keep hrow (w' := wr) (fun j hj => hL.out j (hrl j hj))) hkl
      obtain ⟨rfl, _, rfl⟩ := Value.slice.inj hv
      have hst : xs.take (k + 1) = xs.take k ++ [xs[k]] := List.take_succ_eq_append_getElem hkl
      have hST := hid hst
      have hlen : (xs.take k).length < N := by rw [List.length_take]; omega
      clear hv hst
      generalize xs[k] = x at a0 a1 hST
      have hJ3 := hJ (xs.take k) wr (wr.alloc (.cells #[.map (some (pd x.1).1), .int .i64 (pd x.1).2] 131)) none hJk.out (World.grownBy_alloc wr _ none) (fun r e => by cases e)
      obtain ⟨fn, tmps, assign, body, hy, hR⟩ := hY (xs.take k) x _ hJ3 hlen
      dsimp only [encP] at hy
      unfold picV at hy
      gi_wp2
      refine hR.mono ?_
      rintro e W3 (⟨rfl, hJ3', hk3⟩ | ⟨rfl, hJx3⟩)
      · gi_wp2
        have hL3 := hid (fun j (hj : j < lo) => (hk3.low j hj).trans ((Below.heap_alloc wr (.cells #[.map (some (pd x.1).1), .int .i64 (pd x.1).2] 131) j (by have := hsz.out; omega)).trans (hL.out j hj)))
        have hsz3 : Hid (W.heap.size ≤ W3.heap.size) := by have q1 := hsz.out; have q2 := hk3.size; rw [World.size_alloc] at q2; unfold Hid; omega
        go_roundw
        case rel => exact ⟨k + 1, by omega, by go_num, hL3, by unfold Hid; rw [hST.out]; exact hJ3', hsz3⟩
        case measure => simp [intOf]; omega
      · gi_wp2
        refine bodyPost_ret (results_none rfl _ _ _) rfl ?_
        exact ⟨⟨_, rfl⟩, .inr ⟨_, trivial, hJx3⟩⟩
    · gi_wp2
      go_end0
      exact ⟨⟨_, rfl⟩, .inl ⟨_, List.take_of_length_le (by omega), hJk.out⟩⟩
theorem slicesValues_any (w : World) (ad : Option Addr) (m c : Nat) : Calls Tryz.prog 236 #[.slice ad m c] w fun e w' => e = .returned (.func (.func 277) #[] #[.pointer (some ⟨w.heap.size, 0, none⟩)]) ∧ w' = w.alloc (.cells #[.slice ad m c] 144) := by
  go_enter Tryz.func236, Tryz.ntmps236
  go_wp2
  go_ret
  exact ⟨rfl, rfl⟩
/-- The pictures of an archive, by their data sets. -/
def PdOf {n : Nat} (w : World) (F : Nat → Prop) (f : Lit → Option Value) (A : List (List (El (n + 2)))) (pd : List (El (n + 2)) → Nat × Int) : Prop := ∀ l ∈ A, f (keyS (nm 3 l)) = some (picV (pd l).1 (pd l).2) ∧ DMk w F (n + 1) (pd l).1 24 (descG l)
theorem PdOf.up {n : Nat} {w w' : World} {F : Nat → Prop} {f : Lit → Option Value} {A : List (List (El (n + 2)))} {pd : List (El (n + 2)) → Nat × Int} (h : PdOf w F f A pd) (k : Below w.heap.size w w') : PdOf w' F f A pd := fun l hl => ⟨(h l hl).1, (h l hl).2.up k⟩
/-- All that is there on a level. -/
def OnEnd2 {n : Nat} (w : World) (lvl : Nat) (A : List (List (El (n + 2)))) (pd : List (El (n + 2)) → Nat × Int) (e : Ending) (W' : World) : Prop := Below w.heap.size w W' ∧
  ∃ (nb B0 : Nat) (xs : List (Of A)) (f : Lit → Option Value) (vs : By → Value), e = .returned (.map (some nb)) ∧ w.heap.size ≤ nb ∧ nb < B0 ∧ (xs.map (·.1)).Perm A ∧ Grps W' B0 nb lvl pd xs f vs
set_option maxRecDepth 20000 in
theorem on2_any (n : Nat) (F : Nat → Prop) (w : World) (a m lvl : Nat) (T : Int) (A : List (List (El (n + 2)))) (f : Lit → Option Value) (pd : List (El (n + 2)) → Nat × Int) (h1 : Arc2 w a m T) (hM : MapF w Tryz.prog 9 m A.length f) (hpd : PdOf w F f A pd) (hK : ∀ k, (f k).isSome = true ↔ ∃ l ∈ A, k = keyS (nm 3 l)) (hG : Good A) (hlv : lvl < 4) (hV : NamesV w) :
    Calls Tryz.prog 104 #[ptr a, .int .i64 lvl] w (OnEnd2 w lvl A pd) := by
  obtain ⟨⟨a0, _⟩, _⟩ := h1.cells
  have u1 : Below w.heap.size w (w.alloc (.cells #[.map (some m)] 122)) := Below.alloc (Below.refl _ _) (Nat.le_refl _) _
  have c1 := byName_any A pd F (w.alloc (.cells #[.map (some m)] 122)) 226 #[.pointer (some ⟨w.heap.size, 0, none⟩)] lvl hlv (fun xs => (xs.map (·.1)).Perm A) A.length hG.1 (enters_of Tryz.func226 (by kernel_rfl) rfl)
    (fun W0 hB0 hsz => fun l J Jx W hW hJ _ hY h0 => by
      have hWz := hW.size
      have hu : Below (w.alloc (.cells #[.map (some m)] 122)).heap.size (w.alloc (.cells #[.map (some m)] 122)) W := hB0.trans (hW.mono hB0.size)
      have hml := hM.lt
      rw [World.size_alloc] at hsz
      exact values1_in Fence.wide 8 trivial rfl (by omega) l w.heap.size m _ _ A f pd J Jx hY W hJ ((hu.cell (by simp)).trans (by simp)) (hM.kept ((hu.block m (by simp; omega)).trans (Below.heap_alloc _ _ _ hml))) hK (fun l hl => (hpd l hl).1) hG.2.1 (by rw [World.size_alloc]; omega) (by rw [World.size_alloc]; omega) h0)
    (fun l hl => ((hpd l hl).2).up u1) (fun l hl => nm_short (n := n + 1) (hG.2.2 l hl).1 lvl) (hV.up u1)
  have C1 := hid c1
  have U1 := hid u1
  clear c1 hpd u1 hM hK hG hV h1
  go_enter Tryz.func104, Tryz.ntmps104
  go_wp2_with fail
  go_at_call 172
  refine (mapsValues_any w (some m)).mono ?_
  rintro e w1 ⟨rfl, rfl⟩
  go_wp2_with fail
  go_at_call 171
  refine C1.out.mono ?_
  rintro e w2 ⟨rfl, u2, xs, f', vs, hS, hGr⟩
  have U2 := hid (U1.out.trans (u2.mono U1.out.size))
  have HS := hid hS
  rw [World.size_alloc] at hGr
  have HGr := hid hGr
  clear u2 hS hGr C1
  go_wp2
  go_ret
  exact ⟨U2.out, _, _, xs, f', vs, rfl, by omega, by omega, HS.out, HGr.out⟩
end Go.Proofs.YtaokifbpakbgdaaGreatDoor

/- Package archive: countIn. -/
namespace Go.Proofs.YtaokifbpakbgdaaGreatDoor
open Go.RowKit Go.Maps Go.Shelf

/-- How many there are one level below of what has a name on a level. -/
def cntB {n : Nat} (A : List (List (El (n + 1)))) (i : Nat) (s : By) : Nat := cntA (A.filter (fun o => nm i o == s)) (i + 1)
theorem seenA_perm {n : Nat} (i : Nat) {L M : List (List (El (n + 1)))} (h : L.Perm M) : (seenA i L []).length = (seenA i M []).length :=
  ((List.perm_ext_iff_of_nodup (seenA_nodup i L [] List.nodup_nil) (seenA_nodup i M [] List.nodup_nil)).2 (fun x => by
    rw [seenA_mem, seenA_mem]
    constructor
    · rintro (h1 | ⟨o, h1, h2⟩)
      · exact Or.inl h1
      · exact Or.inr ⟨o, h.mem_iff.1 h1, h2⟩
    · rintro (h1 | ⟨o, h1, h2⟩)
      · exact Or.inl h1
      · exact Or.inr ⟨o, h.mem_iff.2 h1, h2⟩)).length_eq
theorem Grps.keysL {n : Nat} {A : List (List (El (n + 2)))} {W : World} {B0 nb lvl : Nat} {pd : List (El (n + 2)) → Nat × Int} {xs : List (Of A)} {f : Lit → Option Value} {vs : By → Value} (h : Grps W B0 nb lvl pd xs f vs) : ∀ kl, kl ∈ (seenA lvl (xs.map (·.1)) []).map keyS ↔ (f kl).isSome = true := by
  obtain ⟨_, h2, h3, _, h5⟩ := h
  have hg : ∀ s, grp lvl s xs ≠ [] ↔ s ∈ seenA lvl (xs.map (·.1)) [] := fun s => by
    rw [grp_ne, seenA_mem]
    constructor
    · rintro ⟨x, hx, e⟩
      exact .inr ⟨x.1, List.mem_map.2 ⟨x, hx, rfl⟩, e⟩
    · rintro (h | ⟨o, ho, e⟩)
      · cases h
      · obtain ⟨x, hx, rfl⟩ := List.mem_map.1 ho
        exact ⟨x, hx, e⟩
  intro kl
  rw [List.mem_map]
  constructor
  · rintro ⟨s, hs, rfl⟩
    rw [(h3 s ((hg s).2 hs)).1]; rfl
  · intro hs
    obtain ⟨s, rfl⟩ := h5 kl hs
    refine ⟨s, (hg s).1 (fun e => ?_), rfl⟩
    rw [h2 s e] at hs
    cases hs
theorem grp_perm {n : Nat} {A : List (List (El (n + 2)))} {xs : List (Of A)} (hp : (xs.map (·.1)).Perm A) (i : Nat) (s : By) : ((grp i s xs).map (·.1)).Perm (A.filter (fun o => nm i o == s)) := by
  have := hp.filter (fun o => nm i o == s)
  rw [List.filter_map] at this
  exact this
set_option maxRecDepth 20000 in
set_option maxHeartbeats 2000000 in
theorem countIn_any (n : Nat) (F : Nat → Prop) (w : World) (a m i : Nat) (T : Int) (A : List (List (El (n + 2)))) (f : Lit → Option Value) (pd : List (El (n + 2)) → Nat × Int) (s : By) (h1 : Arc2 w a m T) (hM : MapF w Tryz.prog 9 m A.length f) (hpd : PdOf w F f A pd) (hK : ∀ k, (f k).isSome = true ↔ ∃ l ∈ A, k = keyS (nm 3 l)) (hG : Good A) (hlv : i < 3) (hs : ∃ l ∈ A, nm i l = s) (hV : NamesV w) :
    Calls Tryz.prog 184 #[ptr a, .int .i64 i, .string (bs s)] w fun e w' => e = .returned (.int .i64 (cntB A i s)) ∧ Below w.heap.size w w' := by
  have HPD := hid hpd
  have HG := hid hG
  have HV := hid hV
  have hsl : s.length ≤ 64 := by obtain ⟨l, hl, rfl⟩ := hs; exact nm_short (n := n + 1) (hG.2.2 l hl).1 i
  have HS := hid hs
  have C1 := hid (on2_any n F w a m i T A f pd h1 hM hpd hK hG (by omega) hV)
  clear hpd hG hV hs h1 hM hK
  go_enter Tryz.func184, Tryz.ntmps184
  go_wp2_with fail
  go_at_call 104
  refine C1.out.mono ?_
  rintro e w2 ⟨u2, nb, B0, xs, f2, vs, rfl, hnb, hB0, hp, hGr⟩
  have hne : grp i s xs ≠ [] := by
    obtain ⟨l, hl, hls⟩ := HS.out
    obtain ⟨x, hx, rfl⟩ := List.mem_map.1 (hp.symm.subset hl)
    exact grp_ne.2 ⟨x, hx, hls⟩
  obtain ⟨hf2, hrow⟩ := hGr.2.2.1 s hne
  obtain ⟨ad, cap, hvs⟩ := row_sl hrow
  rw [hvs] at hf2 hrow
  have hlk : (Instr.lookup 136 (.map (some nb)) (.string (bs s)) false).run Tryz.prog w2 = .ok (.slice ad (grp i s xs).length cap) w2 := by
    have := hGr.1.look1 (Maps.string_keyed Tryz.underlying9) Tryz.underlying136 (Tryz.zeroValue144 _) (key := .string (bs s)) (kl := keyS s) (WideMaps.keyOf_string_mk Tryz.underlying9 (by rw [bs_size]; unfold maxLen; omega))
    rw [hf2] at this
    exact this
  have hlen : (grp i s xs).length ≤ 48 := by
    have e1 := (grp_perm hp i s).length_eq
    rw [List.length_map] at e1
    rw [e1]
    exact Nat.le_trans (List.length_filter_le _ _) HG.out.1
  have u3 : Below w2.heap.size w2 (w2.alloc (.cells #[.slice ad (grp i s xs).length cap] 144)) := Below.alloc (Below.refl _ _) (Nat.le_refl _) _
  have U3 := hid (u2.trans (u3.mono u2.size))
  have c3 := byName_any A pd F (w2.alloc (.cells #[.slice ad (grp i s xs).length cap] 144)) 277 #[.pointer (some ⟨w2.heap.size, 0, none⟩)] (i + 1) (by omega) (fun ys => ys = grp i s xs) (grp i s xs).length hlen (enters_of Tryz.func277 (by kernel_rfl) rfl)
    (fun W0 hB0 hsz => fun l J Jx W hW hJ _ hY h0 => by
      have hWz := hW.size
      have hu : Below (w2.alloc (.cells #[.slice ad (grp i s xs).length cap] 144)).heap.size (w2.alloc (.cells #[.slice ad (grp i s xs).length cap] 144)) W := hB0.trans (hW.mono hB0.size)
      have hlt : ∀ j ∈ (Value.slice ad (grp i s xs).length cap).ownBlock.toList, j < w2.heap.size := fun j hj => ownsRow_lt hrow j hj
      rw [World.size_alloc] at hsz
      exact svalues_in Fence.wide 8 trivial rfl (by omega) l w2.heap.size _ _ B0 (grp i s xs).length A pd J Jx _ (grp i s xs) (Nat.le_refl _) hlen hY W hJ ((hu.cell (by simp)).trans (by simp)) (ownsRow_keep hrow (fun j hj => (hu.block j (by have := hlt j hj; simp; omega)).trans (u3.block j (hlt j hj)))) (fun j hj => by have := hlt j hj; simp; omega) (by simp; omega) h0)
    (fun l hl => (HPD.out l hl).2.up U3.out) (fun l hl => nm_short (n := n + 1) (HG.out.2.2 l hl).1 (i + 1)) (HV.out.up U3.out)
  have C3 := hid c3
  have HP := hid hp
  have wrapE : IntKind.i64.wrap ((i : Int) + 1) = ((i + 1 : Nat) : Int) := by
    rcases (show i = 0 ∨ i = 1 ∨ i = 2 by omega) with rfl | rfl | rfl <;> decide
  clear c3 hGr hrow u2 u3 hp hf2 C1
  go_wp2_with fail
  go_at_call 236
  refine (slicesValues_any _ _ _ _).mono ?_
  rintro e w3 ⟨rfl, rfl⟩
  go_wp2_with fail
  go_at_call 171
  refine C3.out.mono ?_
  rintro e w4 ⟨rfl, u4, ys, f4, vs4, rfl, hG4⟩
  have U4 := hid (U3.out.trans (u4.mono U3.out.size))
  have hle : ∀ ty, (Builtin.len_ #[136] ty #[.map (some (w2.heap.size + 1 + 1))]).run Tryz.prog w4 = .ok (.int .i64 (cntB A i s)) w4 := fun ty => by
    have := hG4.1.len (Maps.string_keyed Tryz.underlying9) Tryz.underlying136 (keyS_nodup (seenA_nodup (i + 1) ((grp i s xs).map (·.1)) [] List.nodup_nil)) hG4.keysL ty
    rw [List.length_map, seenA_perm (i + 1) (grp_perm HP.out i s)] at this
    rw [World.size_alloc] at this
    exact this
  clear hG4 u4 C3
  go_wp2
  go_ret
  exact ⟨rfl, U4.out⟩
end Go.Proofs.YtaokifbpakbgdaaGreatDoor

/-
  Several texts in one; what each one has stands at its head.
-/
import Derived.Test.YtaokifbpakbgdaaGreatDoorPut26
import Derived.Test.YtaokifbpakbgdaaGreatDoorPut28
import Derived.Test.YtaokifbpakbgdaaGreatDoorPut20
import Derived.Test.YtaokifbpakbgdaaGreatDoorPut27
/- Package folioref on archives: fits. -/
namespace Go.Proofs.YtaokifbpakbgdaaGreatDoor
open Go.RowKit

def itemsE {n : Nat} (l : List (El (n + 1))) (t : Int) : Its n := match findE l t with
  | some x => x.2.2.2
  | none => []
/-- Does something fit a key? -/
def fitF {n : Nat} (A : List (List (El (n + 2)))) (lvl : Nat) (l : List (El (n + 2))) (x : El (n + 2)) : Bool := if x.2.1 = SQ then fitI x.2.2.2 (itemsE l x.1) else matchV x.2.1 x.2.2.1 (hasV A lvl l x.1)
theorem decB_len (n : Nat) : (decB n).length ≤ 2 := by unfold decB; split <;> simp
theorem hasV_len {n : Nat} {A : List (List (El (n + 1)))} {lvl : Nat} {l : List (El (n + 1))} {t : Int} (h : ∀ x ∈ l, x.2.2.1.length ≤ 64) : (hasV A lvl l t).length ≤ 64 := by
  unfold hasV
  split
  · exact Nat.le_trans (decB_len _) (by decide)
  · unfold textE
    cases hf : findE l t with
    | none => exact Nat.zero_le _
    | some x => exact h x (List.mem_of_find?_eq_some hf)
set_option maxRecDepth 20000 in
set_option maxHeartbeats 4000000 in
theorem rfitsA_any (n : Nat) (F G : Nat → Prop) (w : World) (b : Nat) (A : List (List (El (n + 2)))) (v : Value) (l : List (El (n + 2))) (x : El (n + 2)) (ad : Option Addr) (c lvl : Nat) (hlv : lvl < 4) (h : RefA w F (n + 1) b A) (hv : Rd w F (n + 2) v l) (hx : RdI w G (n + 1) (.slice ad x.2.2.2.length c) x.2.2.2) (hsl : Sane l) (hl : A.length ≤ 48) (hs : ∀ l ∈ A, l.length ≤ 24) (h0 : 0 ≤ x.1) (hp : x.2.2.1.length ≤ 64) (hqx : ∀ a ∈ x.2.2.2, a.length ≤ 24 ∧ ∀ y ∈ a, y.2.1 = LO ∧ y.2.2.1.length ≤ 64) :
    Calls Tryz.prog 168 #[ptr b, v, .agg #[.int .i64 x.1, .string (bs x.2.1), .string (bs x.2.2.1), .slice ad x.2.2.2.length c], .int .i64 lvl] w fun e w' => e = .returned (.bool (fitF A lvl l x)) ∧ Below w.heap.size w w' := by
  have u1 := Below.alloc (Below.refl w.heap.size w) (Nat.le_refl _) (.cells #[.int .i64 x.1, .string (bs x.2.1), .string (bs x.2.2.1), .slice ad x.2.2.2.length c] 73)
  have U1 := hid u1
  have HX := hid (Four.new w (.int .i64 x.1) (.string (bs x.2.1)) (.string (bs x.2.2.1)) (.slice ad x.2.2.2.length c))
  have hhl := hid (hasV_len (A := A) (lvl := lvl) (l := l) (t := x.1) (fun y hy => (hsl.2 y hy).1))
  have y1 := bs_toList x.2.1
  by_cases hk : x.2.1 = SQ
  · have hF := hid (show fitF A lvl l x = fitI x.2.2.2 (itemsE l x.1) from if_pos hk)
    have q1 : (bs x.2.1).toList = [83, 81] := y1.trans hk
    have HI := hid hx
    have HQX := hid hqx
    have C1 := hid (fun W (hW : Below w.heap.size w W) => rfind_any (n + 1) F W v l x.1 (hv.up hW) hsl.1)
    have HSL := hid hsl
    clear h hv hx hsl hs u1 hqx y1 hhl hk
    generalize bs x.2.1 = xb at q1 HX U1 HI C1
    generalize x.2.2.2 = its at HX U1 HI hF HQX C1 ⊢
    go_enter Tryz.func168, Tryz.ntmps168
    cases its with
    | nil =>
      have hF2 := hid (show fitF A lvl l x = true from hF.out)
      clear hF
      go_wp2
      go_ret
      rw [hF2.out]
      exact ⟨rfl, U1.out⟩
    | cons a r =>
      have hF2 := hid (show fitF A lvl l x = (itemsE l x.1).any (fitS a) from hF.out)
      have hqa := hid (HQX.out a List.mem_cons_self)
      have hlb : (((a :: r).length : Int) == 0) = false := by simp; omega
      obtain ⟨⟨x0, x1, x2, x3⟩, _⟩ := HX.out.cells
      clear hF HQX
      go_wp2_with fail
      go_at_call 220
      refine (C1.out _ U1.out).mono ?_
      rintro e w2 ⟨u2, hf⟩
      have hx : ∃ (t2 : Int) (kd2 vl : By) (ad2 : Option Addr) (cap2 : Nat) (ok : Bool), e = .returned (.tuple #[.agg #[.int .i64 t2, .string (bs kd2), .string (bs vl), .slice ad2 (itemsE l x.1).length cap2], .bool ok]) ∧ Hid (RdI w2 F (n + 1) (.slice ad2 (itemsE l x.1).length cap2) (itemsE l x.1)) ∧ Hid ((itemsE l x.1).length ≤ 8 ∧ ∀ s ∈ itemsE l x.1, s.length ≤ 24 ∧ ∀ y ∈ s, y.2.2.1.length ≤ 64) := by
        unfold itemsE
        rcases hf with ⟨h1, h2⟩ | ⟨z, iv, h1, h2, h3⟩
        · rw [h1]
          exact ⟨0, [], [], none, 0, false, h2, RdI.nil _ _ _, Nat.zero_le _, fun s hs => by simp at hs⟩
        · rw [h1]
          obtain ⟨ad2, cap2, h4⟩ := h3.slice
          subst h4
          exact ⟨z.1, z.2.1, z.2.2.1, ad2, cap2, true, h2, h3.up u2, (HSL.out.2 z (List.mem_of_find?_eq_some h1)).2⟩
      obtain ⟨t2, kd2, vl, ad2, cap2, ok, rfl, hit, hsn⟩ := hx
      have U2 := hid (U1.out.trans (u2.mono U1.out.size))
      have X2 := hid (HX.out.keep (u2.block _ (by simp)))
      clear hf u2 C1 HSL x0 x1 x2 x3
      generalize itemsE l x.1 = L at hF2 hit hsn ⊢
      have u3 := Below.alloc (Below.refl w2.heap.size w2) (Nat.le_refl _) (.cells #[.int .i64 t2, .string (bs kd2), .string (bs vl), .slice ad2 L.length cap2] 73)
      have Y3 := hid (Four.new w2 (.int .i64 t2) (.string (bs kd2)) (.string (bs vl)) (.slice ad2 L.length cap2))
      have X3 := hid (X2.out.keep (u3.block _ X2.out.lt))
      have U3 := hid (U2.out.trans (u3.mono U2.out.size))
      have hit3 := hid (hit.out.up u3)
      obtain ⟨w3, hw3⟩ : ∃ w3, w3 = w2.alloc (.cells #[.int .i64 t2, .string (bs kd2), .string (bs vl), .slice ad2 L.length cap2] 73) := ⟨_, rfl⟩
      rw [← hw3] at Y3 X3 U3 hit3
      clear X2 u3 hit
      go_wp2_with fail
      rw [← hw3]
      clear hw3
      go_loopw [13] (fun i wr => ∃ k : Nat, k ≤ L.length ∧ i = .int .i64 k ∧ Hid (Below w3.heap.size w3 wr) ∧ Hid (fitF A lvl l x = (L.drop k).any (fitS a))) (fun i _ => L.length - (intOf i).toNat)
      case atStart => exact ⟨0, Nat.zero_le _, rfl, Below.refl _ _, hF2⟩
      case round =>
        obtain ⟨k, hk, rfl, hV, hE⟩ := hrel
        obtain ⟨⟨_, _, _, x3⟩, _⟩ := (X3.out.keep (hV.out.block _ X3.out.lt)).cells
        obtain ⟨⟨_, _, _, y3⟩, _⟩ := (Y3.out.keep (hV.out.block _ Y3.out.lt)).cells
        have B := hid (U3.out.trans (hV.out.mono U3.out.size))
        by_cases hkl : k < L.length
        · obtain ⟨p, ad4, cap4, rfl, _, c0, hrd⟩ := (hit3.out.up hV.out).at (List.getElem?_eq_getElem hkl)
          obtain ⟨p2, ad5, cap5, rfl, _, d0, hrd5⟩ := (HI.out.up B.out).at (i := 0) (x := a) rfl
          rw [Addr.add_zero'] at d0
          have hst := hid (hE.out.trans (anyb_drop _ hkl))
          have hsk := hid (hsn.out.2 _ (List.getElem_mem hkl))
          have h8 := hsn.out.1
          have hpos : 0 < (a :: r).length := by simp
          clear hE
          generalize L[k] = s at c0 hrd hst hsk
          have C2 := hid (ritemFits_any n G F wr.drew _ _ s a (hrd.up (Below.drew (Below.refl _ _))) (hrd5.up (Below.drew (Below.refl _ _))) hqa.out.1 hsk.out.1 hqa.out.2 hsk.out.2)
          clear hrd hrd5
          generalize (a :: r).length = m at *
          go_wp2_with fail
          go_region_with (go_at_call 224; refine C2.out.mono ?_; rintro e w4 ⟨rfl, u4⟩)
          all_goals
            have V4 := hid (hV.out.drew.trans (u4.mono hV.out.drew.size))
            clear u4
            generalize fitS a s = fb at hst ⊢
            cases fb
            · have hG := hid (hst.out.trans (Bool.false_or _))
              clear hst
              go_wp2
              go_roundw
              case rel => exact ⟨k + 1, by omega, by go_num, V4, hG⟩
              case measure => simp [intOf]; omega
            · have hG := hid (show fitF A lvl l x = true by rw [hst.out, Bool.true_or])
              clear hst
              go_wp2
              go_ret
              rw [hG.out]
              exact ⟨rfl, U3.out.trans (V4.out.mono U3.out.size)⟩
        · have hG := hid (show fitF A lvl l x = false by rw [hE.out, List.drop_eq_nil_of_le (by omega)]; rfl)
          clear hE
          go_wp2
          go_ret
          rw [hG.out]
          exact ⟨rfl, B.out⟩
  · have hF := hid (show fitF A lvl l x = matchV x.2.1 x.2.2.1 (hasV A lvl l x.1) from if_neg hk)
    have q1 : (x.2.1 == [83, 81]) = false := beq_eq_false_iff_ne.2 hk
    have C1 := hid (fun W (hW : Below w.heap.size w W) => rhas_any (n + 1) F W b A v l x.1 lvl hlv (RefA.up h hW) (hv.up hW) hsl.1 hl hs h0)
    have C2 := hid (fun W => rMatch_any (bs x.2.1) (bs x.2.2.1) (bs (hasV A lvl l x.1)) W (by rw [bs_size]; omega) (by rw [bs_size]; have := hhl.out; omega))
    obtain ⟨⟨x0, x1, x2, x3⟩, _⟩ := HX.out.cells
    clear h hv hx hsl hs u1 hqx hhl hk
    go_enter Tryz.func168, Tryz.ntmps168
    go_wp2_with fail
    go_region_with (first
      | (go_at_call 223
         refine (C1.out _ U1.out.drew).mono ?_
         rintro e w2 ⟨rfl, u2⟩
         have U2 := hid (U1.out.drew.trans (u2.mono U1.out.drew.size))
         obtain ⟨⟨y0, y1', y2, y3⟩, _⟩ := (HX.out.keep (u2.block w.heap.size (show w.heap.size < (w.alloc _).heap.size by simp))).cells
         clear u2)
      | (go_at_call 15
         refine (C2.out _).mono ?_
         rintro e w3 ⟨rfl, u3⟩
         have U3 := hid (U2.out.trans (Below.mono u3 U2.out.size))
         clear u3
         rw [bs_list, bs_list, bs_list, ← hF.out]
         generalize matchE x.2.1 x.2.2.1 (hasV A lvl l x.1) = ee))
    all_goals
      go_wp2
      go_ret
      exact ⟨rfl, U3.out⟩
end Go.Proofs.YtaokifbpakbgdaaGreatDoor

/- Package folioref on archives: answer. -/
namespace Go.Proofs.YtaokifbpakbgdaaGreatDoor
open Go.RowKit

theorem four_set2 {w : World} {b : Nat} {c0 c1 c2 c3 : Value} (h : Four w b c0 c1 c2 c3) (u : Value) : Four (w.setCell ⟨b, 2, none⟩ u) b c0 c1 u c3 := by
  have hlt := h.lt
  have h' : w.heap[b] = .cells #[c0, c1, c2, c3] 73 (0, 0) := by have := h; rw [Four, Array.getElem?_eq_getElem hlt] at this; exact Option.some.inj this
  show (w.heap.modify b _)[b]? = _
  rw [Array.getElem?_eq_getElem (by simpa using hlt), Array.getElem_modify_self, h']
  rfl
theorem four_set3 {w : World} {b : Nat} {c0 c1 c2 c3 : Value} (h : Four w b c0 c1 c2 c3) (u : Value) : Four (w.setCell ⟨b, 3, none⟩ u) b c0 c1 c2 u := by
  have hlt := h.lt
  have h' : w.heap[b] = .cells #[c0, c1, c2, c3] 73 (0, 0) := by have := h; rw [Four, Array.getElem?_eq_getElem hlt] at this; exact Option.some.inj this
  show (w.heap.modify b _)[b]? = _
  rw [Array.getElem?_eq_getElem (by simpa using hlt), Array.getElem_modify_self, h']
  rfl
/-- What something answers to a key. -/
def ansF {n : Nat} (A : List (List (El (n + 2)))) (lvl : Nat) (l : List (El (n + 2))) (x : El (n + 2)) : El (n + 2) :=
  if x.1 = 524370 then (x.1, x.2.1, wordL lvl, []) else if x.2.1 = SQ then (x.1, x.2.1, [], (itemsE l x.1).map wordsL) else (x.1, x.2.1, hasV A lvl l x.1, [])
/-- An element that was laid anew, its items too. -/
def CpA (w0 : World) (F : Nat → Prop) (w : World) (c : List Value) (x : El 3) (b : List Nat) : Prop := ∃ iv, c = [.int .i64 x.1, .string (bs x.2.1), .string (bs x.2.2.1), iv] ∧ Row w 182 1 (CpI w0 F 1 w) iv x.2.2.2 b
theorem CpA.keep {w0 : World} {F : Nat → Prop} (w w' : World) (c : List Value) (x : El 3) (b : List Nat) (h : CpA w0 F w c x b) (k : ∀ j ∈ b, w'.heap[j]? = w.heap[j]?) : CpA w0 F w' c x b := by
  obtain ⟨iv, h1, h2⟩ := h
  exact ⟨iv, h1, h2.keep k (fun _ _ _ hb _ h => h.keep _ _ _ _ _ (fun j hj => k j (hb j hj)))⟩
theorem rd_cpA {w w' : World} {F F' : Nat → Prop} {v : Value} {l : List (El 3)} {b : List Nat} (hr : Row w' 73 4 (CpA w F w') v l b) (hu : Below w.heap.size w w') (hF : ∀ j, F j → F' j) (hv : ∀ j ∈ b, F' j) : Rd w' F' 3 v l := by
  refine Row.read hr F' hv _ (fun a c x b _ _ => ?_)
  rintro ⟨iv, rfl, h1⟩ _ hb hc
  have c0 := hc 0 _ rfl
  rw [Addr.add_zero'] at c0
  exact ⟨c0, hc 1 _ rfl, hc 2 _ rfl, iv, hc 3 _ rfl, rdI_cp (n := 1) h1 hu hF (fun j hj => hv j (hb j hj))⟩
theorem Row.nilI (w w0 : World) (F : Nat → Prop) : Row w 182 1 (CpI w0 F 1 w) (.slice none 0 0) [] [] := ⟨[], [], World.ownsRow_nil _ _ _ _, ⟨rfl, rfl⟩, rfl⟩
set_option maxRecDepth 20000 in
set_option maxHeartbeats 8000000 in
theorem ranswer_any (F G : Nat → Prop) (w : World) (b : Nat) (A : List (List (El 3))) (v vq : Value) (l q : List (El 3)) (lvl : Nat) (hlv : lvl < 4) (h : RefA w F 2 b A) (hv : Rd w F 3 v l) (hF : ∀ j, F j → j < w.heap.size) (hq : Rd w G 3 vq q) (hsl : Sane (n := 1) l) (hl : A.length ≤ 48) (hs : ∀ l ∈ A, l.length ≤ 24) (hq24 : q.length ≤ 24) (hq0 : ∀ x ∈ q, 0 ≤ x.1) (hok : errS 3 0 (q.map (ansF (n := 1) A lvl l)) = 0) :
    Calls Tryz.prog 169 #[ptr b, v, vq, .int .i64 lvl] w fun e w' => e = .returned (.string (bs (wrS false 0 3 (q.map (ansF (n := 1) A lvl l))))) ∧ Below w.heap.size w w' := by
  obtain ⟨ad, cap, rfl⟩ := hq.slice
  obtain ⟨i0, hi0, hz0, hz1, hz2⟩ := info_parts info_element
  have HI := hid hi0
  have H := hid h
  have HV := hid hv
  have HQ := hid hq
  have HF := hid hF
  have HSL := hid hsl
  have HS := hid hs
  have HQ0 := hid hq0
  have HOK := hid hok
  clear hi0 h hv hq hF hsl hs hq0 hok
  go_enter Tryz.func169, Tryz.ntmps169
  go_wp2_with fail
  go_at_call 163
  refine (rRows_any w).mono ?_
  rintro e w1 ⟨tb, rfl, hrw, u1⟩
  have R1 := hid hrw
  have U1 := hid u1
  clear hrw u1
  go_wp2_with fail
  go_loopw [9, 11] (fun o i wr => ∃ (k : Nat) (xs : List Value) (cs : List Nat), k ≤ q.length ∧ i = .int .i64 k ∧ Hid (wr.ownsRow 0 73 4 o ((q.take k).map (ansF (n := 1) A lvl l)).length xs) ∧ Hid (Ls 4 (CpA w F wr) xs ((q.take k).map (ansF (n := 1) A lvl l)) cs) ∧ Hid (New w1 wr (o.ownBlock.toList ++ cs)) ∧ Hid (Below w1.heap.size w1 wr)) (fun _ i _ => q.length - (intOf i).toNat)
  case atStart => exact ⟨0, [], [], Nat.zero_le _, rfl, World.ownsRow_nil _ _ _ _, ⟨rfl, rfl⟩, New.nil _ _, Below.refl _ _⟩
  case round =>
    obtain ⟨k, xs, cs, hk, rfl, hown, hls, hnew, hU⟩ := hrel
    obtain ⟨wA, rfl⟩ : ∃ wA, wA = wr := ⟨_, rfl⟩
    have B := hid (U1.out.trans (hU.out.mono U1.out.size))
    by_cases hkl : k < q.length
    · obtain ⟨a, ad2, cap2, rfl, _, c0, c1, c2, c3, _⟩ := (HQ.out.up B.out).at (List.getElem?_eq_getElem hkl)
      have hst := hid (show (q.take (k + 1)).map (ansF (n := 1) A lvl l) = (q.take k).map (ansF (n := 1) A lvl l) ++ [ansF (n := 1) A lvl l q[k]] by rw [List.take_succ_eq_append_getElem hkl, List.map_append]; rfl)
      have hx0 := hid (HQ0.out _ (List.getElem_mem hkl))
      have hlen := hid (show ((q.take k).map (ansF (n := 1) A lvl l)).length ≤ 24 by rw [List.length_map, List.length_take]; omega)
      generalize q[k] = x at c0 c1 c2 c3 hst hx0
      generalize (q.take k).map (ansF (n := 1) A lvl l) = done at hown hls hst hlen
      have z0 := (Below.cell (Below.alloc (Below.refl wA.heap.size wA) (Nat.le_refl _) (.cells #[.int .i64 0, .string ⟨#[]⟩, .string ⟨#[]⟩, .slice none 0 0] 73)) (World.block_lt_of_cell? _ _ c0)).trans c0
      have z1 := (Below.cell (Below.alloc (Below.refl wA.heap.size wA) (Nat.le_refl _) (.cells #[.int .i64 0, .string ⟨#[]⟩, .string ⟨#[]⟩, .slice none 0 0] 73)) (World.block_lt_of_cell? _ _ c1)).trans c1
      go_wp2_with fail
      go_region
      have hF0 := hid (show Four (wA.alloc (.cells #[.int .i64 x.1, .string (bs x.2.1), .string ⟨#[]⟩, .slice none 0 0] 73)).drew wA.heap.size (.int .i64 x.1) (.string (bs x.2.1)) (.string ⟨#[]⟩) (.slice none 0 0) from Four.new wA _ _ _ _)
      have hW1 := hid (Below.drew (Below.alloc (Below.refl wA.heap.size wA) (Nat.le_refl _) (.cells #[.int .i64 x.1, .string (bs x.2.1), .string ⟨#[]⟩, .slice none 0 0] 73)))
      obtain ⟨W1, hWe⟩ : ∃ W1, (wA.alloc (.cells #[.int .i64 x.1, .string (bs x.2.1), .string ⟨#[]⟩, .slice none 0 0] 73)).drew = W1 := ⟨_, rfl⟩
      rw [hWe] at hF0 hW1 ⊢
      clear hWe
      obtain ⟨⟨x0, x1, x2, x3⟩, f0, f1, f2, f3⟩ := hF0.out.cells
      have y1 := bs_toList x.2.1
      obtain ⟨c, r0, _⟩ := R1.out.up (hU.out.trans (hW1.out.mono hU.out.size)) lvl hlv
      have hlvz : (lvl : Int) < 4 := by omega
      have hA0 := hid (show ansF (n := 1) A lvl l x = if x.1 = 524370 then (x.1, x.2.1, wordL lvl, []) else if x.2.1 = SQ then (x.1, x.2.1, [], (itemsE l x.1).map wordsL) else (x.1, x.2.1, hasV A lvl l x.1, []) from rfl)
      clear c0 c1 c2 c3 z0 z1
      by_cases ht : x.1 = 524370
      · have hA1 := hid (hA0.out.trans (if_pos ht))
        have hb : (x.1 == 524370) = true := by simpa using ht
        have hS := hid (four_set2 hF0.out (.string (bs (wordL lvl))))
        obtain ⟨⟨s0, s1, s2, s3⟩, _⟩ := hS.out.cells
        have hW2 := hid (hW1.out.setCell (p := ⟨wA.heap.size, 2, none⟩) (Nat.le_refl _) (.string (bs (wordL lvl))))
        have O2 := hid (ownsRow_keep hown.out (fun j hj => hW2.out.block j (ownsRow_lt hown.out j hj)))
        have L2 := hid (hls.out.mono (R' := CpA w F _) (fun c y b' hb' _ hr => hr.keep _ _ _ _ _ (fun j hj => hW2.out.block j (hnew.out.2 j (List.mem_append_right _ (hb' j hj))).2)))
        have N2 := hid (New.add hnew.out (New.nil wA _) hU.out.size hW2.out.size)
        have U2 := hid (hU.out.trans (hW2.out.mono hU.out.size))
        have hx2 := hid (show CpA w F (W1.setCell ⟨wA.heap.size, 2, none⟩ (.string (bs (wordL lvl)))) [.int .i64 x.1, .string (bs x.2.1), .string (bs (wordL lvl)), .slice none 0 0] (ansF (n := 1) A lvl l x) [] from by rw [hA1.out]; exact ⟨_, rfl, Row.nilI _ _ _⟩)
        clear hA0 hA1 ht hown hls hnew hW2
        generalize ansF (n := 1) A lvl l x = xa at hst hx2
        go_wp2_with (at_builtin; refine wpList_append_sep _ rfl _ _ 59 rfl 73 i0 zeroE 4 64 Tryz.underlying59 HI.out hz0 hz1 hz2 rfl (by decide) _ _ _ rfl (O2.out.alloc _) ⟨W1.heap.size, 0, none⟩ 1 1 [.int .i64 x.1, .string (bs x.2.1), .string (bs (wordL lvl)), .slice none 0 0] rfl rfl (four_at _ _ _ _ _ _ _ (by simp)) four_one (by have := hlen.out; unfold maxLen; omega) (by have := hlen.out; omega) ?_)
        intro v' w5 hown' hg hv
        have R := hid (Row.push (R := CpA w F) CpA.keep L2.out rfl hx2.out U2.out.size N2.out hown' hg hv)
        have U5 := hid ((UpB.of_below (b := w1.heap.size) (Below.alloc U2.out U2.out.size (.cells #[.int .i64 x.1, .string (bs x.2.1), .string (bs (wordL lvl)), .slice none 0 0] 73))).grown hg (fun k hk => Or.inr ((N2.out.2 k (List.mem_append_left _ (List.mem_append_left _ (by rw [hk]; simp)))).1)) |>.below (Nat.le_refl _) (Nat.le_refl _))
        clear hown' hg hv
        go_wp2
        go_roundw
        case rel =>
          refine ⟨k + 1, xs ++ [.int .i64 x.1, .string (bs x.2.1), .string (bs (wordL lvl)), .slice none 0 0], _, by omega, by go_num, ?_, ?_, R.out.2.2, U5⟩
          · unfold Hid
            rw [hst.out]
            exact R.out.2.1
          · unfold Hid
            rw [hst.out]
            exact R.out.1
        case measure => simp [intOf]; omega
      have hA1 := hid (hA0.out.trans (if_neg ht))
      have hb : (x.1 == 524370) = false := by simpa using ht
      clear hA0 ht r0
      have BW := hid (B.out.trans (hW1.out.mono B.out.size))
      by_cases hq : x.2.1 = SQ
      · have hA2 := hid (hA1.out.trans (if_pos hq))
        have q1 : (bs x.2.1).toList = [83, 81] := y1.trans hq
        have C1 := hid (rfind_any 2 F W1 v l x.1 (HV.out.up BW.out) HSL.out.1)
        clear hA1 hq y1
        go_wp2_with fail
        go_at_call 220
        refine C1.out.mono ?_
        rintro e w2 ⟨u2, hf⟩
        have hx : ∃ (t2 : Int) (kd2 vl : By) (ad2 : Option Addr) (cap2 : Nat) (ok : Bool), e = .returned (.tuple #[.agg #[.int .i64 t2, .string (bs kd2), .string (bs vl), .slice ad2 (itemsE l x.1).length cap2], .bool ok]) ∧ Hid (RdI w2 F 2 (.slice ad2 (itemsE l x.1).length cap2) (itemsE l x.1)) ∧ Hid ((itemsE l x.1).length ≤ 8 ∧ ∀ s ∈ itemsE l x.1, s.length ≤ 24 ∧ ∀ y ∈ s, y.2.2.1.length ≤ 64) := by
          unfold itemsE
          rcases hf with ⟨h1, h2⟩ | ⟨z, iv, h1, h2, h3⟩
          · rw [h1]
            exact ⟨0, [], [], none, 0, false, h2, RdI.nil _ _ _, Nat.zero_le _, fun s hs => by simp at hs⟩
          · rw [h1]
            obtain ⟨ad2, cap2, h4⟩ := h3.slice
            subst h4
            exact ⟨z.1, z.2.1, z.2.2.1, ad2, cap2, true, h2, h3.up u2, (HSL.out.2 z (List.mem_of_find?_eq_some h1)).2⟩
        obtain ⟨t2, kd2, vl, ad6, cap6, ok, rfl, hit, hsn⟩ := hx
        have u3 := Below.alloc (Below.refl w2.heap.size w2) (Nat.le_refl _) (.cells #[.int .i64 t2, .string (bs kd2), .string (bs vl), .slice ad6 (itemsE l x.1).length cap6] 73)
        obtain ⟨⟨_, _, _, g3⟩, _⟩ := (Four.new w2 (.int .i64 t2) (.string (bs kd2)) (.string (bs vl)) (.slice ad6 (itemsE l x.1).length cap6)).cells
        have u23 := u2.trans (u3.mono u2.size)
        have hF2 := hid (hF0.out.keep (u23.block _ hF0.out.lt))
        have hWw := hid (hW1.out.trans (u23.mono hW1.out.size))
        have BWw := hid (B.out.trans (hWw.out.mono B.out.size))
        have C2 := hid (rclean_any 1 F _ _ (itemsE l x.1) (hit.out.up u3) (fun j hj => Nat.lt_of_lt_of_le (HF.out j hj) BWw.out.size) hsn.out.1 (fun s hs => (hsn.out.2 s hs).1))
        clear hf u2 u3 u23 hit hsn x0 x1 x2 x3 f0 f1 f2 f3 C1
        go_wp2_with fail
        go_at_call 225
        refine C2.out.mono ?_
        rintro e w3 ⟨v3, bl, rfl, u4, hr3, hn3⟩
        obtain ⟨ad7, cap7, hv7⟩ := hr3.slice
        rw [List.length_map] at hv7
        subst hv7
        have hF3 := hid (hF2.out.keep (u4.block _ hF2.out.lt))
        obtain ⟨⟨x0, x1, x2, x3⟩, f0, f1, f2, f3⟩ := hF3.out.cells
        have hXl := hF2.out.lt
        have hS := hid (four_set3 hF3.out (.slice ad7 (itemsE l x.1).length cap7))
        obtain ⟨⟨s0, s1, s2, s3⟩, _⟩ := hS.out.cells
        have hW3 := hid (hWw.out.trans (u4.mono hWw.out.size))
        have hW2 := hid (hW3.out.setCell (p := ⟨wA.heap.size, 3, none⟩) (Nat.le_refl _) (.slice ad7 (itemsE l x.1).length cap7))
        have O2 := hid (ownsRow_keep hown.out (fun j hj => hW2.out.block j (ownsRow_lt hown.out j hj)))
        have L2 := hid (hls.out.mono (R' := CpA w F _) (fun c y b' hb' _ hr => hr.keep _ _ _ _ _ (fun j hj => hW2.out.block j (hnew.out.2 j (List.mem_append_right _ (hb' j hj))).2)))
        have hsame := hid (fun j (hj : j ∈ bl) => Below.heap_setCell w3 ⟨wA.heap.size, 3, none⟩ (.slice ad7 (itemsE l x.1).length cap7) j (by have h1 := (hn3.2 j hj).1; intro e; have e2 : j = wA.heap.size := e; omega))
        have N2 := hid (New.add hnew.out (show New wA (w3.setCell ⟨wA.heap.size, 3, none⟩ (.slice ad7 (itemsE l x.1).length cap7)) bl from (hn3.from hWw.out.size).more (by simp)) hU.out.size hW2.out.size)
        have U2 := hid (hU.out.trans (hW2.out.mono hU.out.size))
        have hx2 := hid (show CpA w F (w3.setCell ⟨wA.heap.size, 3, none⟩ (.slice ad7 (itemsE l x.1).length cap7)) [.int .i64 x.1, .string (bs x.2.1), .string ⟨#[]⟩, .slice ad7 (itemsE l x.1).length cap7] (ansF (n := 1) A lvl l x) bl from by
          rw [hA2.out]
          exact ⟨_, rfl, Row.keep hr3 (fun j hj => hsame.out j hj) (fun c s b hb _ ⟨sv, e, h⟩ => ⟨sv, e, h.keep (fun j hj => hsame.out j (hb j hj)) (fun _ _ _ _ _ h => h.back HF.out BWw.out)⟩)⟩)
        clear hA2 hown hls hnew hW2 hr3 hn3 u4 C2 hsame hF3 hF2
        generalize ansF (n := 1) A lvl l x = xa at hst hx2
        go_wp2_with (at_builtin; refine wpList_append_sep _ rfl _ _ 59 rfl 73 i0 zeroE 4 64 Tryz.underlying59 HI.out hz0 hz1 hz2 rfl (by decide) _ _ _ rfl (O2.out.alloc _) ⟨w3.heap.size, 0, none⟩ 1 1 [.int .i64 x.1, .string (bs x.2.1), .string ⟨#[]⟩, .slice ad7 (itemsE l x.1).length cap7] rfl rfl (four_at _ _ _ _ _ _ _ (by simp)) four_one (by have := hlen.out; unfold maxLen; omega) (by have := hlen.out; omega) ?_)
        intro v' w5 hown' hg hv
        have R := hid (Row.push (R := CpA w F) CpA.keep L2.out rfl hx2.out U2.out.size N2.out hown' hg hv)
        have U5 := hid ((UpB.of_below (b := w1.heap.size) (Below.alloc U2.out U2.out.size (.cells #[.int .i64 x.1, .string (bs x.2.1), .string ⟨#[]⟩, .slice ad7 (itemsE l x.1).length cap7] 73))).grown hg (fun k hk => Or.inr ((N2.out.2 k (List.mem_append_left _ (List.mem_append_left _ (by rw [hk]; simp)))).1)) |>.below (Nat.le_refl _) (Nat.le_refl _))
        clear hown' hg hv
        go_wp2
        go_roundw
        case rel =>
          refine ⟨k + 1, xs ++ [.int .i64 x.1, .string (bs x.2.1), .string ⟨#[]⟩, .slice ad7 (itemsE l x.1).length cap7], _, by omega, by go_num, ?_, ?_, R.out.2.2, U5⟩
          · unfold Hid
            rw [hst.out]
            exact R.out.2.1
          · unfold Hid
            rw [hst.out]
            exact R.out.1
        case measure => simp [intOf]; omega
      · have hA2 := hid (hA1.out.trans (if_neg hq))
        have q1 : (x.2.1 == [83, 81]) = false := beq_eq_false_iff_ne.2 hq
        have C1 := hid (rhas_any 2 F W1 b A v l x.1 lvl hlv (RefA.up H.out BW.out) (HV.out.up BW.out) HSL.out.1 hl HS.out hx0.out)
        clear hA1 hq
        go_wp2_with fail
        go_at_call 223
        refine C1.out.mono ?_
        rintro e w2 ⟨rfl, u2⟩
        have hF3 := hid (hF0.out.keep (u2.block _ hF0.out.lt))
        obtain ⟨⟨x0', x1', x2', x3'⟩, f0', f1', f2', f3'⟩ := hF3.out.cells
        have hS := hid (four_set2 hF3.out (.string (bs (hasV A lvl l x.1))))
        obtain ⟨⟨s0, s1, s2, s3⟩, _⟩ := hS.out.cells
        have hW3 := hid (hW1.out.trans (u2.mono hW1.out.size))
        have hW2 := hid (hW3.out.setCell (p := ⟨wA.heap.size, 2, none⟩) (Nat.le_refl _) (.string (bs (hasV A lvl l x.1))))
        have O2 := hid (ownsRow_keep hown.out (fun j hj => hW2.out.block j (ownsRow_lt hown.out j hj)))
        have L2 := hid (hls.out.mono (R' := CpA w F _) (fun c y b' hb' _ hr => hr.keep _ _ _ _ _ (fun j hj => hW2.out.block j (hnew.out.2 j (List.mem_append_right _ (hb' j hj))).2)))
        have N2 := hid (New.add hnew.out (New.nil wA _) hU.out.size hW2.out.size)
        have U2 := hid (hU.out.trans (hW2.out.mono hU.out.size))
        have hx2 := hid (show CpA w F (w2.setCell ⟨wA.heap.size, 2, none⟩ (.string (bs (hasV A lvl l x.1)))) [.int .i64 x.1, .string (bs x.2.1), .string (bs (hasV A lvl l x.1)), .slice none 0 0] (ansF (n := 1) A lvl l x) [] from by rw [hA2.out]; exact ⟨_, rfl, Row.nilI _ _ _⟩)
        clear hA2 hown hls hnew hW2 u2 C1 hF3
        generalize ansF (n := 1) A lvl l x = xa at hst hx2
        go_wp2_with (at_builtin; refine wpList_append_sep _ rfl _ _ 59 rfl 73 i0 zeroE 4 64 Tryz.underlying59 HI.out hz0 hz1 hz2 rfl (by decide) _ _ _ rfl (O2.out.alloc _) ⟨w2.heap.size, 0, none⟩ 1 1 [.int .i64 x.1, .string (bs x.2.1), .string (bs (hasV A lvl l x.1)), .slice none 0 0] rfl rfl (four_at _ _ _ _ _ _ _ (by simp)) four_one (by have := hlen.out; unfold maxLen; omega) (by have := hlen.out; omega) ?_)
        intro v' w5 hown' hg hv
        have R := hid (Row.push (R := CpA w F) CpA.keep L2.out rfl hx2.out U2.out.size N2.out hown' hg hv)
        have U5 := hid ((UpB.of_below (b := w1.heap.size) (Below.alloc U2.out U2.out.size (.cells #[.int .i64 x.1, .string (bs x.2.1), .string (bs (hasV A lvl l x.1)), .slice none 0 0] 73))).grown hg (fun k hk => Or.inr ((N2.out.2 k (List.mem_append_left _ (List.mem_append_left _ (by rw [hk]; simp)))).1)) |>.below (Nat.le_refl _) (Nat.le_refl _))
        clear hown' hg hv
        go_wp2
        go_roundw
        case rel =>
          refine ⟨k + 1, xs ++ [.int .i64 x.1, .string (bs x.2.1), .string (bs (hasV A lvl l x.1)), .slice none 0 0], _, by omega, by go_num, ?_, ?_, R.out.2.2, U5⟩
          · unfold Hid
            rw [hst.out]
            exact R.out.2.1
          · unfold Hid
            rw [hst.out]
            exact R.out.1
        case measure => simp [intOf]; omega
    · have hall : (q.take k).map (ansF (n := 1) A lvl l) = q.map (ansF (n := 1) A lvl l) := by rw [List.take_of_length_le (by omega)]
      rw [hall] at hown hls
      have hRow : Hid (Row wA 73 4 (CpA w F wA) u9 (q.map (ansF (n := 1) A lvl l)) ((Value.ownBlock u9).toList ++ cs)) := ⟨xs, cs, hown.out, hls.out, rfl⟩
      have hRD := hid (rd_cpA (F' := fun j => j < wA.heap.size) hRow.out B.out (fun j hj => Nat.lt_of_lt_of_le (HF.out j hj) B.out.size) (fun j hj => (hnew.out.2 j hj).2))
      have hbd := hid (wrS_bound false 0 3 0 _ HOK.out)
      have C := hid (rwritten_any 3 (fun j => j < wA.heap.size) wA u9 (q.map (ansF (n := 1) A lvl l)) 0 hRD.out HOK.out (by decide) (by decide) (Nat.le_trans hbd.out (by decide)))
      clear hown hls hnew hRow hRD hall
      go_wp2_with fail
      go_at_call 93
      refine C.out.mono ?_
      rintro e w2 ⟨rfl, u2⟩
      have U2 := hid (B.out.trans (u2.mono B.out.size))
      clear u2 C
      go_wp2
      go_ret
      exact ⟨rfl, U2.out⟩
end Go.Proofs.YtaokifbpakbgdaaGreatDoor

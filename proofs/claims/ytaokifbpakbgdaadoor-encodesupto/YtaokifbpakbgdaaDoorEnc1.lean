/-
  Encodes' walk.
-/
import Derived.Test.YtaokifbpakbgdaaDoorEncQ
import Derived.Test.YtaokifbpakbgdaaDoorLent2
import Derived.Test.YtaokifbpakbgdaaDoorLKept
import Derived.Test.YtaokifbpakbgdaaDoorLKnown
import Derived.Test.YtaokifbpakbgdaaDoorRefd3
namespace Go.Proofs.YtaokifbpakbgdaaDoor
open Go.RowKit

/-- What Encode answers. -/
def encS (n : Nat) (l : List (El n)) : By := if errS n 0 l = 0 then wrS false 0 n l else []
theorem EncEnd.out {n : Nat} {w : World} {l : List (El n)} {e : Ending} {w' : World} (h : EncEnd n w l e w') : e = .returned (.tuple #[.string (bs (encS n l)), .int .i64 (errS n 0 l)]) ∧ Below w.heap.size w w' := by
  obtain ⟨h1, ⟨h2, h3⟩ | ⟨h2, h3⟩⟩ := h
  · exact ⟨by rw [h3, encS, if_neg h2], h1⟩
  · exact ⟨by rw [h3, encS, if_pos h2, h2], h1⟩
theorem ln_new (w : World) : Ln (w.alloc (.cells #[.slice none 0 0, .slice none 0 0, .slice none 0 0, .slice none 0 0] 29)) w.heap.size [] [] (fun j => j = w.heap.size) := by
  refine ⟨.slice none 0 0, .slice none 0 0, .slice none 0 0, .slice none 0 0, ⟨heap_alloc_new _ _, fun r hr => ?_, fun i j ri rj b hi hj hij hb => ?_⟩, ?_⟩
  · simp only [lnR, List.map_nil, List.mem_cons, List.not_mem_nil, or_false] at hr
    rcases hr with rfl | rfl | rfl | rfl <;> exact ⟨World.ownsRow_nil _ _ _ _, by simp [Value.ownBlock]⟩
  · have := List.mem_of_getElem? hi
    simp only [lnR, List.map_nil, List.mem_cons, List.not_mem_nil, or_false] at this
    rcases this with rfl | rfl | rfl | rfl <;> simp [Value.ownBlock] at hb
  · funext j
    simp [InR, lnR, Value.ownBlock]
theorem wrS_le {n : Nat} {l : List (El n)} (h : blk n l ≤ 2097152) : (wrS false 0 n l).length ≤ 274877906944 := by
  have := wrS_blk n l
  omega
set_option maxHeartbeats 4000000 in
set_option maxRecDepth 20000 in
theorem encodes_walk (n : Nat) (hn : 3 ≤ n + 1) (W : World) (v u : Value) (l m : List (El (n + 1))) (hl : Rd W (fun j => j < W.heap.size) (n + 1) v l) (hm : Rd W (fun j => j < W.heap.size) (n + 1) u m) (fl : Full (n + 1) l) (fm : Full (n + 1) m)
    (bl : blk (n + 1) l ≤ 1048576) (bm : blk (n + 1) m ≤ 1048576) (hnil : v = .slice none 0 0 ∨ ∃ a len cap, v = .slice (some a) len cap) :
    Calls Tryd.prog 3 #[v, u] W fun e W' => e = .returned (.bool true) ∧ Below W.heap.size W W' := by
  obtain ⟨ad, cap, rfl⟩ := hl.slice
  obtain ⟨ad', cap', rfl⟩ := hm.slice
  have hlb := blk_len _ l
  have hmb := blk_len _ m
  have HL := hid hl
  have HM := hid hm
  have HNIL := hid hnil
  clear hl hm hnil
  go_enter Tryd.func3, Tryd.ntmps3
  go_wp2_with fail
  go_at_call 6
  refine (known_any W).mono ?_
  rintro e w1 ⟨rfl, u1⟩
  have U1 := hid u1
  have Z1 : W.heap.size ≤ w1.heap.size := u1.size
  clear u1
  go_wp2_with fail
  go_at_call 7
  have U2 := hid (Below.alloc U1.out U1.out.size (.cells #[.slice none 0 0, .slice none 0 0, .slice none 0 0, .slice none 0 0] 29))
  refine (lent_any n (fun j => j < W.heap.size) _ w1.heap.size _ l [] [] _ (HL.out.up U2.out) fl (ln_new w1) (fun j hj => ⟨by simp; omega, by omega⟩) (by simp; omega)).mono ?_
  rintro e w3 ⟨g1, es1, is1, S1, rfl, hg1, hL1, hN1, hS1, hO1, hR1, hB1, hC1⟩
  simp only [List.nil_append] at hL1
  have Z2 : (w1.alloc (.cells #[.slice none 0 0, .slice none 0 0, .slice none 0 0, .slice none 0 0] 29)).heap.size = w1.heap.size + 1 := by simp
  rw [Z2] at hg1 hO1 hR1
  have U3 := hid (U2.out.trans (hN1.1.below (B := W.heap.size) (fun j hj => by omega) U2.out.size))
  have hSS : Hid (∀ j, S1 j → W.heap.size ≤ j) := fun j hj => by
    rcases hN1.2 j hj with e | e <;> omega
  have Z3 : w1.heap.size + 1 ≤ w3.heap.size := by have := hN1.1.size; omega
  have L1 := hid hL1
  have O1 := hid hO1
  have R1 := hid hR1
  have B1 := hid hB1
  have NS1 := hid hS1
  clear hL1 hN1 hO1 hR1 hB1 hS1 U1 U2 Z2
  have hO1r := hid (out_rd (cap := l.length + 8) (F' := fun j => j < w3.heap.size) O1.out (fun j hj => hj.2.2) O1.out.lt)
  go_wp2_with fail
  go_at_call 8
  refine (Encode_any (n + 1) hn (fun j => j < w3.heap.size) w3 _ l (fun j hj => hj) hO1r.out (fun _ => wrS_le (by omega))).mono ?_
  rintro e w4 hE4
  obtain ⟨rfl, u4⟩ := hE4.out
  have U4 := hid u4
  clear u4 hE4
  go_wp2_with fail
  go_at_call 9
  refine (rEncode_any (n + 1) hn (fun j => j < W.heap.size) w4 _ l ((HL.out.up U3.out).up U4.out) (wrS_le (by omega))).mono ?_
  rintro e w5 hE5
  obtain ⟨rfl, u5⟩ := hE5.out
  have U5 := hid (U4.out.trans (u5.mono U4.out.size))
  clear u5 hE5 U4
  generalize encS (n + 1) l = sE
  generalize errS (n + 1) 0 l = eE
  go_wp2_with fail
  go_at_call 10
  refine (lsame_any (n + 1) (fun j => j < w3.heap.size) (fun j => j < W.heap.size) w5 _ _ l (hO1r.out.up U5.out) ((HL.out.up U3.out).up U5.out) fl (by omega)).mono ?_
  rintro e w6 ⟨rfl, u6⟩
  have U6 := hid (U5.out.trans (u6.mono U5.out.size))
  clear u6 U5
  go_wp2_with fail
  go_at_call 11
  have hgX : ¬ g1 < w1.heap.size + 1 := by omega
  have R1a := hid (lent_rms (X := fun j => j < w1.heap.size + 1) R1.out hgX NS1.out O1.out)
  have hesl : (es1 ++ [(g1, l.length)]).length ≤ 1048576 ∧ is1.length ≤ 1048576 := by
    rw [List.length_append, List.length_singleton]; omega
  have B1a : Hid ((∀ p ∈ es1 ++ [(g1, l.length)], p.2 ≤ 1048576) ∧ ∀ p ∈ is1, p.2 ≤ 1048576) := by
    refine ⟨fun p hp => ?_, fun p hp => Nat.le_trans (B1.out p (List.mem_append_right _ hp)) bl⟩
    rcases List.mem_append.1 hp with hp | hp
    · exact Nat.le_trans (B1.out p (List.mem_append_left _ hp)) bl
    · obtain rfl := List.mem_singleton.1 hp
      show l.length ≤ _
      omega
  refine (kept_any w6 w1.heap.size (es1 ++ [(g1, l.length)]) is1 S1 (fun j => j < w1.heap.size + 1) (L1.out.below U6.out) (R1a.out.up (Nx.of_below U6.out).pr) (fun p hp => Nat.le_trans (B1a.out.1 p hp) (by decide)) (fun p hp => Nat.le_trans (B1a.out.2 p hp) (by decide)) (by omega) (by omega)).mono ?_
  rintro e w7 ⟨rfl, u7⟩
  have U7 := hid (U6.out.trans (u7.mono U6.out.size))
  clear u7 U6
  go_wp2_with fail
  go_at_call 7
  have U07 := hid (U3.out.trans (U7.out.mono U3.out.size))
  have Z7 : w3.heap.size ≤ w7.heap.size := U7.out.size
  refine (lent_any n (fun j => j < W.heap.size) w7 w1.heap.size _ m (es1 ++ [(g1, l.length)]) is1 S1 (HM.out.up U07.out) fm (L1.out.below U7.out) (fun j hj => ⟨by omega, fun e => by have := hSS.out j e; omega⟩) (by omega)).mono ?_
  rintro e w8 ⟨g2, es2, is2, S2, rfl, hg2, hL2, hN2, hS2, hO2, hR2, hB2, hC2⟩
  have U8 := hid (U07.out.trans (hN2.1.below (B := W.heap.size) (fun j hj => hSS.out j hj) U07.out.size))
  have hSS2 : Hid (∀ j, S2 j → W.heap.size ≤ j) := fun j hj => by
    rcases hN2.2 j hj with e | e
    · exact hSS.out j e
    · omega
  have Z8 : w7.heap.size ≤ w8.heap.size := hN2.1.size
  have L2 := hid hL2
  have hlg1 := O1.out.lt
  have NS2 := hid (hN2.out NS1.out (by omega : g1 < w7.heap.size))
  have hX8 : ∀ j, ¬ (j < w1.heap.size + 1 ∨ j = g1) → j < w3.heap.size → ¬ (j < W.heap.size ∨ j = g1 ∨ w8.heap.size ≤ j) := fun j h1 h2 => by omega
  have O1b := hid (show HasC w8 g1 37 (4 * (l.length + 8)) (OutQ w8 (Fz (fun j => j < W.heap.size ∨ j = g1 ∨ w8.heap.size ≤ j) S2 w8) l l.length (l.length + 8)) from
    (O1.out.keep ((hN2.1.block (by omega) NS1.out).trans (U7.out.block _ hlg1)) (fun j v _ hv => hv.move (fun j hj =>
      ⟨(hN2.1.block (by have := hj.2.2; omega) hj.2.1).trans (U7.out.block _ hj.2.2), hX8 j hj.1 hj.2.2, hN2.out hj.2.1 (by have := hj.2.2; omega), by have := hj.2.2; omega⟩))))
  have O2b := hid (show HasC w8 g2 37 (4 * (m.length + 8)) (OutQ w8 (Fz (fun j => j < W.heap.size ∨ j = g1 ∨ w8.heap.size ≤ j) S2 w8) m m.length (m.length + 8)) from
    (hO2.keep rfl (fun j v _ hv => hv.move (fun j hj => ⟨rfl, (by have := hj.1; have := hj.2.2; omega), hj.2⟩))))
  have R8 := hid (show Rms (fun j => j < W.heap.size ∨ j = g1 ∨ w8.heap.size ≤ j) S2 w8 (es1 ++ (es2 ++ [(g2, m.length)])) (is1 ++ is2) from
    (((R1.out.up (Nx.of_below U7.out).pr).up hN2.pr).turn (fun j hj => by have := hj.1; have := hj.2.2; omega)).add ((lent_rms (X := fun j => j < w7.heap.size) hR2 (by omega) hS2 hO2).turn (fun j hj => by have := hj.1; have := hj.2.2; omega)))
  have B2 : Hid ((∀ p ∈ (es1 ++ [(g1, l.length)]) ++ (es2 ++ [(g2, m.length)]), p.2 ≤ 1048576) ∧ ∀ p ∈ is1 ++ is2, p.2 ≤ 1048576) := by
    refine ⟨fun p hp => ?_, fun p hp => ?_⟩
    · rcases List.mem_append.1 hp with hp | hp
      · exact B1a.out.1 p hp
      · rcases List.mem_append.1 hp with hp | hp
        · exact Nat.le_trans (hB2 p (List.mem_append_left _ hp)) bm
        · obtain rfl := List.mem_singleton.1 hp
          show m.length ≤ _
          omega
    · rcases List.mem_append.1 hp with hp | hp
      · exact B1a.out.2 p hp
      · exact Nat.le_trans (hB2 p (List.mem_append_right _ hp)) bm
  have hlen2 : ((es1 ++ [(g1, l.length)]) ++ (es2 ++ [(g2, m.length)])).length ≤ 2097152 ∧ (is1 ++ is2).length ≤ 2097152 := by
    simp only [List.length_append, List.length_singleton] at hesl ⊢
    omega
  have g2l := hid (show g2 < w8.heap.size ∧ ¬ g2 < w7.heap.size from ⟨hO2.lt, by omega⟩)
  clear hL2 hN2 hS2 hO2 hR2 hB2 hC2 hX8 O1 R1 R1a B1 B1a L1 hO1r U3 U7 U07 hSS NS1
  obtain ⟨i0, hi, hz0, hz1, hz2⟩ := info_parts info_el
  have HI := hid hi
  clear hi
  obtain ⟨cs, hcl, hcs1, hcs2, hcs3, hcs4⟩ := rd_cells (HL.out.up U8.out)
  have C1 := hid hcs1
  have C3 := hid hcs3
  have C4 := hid hcs4
  have CL := hid hcl
  have hnil' : Hid (ad = none → l.length = 0 ∧ cap = 0) := fun e => by
    rcases HNIL.out with e' | ⟨a, len, c, e'⟩
    · injection e' with _ e2 e3
      exact ⟨e2, e3⟩
    · rw [e] at e'
      injection e' with e1
      cases e1
  clear hcs1 hcs2 hcs3 hcs4 hcl
  go_wp2_with (at_builtin; refine wpList_append_fresh _ rfl _ _ 22 rfl 37 i0 _ 4 64 Tryd.underlying22 HI.out hz0 hz1 hz2 rfl (by decide) rfl ad l.length cap cs rfl hnil'.out CL.out C1.out C3.out (by unfold maxLen; omega) (by omega) ?_)
  intro adn capn w9 hown u9 hnew
  have hW8 := U8.out.size
  have Q9 : Hid (EQ W w8.heap.size w1.heap.size g1 g2 ((es1 ++ [(g1, l.length)]) ++ (es2 ++ [(g2, m.length)])) (is1 ++ is2) (es1 ++ (es2 ++ [(g2, m.length)])) (is1 ++ is2) S2 m adn capn w9 l) := by
    have P9 := (Nx.of_below (S := S2) u9).pr (X := XQ W g1 w8.heap.size)
    refine ⟨U8.out.trans (u9.mono hW8), L2.out.below u9, O1b.out.keep (u9.block _ O1b.out.lt) (fun j v _ hv => OutQ.move (F := Fz (XQ W g1 w8.heap.size) S2 w8) hv P9), O2b.out.keep (u9.block _ O2b.out.lt) (fun j v _ hv => OutQ.move (F := Fz (XQ W g1 w8.heap.size) S2 w8) hv P9), ?_, Rms.up (X := XQ W g1 w8.heap.size) R8.out P9⟩
    rcases id hown.2 with ⟨_, h0⟩ | ⟨gn, cap2, cur, e, _⟩
    · exact Or.inl h0
    · injection e with e1 e2 e3
      subst e1
      have hz := hnew _ rfl
      obtain ⟨a1, a2⟩ := row_start (F := fun j => j < W.heap.size) hown C4.out (fun j hj => ⟨u9.block _ (by omega), hj⟩)
      exact Or.inr ⟨gn, rfl, hz, fun e => by have := L2.out.lt e; simp at hz; omega, a1, a2⟩
  have Z9 : w8.heap.size ≤ w9.heap.size := u9.size
  clear hown u9 hnew O1b O2b R8 L2 C1 C3 C4 CL HI hz0 hz1 hz2 HNIL hnil' U8
  go_wp2_with fail
  go_loopw [16] (fun i wr => ∃ k : Nat, k ≤ l.length ∧ k ≤ m.length ∧ i = .int .i64 k ∧ Hid (EQ W w8.heap.size w1.heap.size g1 g2 ((es1 ++ [(g1, l.length)]) ++ (es2 ++ [(g2, m.length)])) (is1 ++ is2) (es1 ++ (es2 ++ [(g2, m.length)])) (is1 ++ is2) S2 m adn capn wr (mix l m k))) (fun i _ => l.length - (intOf i).toNat)
  case atStart => exact ⟨0, Nat.zero_le _, Nat.zero_le _, rfl, by rw [mix_zero]; exact Q9⟩
  case round =>
    obtain ⟨k, hk1, hk2, rfl, hQ⟩ := hrel
    have hml := hid (mix_length hk1 hk2)
    by_cases hgo : k < l.length ∧ k < m.length
    · obtain ⟨hkl, hkm⟩ := hgo
      have hstep := hid (mix_step hkl hkm)
      have hxm := hid (List.getElem?_eq_getElem hkm)
      obtain ⟨iad, icap, c0, c1, c2, c3, hiv⟩ := hQ.out.other (List.getElem?_eq_getElem hkm)
      obtain ⟨gn, hadn, hz, hSn, hHn, hcn⟩ : ∃ gn, adn = some ⟨gn, 0, none⟩ ∧ w8.heap.size ≤ gn ∧ ¬ S2 gn ∧ HasC wr gn 37 (capn * 4) (OutQ wr (fun j => j < W.heap.size) (mix l m k) (mix l m k).length 0) ∧ (mix l m k).length ≤ capn := by
        rcases hQ.out.2.2.2.2.1 with q | q
        · rw [hml.out] at q; omega
        · exact q
      subst hadn
      have hcn' : l.length ≤ capn := by have := hml.out; omega
      have HIV := hid hiv
      have HHN := hid hHn
      have ML : k < (mix l m k).length := by have := hml.out; omega
      have g2a := g2l.out
      have hs1 : W.heap.size ≤ g1 := by omega
      generalize m[k] = x at c0 c1 c2 c3 HIV hstep hxm
      obtain ⟨t, kd, uu, its⟩ := x
      simp only at c0 c1 c2 c3 HIV
      obtain ⟨o0, p0, q0⟩ := has_cell (j := k * 4) hQ.out.2.2.1 (by omega)
      obtain ⟨o1, p1, q1⟩ := has_cell (j := k * 4 + 1) hQ.out.2.2.1 (by omega)
      obtain ⟨o2, p2, q2⟩ := has_cell (j := k * 4 + 2) hQ.out.2.2.1 (by omega)
      obtain ⟨o3, p3, q3⟩ := has_cell (j := k * 4 + 3) hQ.out.2.2.1 (by omega)
      have HM1 := hid (HM.out.up (Below.set4 hQ.out.1 hs1 (k * 4) (.int .i64 t) (.string (bs kd)) (.string (bs uu)) (.slice iad its.length icap)))
      obtain ⟨a, ad2, cap2, rfl, _, d0, d1, d2, d3, hrd⟩ := HM1.out.at hxm.out
      have HN1 := hHn.keep (P' := fun _ _ => True) (w' := set4 wr g1 (k * 4) (.int .i64 t) (.string (bs kd)) (.string (bs uu)) (.slice iad its.length icap)) (set4_other (by omega)) (fun _ _ _ _ => trivial)
      obtain ⟨y0, r0, s0⟩ := has_cell (j := k * 4) HN1 (by omega)
      obtain ⟨y1, r1, s1⟩ := has_cell (j := k * 4 + 1) HN1 (by omega)
      obtain ⟨y2, r2, s2⟩ := has_cell (j := k * 4 + 2) HN1 (by omega)
      obtain ⟨y3, r3, s3⟩ := has_cell (j := k * 4 + 3) HN1 (by omega)
      simp only at d0 d1 d2 d3
      have HRD := hid hrd
      simp only [set4] at d0 d1 d2 d3 r0 r1 r2 r3 s0 s1 s2 s3
      have HRW := hid (hrd.keep (w' := wr) (F' := fun j => j < W.heap.size) (fun _ h => h) (fun j hj _ => (set4_other (by omega)).symm))
      have hg12 : g1 ≠ g2 := by omega
      have Q10 := hid (hQ.out.put ML (t, kd, uu, its) hs1 (by omega) g2a.1 hg12 NS2.out HIV.out HRW.out)
      rw [hstep.out] at Q10
      clear hiv hHn hrd HN1
      go_wp2
      go_roundw
      case rel => exact ⟨k + 1, by omega, by omega, by go_num, Q10⟩
      case measure => simp [intOf]; omega
    · by_cases hkl : k < l.length
      case' pos =>
        have hkm : ¬ k < m.length := fun e => hgo ⟨hkl, e⟩
        clear hgo
        go_wp2_with fail
      case' neg =>
        clear hgo
        go_wp2_with fail
      all_goals
        have hmf := hid (mix_full (i := k) fl fm)
        have hmb2 := mix_blk l m k
        generalize mix l m k = L at hQ hml hmf hmb2
        go_at_call 8
        refine (Encode_any (n + 1) hn (fun j => j < wr.heap.size) wr _ L (fun j hj => hj) (hQ.out.lent hml.out) (fun _ => wrS_le (by omega))).mono ?_
        rintro e w11 hE11
        obtain ⟨rfl, u11⟩ := hE11.out
        have Q11 := hid (hQ.out.below u11)
        clear u11 hE11 hQ
        go_wp2_with fail
        go_at_call 9
        refine (rEncode_any (n + 1) hn (fun j => j < w11.heap.size) w11 _ L (Q11.out.copy hml.out) (wrS_le (by omega))).mono ?_
        rintro e w12 hE12
        obtain ⟨rfl, u12⟩ := hE12.out
        have Q12 := hid (Q11.out.below u12)
        clear u12 hE12 Q11
        generalize encS (n + 1) L = sL
        generalize errS (n + 1) 0 L = eL
        go_wp2_with fail
        go_at_call 10
        refine (lsame_any (n + 1) (fun j => j < w12.heap.size) (fun j => j < w12.heap.size) w12 _ _ L (Q12.out.lent hml.out) (Q12.out.copy hml.out) hmf.out (by omega)).mono ?_
        rintro e w13 ⟨rfl, u13⟩
        have Q13 := hid (Q12.out.below u13)
        clear u13 Q12
        go_wp2_with fail
        go_at_call 11
        have R13 : Rms (fun j => j < W.heap.size ∨ w8.heap.size ≤ j) S2 w13 ((es1 ++ [(g1, l.length)]) ++ (es2 ++ [(g2, m.length)])) (is1 ++ is2) := by
          have h1 := Rms.turn (X' := fun j => j < W.heap.size ∨ w8.heap.size ≤ j) Q13.out.2.2.2.2.2 (fun j hj e => hj.1 (by rcases e with e | e; (· exact Or.inl e); exact Or.inr (Or.inr e)))
          refine ⟨fun p hp => ?_, h1.2⟩
          rcases List.mem_append.1 hp with hp | hp
          · rcases List.mem_append.1 hp with hp | hp
            · exact h1.1 p (List.mem_append_left _ hp)
            · obtain rfl := List.mem_singleton.1 hp
              refine ⟨⟨by omega, NS2.out, Q13.out.2.2.1.lt⟩, ?_⟩
              have := out_rm Q13.out.2.2.1
              rw [hml.out] at this
              exact this
          · exact h1.1 p (List.mem_append_right _ hp)
        refine (kept_any w13 w1.heap.size _ _ S2 _ Q13.out.2.1 R13 (fun p hp => Nat.le_trans (B2.out.1 p hp) (by decide)) (fun p hp => Nat.le_trans (B2.out.2 p hp) (by decide)) (by omega) (by omega)).mono ?_
        rintro e w14 ⟨rfl, u14⟩
        have Q14 := hid (Q13.out.1.trans (u14.mono Q13.out.1.size))
        clear u14 Q13 R13
        go_wp2
        go_ret
        exact ⟨by simp, Q14.out⟩
end Go.Proofs.YtaokifbpakbgdaaDoor

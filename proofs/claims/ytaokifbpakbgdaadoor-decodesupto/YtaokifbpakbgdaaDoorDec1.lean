/-
  Decodes' walk.
-/
import Derived.Test.YtaokifbpakbgdaaDoorDecP
import Derived.Test.YtaokifbpakbgdaaDoorBk3
import Derived.Test.YtaokifbpakbgdaaDoorBkW
import Derived.Test.YtaokifbpakbgdaaDoorLKnown
import Derived.Test.YtaokifbpakbgdaaDoorRefd8
namespace Go.Proofs.YtaokifbpakbgdaaDoor
open Go.RowKit

/-- A []string that came in. -/
def Sts (w : World) (v : Value) (l : List By) : Prop := Sl (fun j => j < w.heap.size) 1 (fun a (s : By) => w.cell? a = some (.string (bs s))) v l
theorem Sts.at {w w' : World} {ad : Option Addr} {len cap i : Nat} {l : List By} {s : By} (h : Sts w (.slice ad len cap) l) (hs : l[i]? = some s) (u : Below w.heap.size w w') : ∃ a, ad = some a ∧ w'.cell? (a.add i) = some (.string (bs s)) := by
  obtain ⟨ad', cap', e, hc⟩ := h
  obtain ⟨a, ha, hF, c⟩ := hc i s hs
  injection e with e1
  rw [Nat.one_mul] at c
  exact ⟨a, by rw [e1, ha], cell_keep (u.block _ (by rw [add_block]; exact hF)) c⟩
set_option maxHeartbeats 4000000 in
set_option maxRecDepth 20000 in
theorem decodes_walk (W : World) (v : Value) (T : List By) (hT : Sts W v T) (hTl : T.length ≤ 1048576) :
    Calls Tryd.prog 4 #[v] W fun e W' => e = .returned (.bool true) ∧ Below W.heap.size W W' := by
  obtain ⟨ad, cap, rfl⟩ : ∃ ad cap, v = .slice ad T.length cap := by obtain ⟨a, c, e, _⟩ := hT; exact ⟨a, c, e⟩
  have HT := hid hT
  clear hT
  go_enter Tryd.func4, Tryd.ntmps4
  go_wp2_with fail
  go_at_call 6
  refine (known_any W).mono ?_
  rintro e w1 ⟨rfl, u1⟩
  have Z1 : W.heap.size ≤ w1.heap.size := u1.size
  have U2 := hid (Below.alloc u1 u1.size (.cells #[.slice none 0 0, .slice none 0 0, .int .i64 0] 41))
  have B2 := hid (bk_new w1)
  clear u1
  go_wp2_with fail
  go_loopw [5] (fun iv_ wr => ∃ (i : Nat) (E I : List Value) (S : Nat → Prop), i ≤ 2 * T.length ∧ iv_ = .int .i64 i ∧ Hid (Below W.heap.size W wr) ∧ Hid (Bk wr w1.heap.size E I S) ∧ Hid (∀ j, S j → W.heap.size ≤ j) ∧ Hid (Wh wr (Fz (fun _ => False) S wr) E I) ∧ Hid (∃ a b, E.length = 4 * a ∧ I.length = 4 * b ∧ a + b ≤ i * 32770)) (fun i _ => 2 * T.length - (intOf i).toNat)
  case atStart => exact ⟨0, [], [], _, Nat.zero_le _, rfl, U2, B2, fun j hj => by omega, Wh.nil _ _, 0, 0, rfl, rfl, by omega⟩
  case round =>
    obtain ⟨i, E, I, S, hi, rfl, hup, hB, hS, hW, hC⟩ := hrel
    by_cases hil : i < 2 * T.length
    · have hTp : 0 < T.length := by omega
      have hmlt : i % T.length < T.length := Nat.mod_lt _ hTp
      obtain ⟨jj, ejj⟩ : ∃ jj, jj = i % T.length := ⟨_, rfl⟩
      have hm : (i : Int) % (T.length : Int) = (jj : Int) := by rw [ejj]; exact (Int.natCast_emod i T.length).symm
      have hm2 : (i : Int).tmod (T.length : Int) = (jj : Int) := by rw [Int.tmod_eq_emod_of_nonneg (by omega)]; exact hm
      rw [← ejj] at hmlt
      have hne0 : ((T.length : Int) == 0) = false := by rw [beq_eq_false_iff_ne]; omega
      obtain ⟨a, rfl, c0⟩ := HT.out.at (List.getElem?_eq_getElem hmlt) hup.out
      generalize T[jj] = s at c0
      clear ejj
      go_wp2_with fail
      go_at_call 12
      refine (Decode_any wr 3 (by decide) s).mono ?_
      rintro e w2 hD2
      obtain ⟨u2, v2, bl2, rfl, O2, N2⟩ := hD2.out
      have L2 := hid (And.intro u2 (And.intro O2 N2))
      clear hD2 u2 O2 N2
      go_wp2_with fail
      go_at_call 12
      refine (Decode_any w2 3 (by decide) s).mono ?_
      rintro e w3 hD3
      obtain ⟨u3, v3, bl3, rfl, O3, N3⟩ := hD3.out
      have L3 := hid (And.intro u3 (And.intro O3 N3))
      clear hD3 u3 O3 N3
      go_wp2_with fail
      go_at_call 13
      refine (rDecode_any w3 3 (by decide) s).mono ?_
      rintro e w4 hD4
      obtain ⟨u4, v4, bl4, rfl, O4, N4⟩ := hD4.out
      obtain ⟨hfu, hsz, hbk, hcn⟩ := decL_ok s
      have u34 := L3.out.1.trans (u4.mono L3.out.1.size)
      have ZZ34 := hid u4.size
      have U24 := hid u34
      have O2' := hid (L2.out.2.1.keep (w' := w4) _ _ _ _ (L2.out.2.2.below u34))
      have O3' := hid (L3.out.2.1.keep (w' := w4) _ _ _ _ (L3.out.2.2.below u4))
      have O4' := hid O4
      clear hD4 u4 O4 N4 u34
      generalize decL 3 s = L at hfu hsz hbk hcn O2' O3' O4' L2 L3
      generalize decE 3 s = er
      obtain ⟨ad2, cap2, rfl⟩ := O2'.out.slice
      obtain ⟨ad3, cap3, rfl⟩ := O3'.out.slice
      obtain ⟨ad4, cap4, rfl⟩ := O4'.out.slice
      go_wp2_with fail
      go_at_call 10
      refine (lsame_any 3 (fun _ => True) (fun _ => True) w4 _ _ L (O2'.out.rd _ _ _ _ _ (fun _ _ => trivial)) (O4'.out.rd _ _ _ _ _ (fun _ _ => trivial)) hfu hbk).mono ?_
      rintro e w5 ⟨rfl, u5⟩
      have U5 := hid u5
      clear u5
      go_wp2_with fail
      go_at_call 10
      refine (lsame_any 3 (fun _ => True) (fun _ => True) w5 _ _ L ((O3'.out.rd _ _ _ _ (fun _ => True) (fun _ _ => trivial)).up U5.out) ((O4'.out.rd _ _ _ _ (fun _ => True) (fun _ _ => trivial)).up U5.out) hfu hbk).mono ?_
      rintro e w6 ⟨rfl, u6⟩
      have U46 := hid (U5.out.trans (u6.mono U5.out.size))
      clear u6 U5
      have Z2 := L2.out.1.size
      have Z24 := U24.out.size
      have Z34 := ZZ34.out
      have Z46 := U46.out.size
      have U26 := hid (U24.out.trans (U46.out.mono Z24))
      have Ur6 := hid (L2.out.1.trans (U26.out.mono Z2))
      have O2'' := hid (O2'.out.keep (w' := w6) _ _ _ _ (fun j hj => U46.out.block j (by have := (L2.out.2.2.2 j hj).2; omega)))
      have O3'' := hid (O3'.out.keep (w' := w6) _ _ _ _ (fun j hj => U46.out.block j (by have := (L3.out.2.2.2 j hj).2; omega)))
      obtain ⟨qa, qb, hqa, hqb, hqc⟩ := hC.out
      have hSr : Hid (∀ j, S j → j < wr.heap.size) := fun j hj => hB.out.lt hj
      have hN2 : Hid (∀ j ∈ bl2, wr.heap.size ≤ j ∧ j < w2.heap.size) := L2.out.2.2.2
      have hN3 : Hid (∀ j ∈ bl3, w2.heap.size ≤ j ∧ j < w3.heap.size) := L3.out.2.2.2
      have hiq : i * 32770 ≤ 68723671040 := by omega
      have hcn' : cnt (2 + 1) L ≤ 16385 := hcn
      have KX := hid (keep_any 2 w6 w1.heap.size E I S _ L bl2 (fun j => j ∈ bl2 ∨ j ∈ bl3) qa qb (hB.out.below Ur6.out) O2''.out hfu hsz L2.out.2.2.1 (fun j hj => ⟨fun e => by have := hSr.out j e; have := (hN2.out j hj).1; omega, Or.inl hj⟩) (fun j hj => by
        rcases hj with hj | hj
        · have := (hN2.out j hj).2; omega
        · have := (hN3.out j hj).2; omega) hqa hqb (by omega) (hW.out.up (fun j hj => ⟨Ur6.out.block j hj.2.2, fun e => by
        have := hj.2.2
        rcases e with e | e
        · have := (hN2.out j e).1; omega
        · have := (hN3.out j e).1; omega, hj.2.1, by have := hj.2.2; omega⟩)))
      go_wp2_with fail
      go_at_call 14
      refine KX.out.mono ?_
      clear KX
      rintro e w7 ⟨E1, I1, S1, rfl, B7, K7, T7, W7, a1, b1, g1, g2, g3⟩
      have Z67 := K7.size
      have O7 := hid (O3''.out.keep (w' := w7) _ _ _ _ (fun j hj => K7.block (by have := (hN3.out j hj).2; omega) (by
        have h3 := hN3.out j hj
        rintro (e | e)
        · have := hSr.out j e; omega
        · have := (hN2.out j e).2; omega)))
      have KX := hid (keep_any 2 w7 w1.heap.size (E ++ E1) (I ++ I1) S1 _ L bl3 (fun j => (j ∈ bl2 ∨ j ∈ bl3) ∧ j ∉ bl2) (qa + a1) (qb + b1) B7 O7.out hfu hsz L3.out.2.2.1 (fun j hj => ⟨fun e => by
        have h3 := hN3.out j hj
        rcases T7 j e with e | e
        · have := hSr.out j e; omega
        · omega, Or.inr hj, fun e => by have := (hN2.out j e).2; have := (hN3.out j hj).1; omega⟩) (fun j hj => by
        rcases hj.1 with hj | hj
        · have := (hN2.out j hj).2; omega
        · have := (hN3.out j hj).2; omega) (by rw [List.length_append]; omega) (by rw [List.length_append]; omega) (by rw [List.length_append, List.length_append]; omega) W7)
      have K7' := hid K7
      have T7' := hid T7
      clear B7 K7 T7 W7 O7
      go_wp2_with fail
      go_at_call 14
      refine KX.out.mono ?_
      clear KX
      rintro e w8 ⟨E2, I2, S2, rfl, B8, K8, T8, W8, a2, b2, k1, k2, k3⟩
      have Z78 := K8.size
      have hup8 : Hid (Below W.heap.size W w8) := by
        have h1 := (hup.out.trans (Ur6.out.mono hup.out.size)).trans (K7'.out.below (B := W.heap.size) (fun j hj => by
          rcases hj with e | e
          · exact hS.out j e
          · have := (hN2.out j e).1; have := hup.out.size; omega) (by have := hup.out.size; have := Ur6.out.size; omega))
        refine h1.trans (K8.below (B := W.heap.size) (fun j hj => ?_) h1.size)
        have := hup.out.size
        rcases hj with e | e
        · rcases T7'.out j e with e | e
          · exact hS.out j e
          · have := Ur6.out.size; omega
        · have := (hN3.out j e).1; omega
      have hS8 : Hid (∀ j, S2 j → W.heap.size ≤ j) := fun j hj => by
        have := hup.out.size
        have := Ur6.out.size
        rcases T8 j hj with e | e
        · rcases T7'.out j e with e | e
          · exact hS.out j e
          · omega
        · omega
      have B8' := hid B8
      have W8' := hid (W8.mono (fun j hj => hj.mono (X' := fun _ => False) (fun _ h => h.elim)))
      clear B8 K8 T8 W8 K7' T7'
      go_wp2_with fail
      go_at_call 15
      refine (whole_any w8 w1.heap.size _ _ S2 (Fz (fun _ => False) S2 w8) B8'.out (fun j hj => hj.2.2) W8'.out (by rw [List.length_append, List.length_append]; omega) (by rw [List.length_append, List.length_append]; omega)).mono ?_
      rintro e w9 ⟨rfl, u9⟩
      have hup9 := hid (hup8.out.trans (u9.mono hup8.out.size))
      have B9 := hid (B8'.out.below u9)
      have W9 := hid (W8'.out.up (F' := Fz (fun _ => False) S2 w9) (fun j hj => ⟨u9.block j hj.2.2, hj.1, hj.2.1, Nat.lt_of_lt_of_le hj.2.2 u9.size⟩))
      have C9 : Hid (∃ a b, (E ++ E1 ++ E2).length = 4 * a ∧ (I ++ I1 ++ I2).length = 4 * b ∧ a + b ≤ (i + 1) * 32770) := ⟨qa + a1 + a2, qb + b1 + b2, by rw [List.length_append, List.length_append]; omega, by rw [List.length_append, List.length_append]; omega, by omega⟩
      clear u9 B8' W8' hup8
      go_wp2
      go_roundw
      case rel => first | exact ⟨i + 1, _, _, S2, by omega, by go_num, hup9, B9, hS8, W9, C9⟩ | ((repeat apply Exists.intro); exact ⟨⟨i + 1, _, _, S2, by omega, by go_num, hup9, B9, hS8, W9, C9⟩, rfl⟩)
      case measure => simp [intOf]; omega
    · go_wp2
      go_ret
      exact ⟨rfl, hup.out⟩
end Go.Proofs.YtaokifbpakbgdaaDoor

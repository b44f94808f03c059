/-
  Package foliolaw: every list that came out is as its owner wrote it.
-/
import Derived.Test.YtaokifbpakbgdaaDoorBk0
import Derived.Test.YtaokifbpakbgdaaDoorLBad
namespace Go.Proofs.YtaokifbpakbgdaaDoor
open Go.RowKit

theorem badI_bads {w : World} {F : Nat → Prop} {k : Int} {ad : Option Addr} {len cap : Nat} (h : BadI w F k (.slice ad len cap)) : Bads w k ad len := fun i hi => by
  obtain ⟨ad', len', cap', e, _, h⟩ := h
  injection e with e1 e2 e3
  subst e1
  subst e2
  obtain ⟨g, rfl, _, h2⟩ := h (by omega)
  obtain ⟨b, _, h4, h5⟩ := h2 i hi
  exact ⟨_, b, rfl, by rw [Addr.add_lit, Nat.zero_add]; exact h4, h5⟩
theorem badE_cells {w : World} {F : Nat → Prop} {k : Int} {ad : Option Addr} {len cap j : Nat} (h : BadE w F k (.slice ad len cap)) (hj : j < len) : ∃ g, ad = some ⟨g, 0, none⟩ ∧ w.cell? ⟨g, j * 4, none⟩ = some (badV k 0) ∧ w.cell? ⟨g, j * 4 + 1, none⟩ = some (badV k 1) ∧ w.cell? ⟨g, j * 4 + 2, none⟩ = some (badV k 2) ∧ w.cell? ⟨g, j * 4 + 3, none⟩ = some (badV k 3) := by
  obtain ⟨ad', len', cap', e, _, h⟩ := h
  injection e with e1 e2 e3
  subst e1
  subst e2
  obtain ⟨g, rfl, _, h2⟩ := h (by omega)
  have c : ∀ f, f < 4 → w.cell? ⟨g, j * 4 + f, none⟩ = some (badV k f) := fun f hf => by
    rw [h2 _ (by omega), show (j * 4 + f) % 4 = f by omega]
  exact ⟨g, rfl, c 0 (by omega), c 1 (by omega), c 2 (by omega), c 3 (by omega)⟩
set_option maxHeartbeats 2000000 in
theorem whole_any (w : World) (B : Nat) (E I : List Value) (S F : Nat → Prop) (h : Bk w B E I S) (hF : ∀ j, F j → j < w.heap.size) (hr : Wh w F E I) (hel : E.length ≤ 1099511627776) (hil : I.length ≤ 1099511627776) :
    Calls Tryd.prog 15 #[ptr B] w fun e w' => e = .returned (.bool true) ∧ Below w.heap.size w w' := by
  have ST := hid (fun wr (u : Below w.heap.size w wr) => (⟨h.below u, hr.up (fun j hj => ⟨u.block _ (hF j hj), hj⟩)⟩ : Bk wr B E I S ∧ Wh wr F E I))
  clear h hr
  go_enter Tryd.func15, Tryd.ntmps15
  go_wp2_with fail
  go_loopw [3] (fun i wr => ∃ j : Nat, j ≤ E.length ∧ i = .int .i64 j ∧ Hid (Below w.heap.size w wr)) (fun i _ => E.length - (intOf i).toNat)
  case atStart => exact ⟨0, Nat.zero_le _, rfl, Below.refl _ _⟩
  case round =>
    obtain ⟨j, hj, rfl, hup⟩ := hrel
    obtain ⟨⟨v0, v1, hL, _⟩, hR⟩ := ST.out _ hup.out
    obtain ⟨⟨c0, c1⟩, _⟩ := bk_cells hL
    obtain ⟨r0, r1⟩ := bk_rows hL
    by_cases hjl : j < E.length
    · obtain ⟨g0, cap0, rfl, d0⟩ := row_at (i := j) r0 (List.getElem?_eq_getElem hjl)
      have hp := hR.1 j _ (List.getElem?_eq_getElem hjl)
      obtain ⟨ad, len, cap, ev, hlen, _⟩ := id hp
      rw [ev] at d0 hp
      have HP := hid hp
      have hk0 : 0 ≤ (j : Int) / 4 := by omega
      have hk1 : (j : Int) / 4 ≤ 1152921504606846976 := by omega
      clear r0 r1 hR hL ev hp c1
      have HC : Hid (∀ wi, Below wr.heap.size wr wi → wi.cell? ⟨B, 0, none⟩ = some (.slice (some ⟨g0, 0, none⟩) E.length cap0) ∧ wi.cell? ⟨g0, j, none⟩ = some (.slice ad len cap) ∧ BadE wi F ((j : Int) / 4) (.slice ad len cap)) := fun wi u =>
        ⟨cell_keep (u.block _ (World.block_lt_of_cell? _ _ c0)) c0, cell_keep (u.block _ (World.block_lt_of_cell? _ _ d0)) d0, HP.out.up (fun j hj => ⟨u.block _ (Nat.lt_of_lt_of_le (hF j hj) hup.out.size), hj⟩)⟩
      go_wp2_with fail
      clear c0 d0
      go_loopw [4] (fun i wi => ∃ k : Nat, k ≤ len ∧ i = .int .i64 k ∧ Hid (Below wr.heap.size wr wi)) (fun i _ => len - (intOf i).toNat)
      case atStart => exact ⟨0, Nat.zero_le _, rfl, Below.refl _ _⟩
      case round =>
        obtain ⟨k, hk2, rfl, hupi⟩ := hrel
        obtain ⟨c0, d0, hE⟩ := HC.out _ hupi.out
        by_cases hkl : k < len
        · obtain ⟨g, rfl, x0, x1, x2, x3⟩ := badE_cells hE hkl
          clear hE
          go_wp2_with fail
          go_at_call 26
          refine (isBad_any wr ((j : Int) / 4) hk0 hk1).mono ?_
          rintro e w1 ⟨rfl, u1⟩
          have hup1 := hid (hupi.out.trans (u1.mono hupi.out.size))
          clear u1
          go_wp2
          go_roundw
          case rel => exact ⟨k + 1, by omega, by go_num, hup1⟩
          case measure => simp [intOf]; omega
        · clear hE
          go_wp2
          go_roundw
          case rel => first | exact ⟨j + 1, by omega, by go_num, hup.out.trans (hupi.out.mono hup.out.size)⟩ | ((repeat apply Exists.intro); exact ⟨⟨j + 1, by omega, by go_num, hup.out.trans (hupi.out.mono hup.out.size)⟩, rfl⟩)
          case measure => simp [intOf]; omega
    · obtain ⟨ad, cap, rfl⟩ := row_slice r0
      clear r0 r1 hR hL
      go_wp2_with fail
      clear c0 c1
      go_loopw [6] (fun i wi => ∃ k : Nat, k ≤ I.length ∧ i = .int .i64 k ∧ Hid (Below w.heap.size w wi)) (fun i _ => I.length - (intOf i).toNat)
      case atStart => exact ⟨0, Nat.zero_le _, rfl, hup⟩
      case round =>
        obtain ⟨k, hk, rfl, hupi⟩ := hrel
        obtain ⟨⟨v0, v1, hL, _⟩, hR⟩ := ST.out _ hupi.out
        obtain ⟨⟨c0, c1⟩, _⟩ := bk_cells hL
        obtain ⟨r0, r1⟩ := bk_rows hL
        by_cases hkl : k < I.length
        · obtain ⟨g1, cap1, rfl, d1⟩ := row_at (i := k) r1 (List.getElem?_eq_getElem hkl)
          have hp := hR.2 k _ (List.getElem?_eq_getElem hkl)
          obtain ⟨ad, len, cap, ev, hlen, _⟩ := id hp
          rw [ev] at d1 hp
          have HP := hid (badI_bads hp)
          have hk0 : 0 ≤ (k : Int) / 4 := by omega
          have hk1 : (k : Int) / 4 ≤ 1152921504606846976 := by omega
          clear r0 r1 hR hL ev hp c0
          go_wp2_with fail
          go_at_call 27
          refine (areBad_any wr ((k : Int) / 4) hk0 hk1 _ len cap (by omega) HP.out).mono ?_
          rintro e w1 ⟨rfl, u1⟩
          have hup1 := hid (hupi.out.trans (u1.mono hupi.out.size))
          clear u1
          go_wp2
          go_roundw
          case rel => exact ⟨k + 1, by omega, by go_num, hup1⟩
          case measure => simp [intOf]; omega
        · obtain ⟨ad, cap, rfl⟩ := row_slice r1
          clear r0 r1 hR hL
          go_wp2
          go_ret
          exact ⟨rfl, hupi.out⟩
end Go.Proofs.YtaokifbpakbgdaaDoor

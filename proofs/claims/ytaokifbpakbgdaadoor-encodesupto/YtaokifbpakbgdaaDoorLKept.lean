/-
  Package foliolaw: the spare room of all that was lent reads as ever.
-/
import Derived.Test.YtaokifbpakbgdaaDoorLBad
import Derived.Test.YtaokifbpakbgdaaDoorKeep2
namespace Go.Proofs.YtaokifbpakbgdaaDoor
open Go.RowKit

theorem rmI_bads {w : World} {F : Nat → Prop} {g n : Nat} (h : RmI w F g n) : Bads w 0 (some ⟨g, n, none⟩) 8 := fun i hi => by
  obtain ⟨v, c, q⟩ := h.cell (j := n + i) (by omega)
  obtain ⟨b, _, rfl, h2⟩ := q (by omega)
  exact ⟨_, b, rfl, by rw [Addr.add_lit]; exact c, h2⟩
theorem rmE_cells {w : World} {g n k : Nat} (h : RmE w g n) (h1 : n ≤ k) (h2 : k < n + 8) : w.cell? ⟨g, k * 4, none⟩ = some (badV 0 0) ∧ w.cell? ⟨g, k * 4 + 1, none⟩ = some (badV 0 1) ∧ w.cell? ⟨g, k * 4 + 2, none⟩ = some (badV 0 2) ∧ w.cell? ⟨g, k * 4 + 3, none⟩ = some (badV 0 3) := by
  have c : ∀ f, f < 4 → w.cell? ⟨g, k * 4 + f, none⟩ = some (badV 0 f) := fun f hf => by
    obtain ⟨v, c, q⟩ := h.cell (j := k * 4 + f) (by omega)
    have := q (by omega)
    rw [show (k * 4 + f) % 4 = f by omega] at this
    rw [c, this]
  exact ⟨c 0 (by omega), c 1 (by omega), c 2 (by omega), c 3 (by omega)⟩
set_option maxHeartbeats 2000000 in
theorem kept_any (w : World) (B : Nat) (es is : List (Nat × Nat)) (S X : Nat → Prop) (h : Ln w B es is S) (hr : Rms X S w es is) (hes : ∀ p ∈ es, p.2 ≤ 1099511627776) (his : ∀ p ∈ is, p.2 ≤ 1099511627776) (hel : es.length ≤ 1099511627776) (hil : is.length ≤ 1099511627776) :
    Calls Tryd.prog 11 #[ptr B] w fun e w' => e = .returned (.bool true) ∧ Below w.heap.size w w' := by
  have st : ∀ wr, Below w.heap.size w wr → Ln wr B es is S ∧ Rms X S wr es is := fun wr u => ⟨h.below u, hr.up (Nx.of_below u).pr⟩
  have ST := hid st
  clear st h hr
  have HES := hid hes
  have HIS := hid his
  clear hes his
  go_enter Tryd.func11, Tryd.ntmps11
  go_wp2_with fail
  go_loopw [3] (fun i wr => ∃ j : Nat, j ≤ es.length ∧ i = .int .i64 j ∧ Hid (Below w.heap.size w wr)) (fun i _ => es.length - (intOf i).toNat)
  case atStart => exact ⟨0, Nat.zero_le _, rfl, Below.refl _ _⟩
  case round =>
    obtain ⟨j, hj, rfl, hup⟩ := hrel
    obtain ⟨⟨v0, v1, v2, v3, hL, _⟩, hR⟩ := ST.out _ hup.out
    obtain ⟨⟨c0, c1, c2, c3⟩, _⟩ := ln_cells hL
    obtain ⟨r0, r1, r2, r3⟩ := ln_rows hL
    by_cases hjl : j < es.length
    · obtain ⟨g0, cap0, rfl, d0⟩ := row_at (i := j) r0 (by rw [List.getElem?_map, List.getElem?_eq_getElem hjl]; rfl)
      obtain ⟨g1, cap1, rfl, d1⟩ := row_at (i := j) r1 (by rw [List.getElem?_map, List.getElem?_eq_getElem hjl]; rfl)
      have hp := hid (hR.1 es[j] (List.getElem_mem hjl)).2
      have hp2 := HES.out es[j] (List.getElem_mem hjl)
      simp only [List.length_map] at c0 c1
      generalize es[j] = p at d0 d1 hp hp2
      obtain ⟨g, m⟩ := p
      simp only [eV, nV] at d0 d1
      simp only at hp hp2
      have R0 := hid r2
      have R1 := hid r3
      clear r0 r1 r2 r3 hR hL c2 c3
      have HC : Hid (∀ wi, Below wr.heap.size wr wi → wi.cell? ⟨B, 0, none⟩ = some (.slice (some ⟨g0, 0, none⟩) es.length cap0) ∧ wi.cell? ⟨g0, j, none⟩ = some (.slice (some ⟨g, 0, none⟩) (m + 8) (m + 8)) ∧ RmE wi g m) := fun wi u =>
        ⟨cell_keep (u.block _ (World.block_lt_of_cell? _ _ c0)) c0, cell_keep (u.block _ (World.block_lt_of_cell? _ _ d0)) d0, hp.out.keep (u.block _ hp.out.lt) (fun _ _ _ h => h)⟩
      go_wp2_with fail
      clear c0 c1 d0 d1
      go_loopw [4] (fun i wi => ∃ k : Nat, m ≤ k ∧ k ≤ m + 8 ∧ i = .int .i64 k ∧ Hid (Below wr.heap.size wr wi)) (fun i _ => m + 8 - (intOf i).toNat)
      case atStart => exact ⟨m, Nat.le_refl _, by omega, rfl, Below.refl _ _⟩
      case round =>
        obtain ⟨k, hk1, hk2, rfl, hupi⟩ := hrel
        obtain ⟨c0, d0, hE⟩ := HC.out _ hupi.out
        by_cases hkl : k < m + 8
        · obtain ⟨x0, x1, x2, x3⟩ := rmE_cells hE hk1 hkl
          go_wp2_with fail
          go_at_call 26
          refine (isBad_any wr 0 (by decide) (by decide)).mono ?_
          rintro e w1 ⟨rfl, u1⟩
          have hup1 := hid (hupi.out.trans (u1.mono hupi.out.size))
          clear u1
          go_wp2
          go_roundw
          case rel => exact ⟨k + 1, by omega, by omega, by go_num, hup1⟩
          case measure => simp [intOf]; omega
        · go_wp2
          go_roundw
          case rel => first | exact ⟨j + 1, by omega, by go_num, hup.out.trans (hupi.out.mono hup.out.size)⟩ | ((repeat apply Exists.intro); exact ⟨⟨j + 1, by omega, by go_num, hup.out.trans (hupi.out.mono hup.out.size)⟩, rfl⟩)
          case measure => simp [intOf]; omega
    · obtain ⟨ad, cap, rfl⟩ := row_slice r0
      simp only [List.length_map] at c0
      clear r0 r1 r2 r3 hR hL
      go_wp2_with fail
      clear c0 c1 c2 c3
      go_loopw [6] (fun i wi => ∃ k : Nat, k ≤ is.length ∧ i = .int .i64 k ∧ Hid (Below w.heap.size w wi)) (fun i _ => is.length - (intOf i).toNat)
      case atStart => exact ⟨0, Nat.zero_le _, rfl, hup⟩
      case round =>
        obtain ⟨k, hk, rfl, hupi⟩ := hrel
        obtain ⟨⟨v0, v1, v2, v3, hL, _⟩, hR⟩ := ST.out _ hupi.out
        obtain ⟨⟨c0, c1, c2, c3⟩, _⟩ := ln_cells hL
        obtain ⟨r0, r1, r2, r3⟩ := ln_rows hL
        by_cases hkl : k < is.length
        · obtain ⟨g2, cap2, rfl, d2⟩ := row_at (i := k) r2 (by rw [List.getElem?_map, List.getElem?_eq_getElem hkl]; rfl)
          obtain ⟨g3, cap3, rfl, d3⟩ := row_at (i := k) r3 (by rw [List.getElem?_map, List.getElem?_eq_getElem hkl]; rfl)
          have hp := hid (rmI_bads (hR.2 is[k] (List.getElem_mem hkl)).2)
          have hp2 := HIS.out is[k] (List.getElem_mem hkl)
          simp only [List.length_map] at c2 c3
          generalize is[k] = p at d2 d3 hp hp2
          obtain ⟨g, m⟩ := p
          simp only [eV, nV] at d2 d3
          simp only at hp hp2
          clear r0 r1 r2 r3 hR hL c0 c1
          have q1 : ∀ q : Later wr, q.val.cell? ⟨B, 2, none⟩ = some (.slice (some ⟨g2, 0, none⟩) is.length cap2) := fun q => cell_keep (q.up.block _ (World.block_lt_of_cell? _ _ c2)) c2
          have q2 : ∀ q : Later wr, q.val.cell? ⟨B, 3, none⟩ = some (.slice (some ⟨g3, 0, none⟩) is.length cap3) := fun q => cell_keep (q.up.block _ (World.block_lt_of_cell? _ _ c3)) c3
          have q3 : ∀ q : Later wr, q.val.cell? ⟨g2, k, none⟩ = some (.slice (some ⟨g, 0, none⟩) (m + 8) (m + 8)) := fun q => cell_keep (q.up.block _ (World.block_lt_of_cell? _ _ d2)) d2
          have q4 : ∀ q : Later wr, q.val.cell? ⟨g3, k, none⟩ = some (.int .i64 m) := fun q => cell_keep (q.up.block _ (World.block_lt_of_cell? _ _ d3)) d3
          have hne : Nonempty (Later wr) := ⟨Later.of (Below.refl _ _)⟩
          have hm8 : (m : Int) ≤ (m : Int) + 8 := by omega
          go_wp2_with fail
          refine wp_region_below (by kernel_rfl) (by kernel_rfl) ?_
          repeat quiet_step ((go_at_call 27; exact calls_below (areBad_any _ 0 (by decide) (by decide) _ 8 8 (by decide) (hp.out.below (Later.up _)))))
          refine wpQuiet_nil ?_
          intro _ hw'
          obtain ⟨wq, rfl⟩ := hw'
          have hupq := hid (hupi.out.trans (wq.up.mono hupi.out.size))
          generalize wq.val = w4 at hupq ⊢
          clear q1 q2 q3 q4 hne
          go_wp2
          go_roundw
          case rel => exact ⟨k + 1, by omega, by go_num, hupq⟩
          case measure => simp [intOf]; omega
        · obtain ⟨ad, cap, rfl⟩ := row_slice r2
          simp only [List.length_map] at c2
          clear r0 r1 r2 r3 hR hL
          go_wp2
          go_ret
          exact ⟨rfl, hupi.out⟩
end Go.Proofs.YtaokifbpakbgdaaDoor

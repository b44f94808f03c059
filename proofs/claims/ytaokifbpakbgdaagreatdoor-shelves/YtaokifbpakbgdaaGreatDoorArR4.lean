/-
  Package folioref on archives: without.
-/
import Derived.Test.YtaokifbpakbgdaaGreatDoorArQ1
namespace Go.Proofs.YtaokifbpakbgdaaGreatDoor
open Go.RowKit

/-- Slices that were copied. -/
def CpS (w : World) (F : Nat → Prop) (n : Nat) (c : List Value) (l : List (El (n + 1))) (b : List Nat) : Prop := b = [] ∧ ∃ sv, c = [sv] ∧ Rd w F (n + 1) sv l
theorem rdS_cp {w w' : World} {F F' : Nat → Prop} {n : Nat} {v : Value} {A : List (List (El (n + 1)))} {b : List Nat} (hr : Row w' 59 1 (CpS w F n) v A b) (hu : Below w.heap.size w w')
    (hF : ∀ j, F j → F' j) (hv : ∀ j ∈ b, F' j) : RdI w' F' (n + 1) v A := by
  refine Row.read hr F' hv _ (fun a c x b _ _ => ?_)
  rintro ⟨_, sv, rfl, h1⟩ _ _ hc
  have c0 := hc 0 _ rfl
  rw [Addr.add_zero'] at c0
  exact ⟨sv, c0, h1.keep hF (fun j _ hj => hu.block j hj)⟩
theorem info_set : (Tryz.prog.info? 59).map (fun i => (i.zero, i.size, i.bytes)) = some (some (.slice none 0 0), 1, 24) := by kernel_rfl
theorem outA_take {n : Nat} {A : List (List (El (n + 1)))} {s : By} {k : Nat} (h : k < A.length) : outA (A.take (k + 1)) s = if nm 3 A[k] = s then outA (A.take k) s else outA (A.take k) s ++ [A[k]] := by
  unfold outA
  rw [List.take_succ_eq_append_getElem h, List.filter_append]
  by_cases e : nm 3 A[k] = s
  · rw [if_pos e, List.filter_cons_of_neg (by simpa using e), List.filter_nil, List.append_nil]
  · rw [if_neg e, List.filter_cons_of_pos (by simpa using e), List.filter_nil]
/-- The reference's archive in memory: its one cell. -/
def OneC (w : World) (b : Nat) (v : Value) : Prop := w.heap[b]? = some (.cells #[v] 95 (0, 0))
theorem OneC.cell {w : World} {b : Nat} {v : Value} (h : OneC w b v) : w.cell? ⟨b, 0, none⟩ = some v := cell_of_one h
theorem OneC.free {w : World} {b : Nat} {v : Value} (h : OneC w b v) : w.frozen? ⟨b, 0, none⟩ = false := free_of_one h
theorem OneC.lt {w : World} {b : Nat} {v : Value} (h : OneC w b v) : b < w.heap.size := lt_of_block h
theorem OneC.up {w w' : World} {b : Nat} {v : Value} (h : OneC w b v) (k : Below w.heap.size w w') : OneC w' b v := by rw [OneC, k.block b h.lt]; exact h
set_option maxRecDepth 20000 in
set_option maxHeartbeats 1000000 in
theorem rwithout_any (n : Nat) (F : Nat → Prop) (w : World) (b : Nat) (v : Value) (A : List (List (El (n + 1)))) (s : By) (hb : OneC w b v) (h : RdI w F (n + 1) v A) (hl : A.length ≤ 48) (hs : ∀ l ∈ A, l.length ≤ 24) :
    Calls Tryz.prog 101 #[ptr b, .string (bs s)] w fun e w' => ∃ v', e = .returned v' ∧ Below w.heap.size w w' ∧ Row w' 59 1 (CpS w F n) v' (outA A s) v'.ownBlock.toList ∧ New w w' v'.ownBlock.toList := by
  obtain ⟨ad, cap, rfl⟩ := h.slice
  obtain ⟨i0, hi0, hz0, hz1, hz2⟩ := info_parts info_set
  have HI := hid hi0
  have H := hid h
  have HS := hid hs
  have HB := hid hb
  clear hi0 h hs hb
  have hb0 := HB.out.cell
  go_enter Tryz.func101, Tryz.ntmps101
  go_wp2_with fail
  clear hb0
  go_loopw [5, 6] (fun o i wr => ∃ (k : Nat) (xs : List Value), k ≤ A.length ∧ i = .int .i64 k ∧ Hid (wr.ownsRow w.heap.size 59 1 o (outA (A.take k) s).length xs) ∧ Hid (Ls 1 (CpS w F n) xs (outA (A.take k) s) []) ∧ Hid (Below w.heap.size w wr)) (fun _ i _ => A.length - (intOf i).toNat)
  case atStart => exact ⟨0, [], Nat.zero_le _, rfl, World.ownsRow_nil _ _ _ _, ⟨rfl, rfl⟩, Below.refl _ _⟩
  case round =>
    obtain ⟨k, xs, hk, rfl, hown, hls, hU⟩ := hrel
    have hb1 := (HB.out.up hU.out).cell
    by_cases hkl : k < A.length
    · have hat := hid (H.out.at (List.getElem?_eq_getElem hkl))
      obtain ⟨a, ad2, cap2, rfl, _, d0, hrd⟩ := hat.out
      have c0 := hU.out.cell (World.block_lt_of_cell? _ _ d0) |>.trans d0
      have hsl := HS.out _ (List.getElem_mem hkl)
      have hst := hid (outA_take (s := s) hkl)
      have hrd2 := hid hrd
      have hlen := hid (show (outA (A.take k) s).length ≤ 48 from Nat.le_trans (List.length_filter_le _ _) (by rw [List.length_take]; omega))
      have D0 := hid d0
      clear hrd hat d0
      generalize A[k] = l at c0 D0 hrd2 hst hsl
      generalize outA (A.take k) s = done at hown hls hst hlen
      go_wp2_with fail
      go_at_call 100
      refine (rnames_any n F wr _ l (hrd2.out.up hU.out) hsl).mono ?_
      rintro e w2 ⟨g, capg, rfl, _, hN, u2⟩
      have n3 := hN 3 (by omega)
      have U2 := hid (hU.out.trans (u2.mono hU.out.size))
      have O2 := hid (ownsRow_keep hown.out (w' := w2) (fun j hj => u2.block j (ownsRow_lt hown.out j hj)))
      have hb2 := (HB.out.up U2.out).cell
      have c2 := U2.out.cell (World.block_lt_of_cell? _ _ D0.out) |>.trans D0.out
      have e1 := bs_toList (nm 3 l)
      have e2 := bs_toList s
      clear u2 hN c0 hb1
      by_cases hnm : nm 3 l = s
      · have hst2 := hid (hst.out.trans (if_pos hnm))
        have hb3 : (nm 3 l == s) = true := by simpa using hnm
        clear hst hnm
        generalize nm 3 l = nn at n3 e1 hb3
        go_wp2
        go_roundw
        case rel =>
          refine ⟨k + 1, xs, by omega, by go_num, ?_, ?_, U2⟩
          · unfold Hid; rw [hst2.out]; exact O2.out
          · unfold Hid; rw [hst2.out]; exact hls.out
        case measure => simp [intOf]; omega
      · have hst2 := hid (hst.out.trans (if_neg hnm))
        have hb3 : (nm 3 l == s) = false := by simpa using hnm
        clear hst hnm
        generalize nm 3 l = nn at n3 e1 hb3
        go_wp2_with (at_builtin; refine wpList_append_own _ rfl _ _ 75 rfl w.heap.size 59 i0 (.slice none 0 0) 1 24 Tryz.underlying75 HI.out hz0 hz1 hz2 rfl (by decide) _ _ _ rfl (O2.out.alloc _) ⟨w2.heap.size, 0, none⟩ 1 1 [.slice ad2 l.length cap2] rfl rfl (one_at _ _ _) (by simp [Value.oneCell']) (by have := hlen.out; unfold maxLen; omega) (by have := hlen.out; omega) (by have := U2.out.size; simp only [World.size_alloc]; omega) ?_)
        intro v' w3 hown' hg hne
        have U3 := hid (up_grow U2.out O2.out _ hg)
        have O3 := hid hown'
        clear hown' hg
        go_wp2
        go_roundw
        case rel =>
          refine ⟨k + 1, xs ++ [.slice ad2 l.length cap2], by omega, by go_num, ?_, ?_, U3⟩
          · unfold Hid
            rw [hst2.out, List.length_append]
            exact O3.out
          · unfold Hid
            rw [hst2.out]
            exact Ls.snoc (k := 1) (R := CpS w F n) (c := [.slice ad2 l.length cap2]) (b := []) rfl ⟨rfl, _, rfl, hrd2.out⟩ hls.out
        case measure => simp [intOf]; omega
    · have hall : outA (A.take k) s = outA A s := by rw [List.take_of_length_le (by omega)]
      have O := hid hown.out
      have L := hid hls.out
      rw [hall] at O L
      clear hown hls hall
      go_wp2
      go_ret
      exact ⟨_, rfl, hU.out, ⟨xs, [], ownsRow_low O.out, L.out, by simp⟩, own_new O.out⟩
end Go.Proofs.YtaokifbpakbgdaaGreatDoor

/-
  Several texts in one; what each one has stands at its head.
-/
import Derived.Test.YtaokifbpakbgdaaGreatDoorPut9
import Derived.Test.YtaokifbpakbgdaaGreatDoorPut8
import Derived.Test.YtaokifbpakbgdaaGreatDoorPut4
/- Package folioref on archives: without. -/
namespace Go.Proofs.YtaokifbpakbgdaaGreatDoor
open Go.RowKit

/-- Slices that were copied. -/
def CpS (w : World) (F : Nat → Prop) (n : Nat) (c : List Value) (l : List (El (n + 1))) (b : List Nat) : Prop := b = [] ∧ ∃ sv, c = [sv] ∧ Rd w F (n + 1) sv l
theorem rdS_cp {w w' : World} {F F' : Nat → Prop} {n : Nat} {v : Value} {A : List (List (El (n + 1)))} {b : List Nat} (hr : Row w' 59 1 (CpS w F n) v A b) (hu : Below w.heap.size w w')
    (hF : ∀ j, F j → F' j) (hv : ∀ j ∈ b, F' j) : RdI w' F' (n + 1) v A := by
  refine Row.read hr F' hv _ (fun a c x b _ _ => ?_)
  rintro ⟨_, sv, rfl, h1⟩ _ _ hc
  have c0 := hc 0 _ rfl
  rw [Addr.add_zero'] at c0
  exact ⟨sv, c0, h1.keep hF (fun j _ hj => hu.block j hj)⟩
theorem info_set : (Tryz.prog.info? 59).map (fun i => (i.zero, i.size, i.bytes)) = some (some (.slice none 0 0), 1, 24) := by kernel_rfl
theorem outA_take {n : Nat} {A : List (List (El (n + 1)))} {s : By} {k : Nat} (h : k < A.length) : outA (A.take (k + 1)) s = if nm 3 A[k] = s then outA (A.take k) s else outA (A.take k) s ++ [A[k]] := by
  unfold outA
  rw [List.take_succ_eq_append_getElem h, List.filter_append]
  by_cases e : nm 3 A[k] = s
  · rw [if_pos e, List.filter_cons_of_neg (by simpa using e), List.filter_nil, List.append_nil]
  · rw [if_neg e, List.filter_cons_of_pos (by simpa using e), List.filter_nil]
/-- The reference's archive in memory: its one cell. -/
def OneC (w : World) (b : Nat) (v : Value) : Prop := w.heap[b]? = some (.cells #[v] 95 (0, 0))
theorem OneC.cell {w : World} {b : Nat} {v : Value} (h : OneC w b v) : w.cell? ⟨b, 0, none⟩ = some v := cell_of_one h
theorem OneC.free {w : World} {b : Nat} {v : Value} (h : OneC w b v) : w.frozen? ⟨b, 0, none⟩ = false := free_of_one h
theorem OneC.lt {w : World} {b : Nat} {v : Value} (h : OneC w b v) : b < w.heap.size := lt_of_block h
theorem OneC.up {w w' : World} {b : Nat} {v : Value} (h : OneC w b v) (k : Below w.heap.size w w') : OneC w' b v := by rw [OneC, k.block b h.lt]; exact h
set_option maxRecDepth 20000 in
set_option maxHeartbeats 1000000 in
theorem rwithout_any (n : Nat) (F : Nat → Prop) (w : World) (b : Nat) (v : Value) (A : List (List (El (n + 1)))) (s : By) (hb : OneC w b v) (h : RdI w F (n + 1) v A) (hl : A.length ≤ 48) (hs : ∀ l ∈ A, l.length ≤ 24) :
    Calls Tryz.prog 101 #[ptr b, .string (bs s)] w fun e w' => ∃ v', e = .returned v' ∧ Below w.heap.size w w' ∧ Row w' 59 1 (CpS w F n) v' (outA A s) v'.ownBlock.toList ∧ New w w' v'.ownBlock.toList := by
  obtain ⟨ad, cap, rfl⟩ := h.slice
  obtain ⟨i0, hi0, hz0, hz1, hz2⟩ := info_parts info_set
  have HI := hid hi0
  have H := hid h
  have HS := hid hs
  have HB := hid hb
  clear hi0 h hs hb
  have hb0 := HB.out.cell
  go_enter Tryz.func101, Tryz.ntmps101
  go_wp2_with fail
  clear hb0
  go_loopw [5, 6] (fun o i wr => ∃ (k : Nat) (xs : List Value), k ≤ A.length ∧ i = .int .i64 k ∧ Hid (wr.ownsRow w.heap.size 59 1 o (outA (A.take k) s).length xs) ∧ Hid (Ls 1 (CpS w F n) xs (outA (A.take k) s) []) ∧ Hid (Below w.heap.size w wr)) (fun _ i _ => A.length - (intOf i).toNat)
  case atStart => exact ⟨0, [], Nat.zero_le _, rfl, World.ownsRow_nil _ _ _ _, ⟨rfl, rfl⟩, Below.refl _ _⟩
  case round =>
    obtain ⟨k, xs, hk, rfl, hown, hls, hU⟩ := hrel
    have hb1 := (HB.out.up hU.out).cell
    by_cases hkl : k < A.length
    · have hat := hid (H.out.at (List.getElem?_eq_getElem hkl))
      obtain ⟨a, ad2, cap2, rfl, _, d0, hrd⟩ := hat.out
      have c0 := hU.out.cell (World.block_lt_of_cell? _ _ d0) |>.trans d0
      have hsl := HS.out _ (List.getElem_mem hkl)
      have hst := hid (outA_take (s := s) hkl)
      have hrd2 := hid hrd
      have hlen := hid (show (outA (A.take k) s).length ≤ 48 from Nat.le_trans (List.length_filter_le _ _) (by rw [List.length_take]; omega))
      have D0 := hid d0
      clear hrd hat d0
      generalize A[k] = l at c0 D0 hrd2 hst hsl
      generalize outA (A.take k) s = done at hown hls hst hlen
      go_wp2_with fail
      go_at_call 100
      refine (rnames_any n F wr _ l (hrd2.out.up hU.out) hsl).mono ?_
      rintro e w2 ⟨g, capg, rfl, _, hN, u2⟩
      have n3 := hN 3 (by omega)
      have U2 := hid (hU.out.trans (u2.mono hU.out.size))
      have O2 := hid (ownsRow_keep hown.out (w' := w2) (fun j hj => u2.block j (ownsRow_lt hown.out j hj)))
      have hb2 := (HB.out.up U2.out).cell
      have c2 := U2.out.cell (World.block_lt_of_cell? _ _ D0.out) |>.trans D0.out
      have e1 := bs_toList (nm 3 l)
      have e2 := bs_toList s
      clear u2 hN c0 hb1
      by_cases hnm : nm 3 l = s
      · have hst2 := hid (hst.out.trans (if_pos hnm))
        have hb3 : (nm 3 l == s) = true := by simpa using hnm
        clear hst hnm
        generalize nm 3 l = nn at n3 e1 hb3
        go_wp2
        go_roundw
        case rel =>
          refine ⟨k + 1, xs, by omega, by go_num, ?_, ?_, U2⟩
          · unfold Hid; rw [hst2.out]; exact O2.out
          · unfold Hid; rw [hst2.out]; exact hls.out
        case measure => simp [intOf]; omega
      · have hst2 := hid (hst.out.trans (if_neg hnm))
        have hb3 : (nm 3 l == s) = false := by simpa using hnm
        clear hst hnm
        generalize nm 3 l = nn at n3 e1 hb3
        go_wp2_with (at_builtin; refine wpList_append_own _ rfl _ _ 75 rfl w.heap.size 59 i0 (.slice none 0 0) 1 24 Tryz.underlying75 HI.out hz0 hz1 hz2 rfl (by decide) _ _ _ rfl (O2.out.alloc _) ⟨w2.heap.size, 0, none⟩ 1 1 [.slice ad2 l.length cap2] rfl rfl (one_at _ _ _) (by simp [Value.oneCell']) (by have := hlen.out; unfold maxLen; omega) (by have := hlen.out; omega) (by have := U2.out.size; simp only [World.size_alloc]; omega) ?_)
        intro v' w3 hown' hg hne
        have U3 := hid (up_grow U2.out O2.out _ hg)
        have O3 := hid hown'
        clear hown' hg
        go_wp2
        go_roundw
        case rel =>
          refine ⟨k + 1, xs ++ [.slice ad2 l.length cap2], by omega, by go_num, ?_, ?_, U3⟩
          · unfold Hid
            rw [hst2.out, List.length_append]
            exact O3.out
          · unfold Hid
            rw [hst2.out]
            exact Ls.snoc (k := 1) (R := CpS w F n) (c := [.slice ad2 l.length cap2]) (b := []) rfl ⟨rfl, _, rfl, hrd2.out⟩ hls.out
        case measure => simp [intOf]; omega
    · have hall : outA (A.take k) s = outA A s := by rw [List.take_of_length_le (by omega)]
      have O := hid hown.out
      have L := hid hls.out
      rw [hall] at O L
      clear hown hls hall
      go_wp2
      go_ret
      exact ⟨_, rfl, hU.out, ⟨xs, [], ownsRow_low O.out, L.out, by simp⟩, own_new O.out⟩
end Go.Proofs.YtaokifbpakbgdaaGreatDoor

/- Package folioref, the document's own answer on data sets: what is wrong with one. -/
namespace Go.Proofs.YtaokifbpakbgdaaGreatDoor
open Go.RowKit

theorem ris_any (w : World) (k : By) : Calls Tryz.prog 42 #[.string (bs k)] w fun e w' => e = .returned (.bool (isK k)) ∧ w' = w := by
  have hk := bs_toList k
  go_enter Tryz.func42, Tryz.ntmps42
  go_wp2
  all_goals go_ret
  all_goals refine ⟨ret_bool ?_, rfl⟩
  all_goals simp_all [isK, kinds]
theorem rpad_any (w : World) (k : By) : Calls Tryz.prog 149 #[.string (bs k)] w fun e w' => e = .returned (.int .u8 (padB k).toNat) ∧ w' = w := by
  have hk := bs_toList k
  by_cases hu : (k == [85, 73]) = true
  · go_enter Tryz.func149, Tryz.ntmps149
    go_wp2
    go_ret
    have : padB k = 0 := by unfold padB; exact if_pos (by simpa using hu)
    rw [this]
    exact ⟨rfl, rfl⟩
  · go_enter Tryz.func149, Tryz.ntmps149
    go_wp2
    go_ret
    have : padB k = 32 := by unfold padB; exact if_neg (by simpa using hu)
    rw [this]
    exact ⟨rfl, rfl⟩
theorem last_test (u kd : By) (h : 0 < u.length) : ((((bs u)[u.length - 1]'(by rw [bs_size]; omega)).toNat : Int) == ((padB kd).toNat : Int)) = decide (u.getLast? = some (padB kd)) := by
  have e : u.getLast? = some (u[u.length - 1]) := by rw [List.getLast?_eq_getElem?, List.getElem?_eq_getElem (by omega)]
  have e2 : (bs u)[u.length - 1]'(by rw [bs_size]; omega) = u[u.length - 1] := rfl
  rw [e, e2, Bool.eq_iff_iff, beq_iff_eq, decide_eq_true_eq, Option.some.injEq]
  exact ⟨fun h => UInt8.toNat_inj.1 (by omega), fun h => by rw [h]⟩
def RE (n : Nat) : Prop := ∀ (F : Nat → Prop) (w : World) (v : Value) (l : List (El n)) (d : Nat), d ≤ 2 → 3 ≤ d + n → Rd w F n v l →
  Calls Tryz.prog 92 #[v, .int .i64 d] w fun e w' => e = .returned (.int .i64 (errS n d l)) ∧ Below w.heap.size w w'
set_option maxHeartbeats 8000000 in
set_option maxRecDepth 20000 in
theorem rwrong_succ (n : Nat) (H : RE n) : RE (n + 1) := by
  intro F w v l d hd hn h
  obtain ⟨ad, cap, rfl⟩ := h.slice
  by_cases hlen : 24 < l.length
  · have d1 : decide ((24 : Int) < (l.length : Int)) = true := by simp; omega
    go_enter Tryz.func92, Tryz.ntmps92
    go_wp2_with fail
    go_ret
    exact ⟨ret_int (by rw [errS, if_pos hlen]), Below.refl _ _⟩
  have d1 : decide ((24 : Int) < (l.length : Int)) = false := by simp; omega
  have E1 := hid (show errS (n + 1) d l = errL (errE (errI (errS n (d + 1))) d) (fun x => x.1) (-1) l by rw [errS, if_neg hlen])
  go_enter Tryz.func92, Tryz.ntmps92
  go_wp2_with fail
  go_loopw [5] (fun i wr => ∃ (k : Nat) (b : Int), k ≤ l.length ∧ i = .int .i64 k ∧ Hid (Below w.heap.size w wr) ∧ Hid ((k = 0 ∧ b = -1) ∨ (0 < k ∧ 0 ≤ b ∧ ∃ y, l[k - 1]? = some y ∧ y.1 = b)) ∧ Hid (errS (n + 1) d l = errL (errE (errI (errS n (d + 1))) d) (fun x => x.1) b (l.drop k))) (fun i _ => l.length - (intOf i).toNat)
  case atStart => exact ⟨0, -1, Nat.zero_le _, rfl, Below.refl _ _, Or.inl ⟨rfl, rfl⟩, E1.out⟩
  case round =>
    obtain ⟨k, b, hk, rfl, hup, hbk, hspec⟩ := hrel
    by_cases hkl : k < l.length
    · obtain ⟨a, ad2, cap2, rfl, hFa, c0, c1, c2, c3, hrd⟩ := (h.up hup.out).at (List.getElem?_eq_getElem hkl)
      have hdr : l.drop k = l[k] :: l.drop (k + 1) := List.drop_eq_getElem_cons hkl
      have hxk := hid (List.getElem?_eq_getElem hkl)
      generalize l[k] = x at hrd hdr c0 c1 c2 c3 hxk
      have hstep := hid (show errL (errE (errI (errS n (d + 1))) d) (fun x => x.1) b (l.drop k) = if errE (errI (errS n (d + 1))) d b x = 0 then errL (errE (errI (errS n (d + 1))) d) (fun x => x.1) x.1 (l.drop (k + 1)) else errE (errI (errS n (d + 1))) d b x by rw [hdr]; rfl)
      clear hdr
      obtain ⟨t, kd, u, its⟩ := x
      simp only at c0 c1 c2 c3 hrd
      have hrd' := hid hrd
      clear hrd
      have hus := bs_size u
      have hkdl := bs_toList kd
      have hbad : Hid (∀ e, errE (errI (errS n (d + 1))) d b (t, kd, u, its) = e → e ≠ 0 → errS (n + 1) d l = e) := fun e h1 h2 => by rw [hspec.out, hstep.out, h1, if_neg h2]
      have hupA := hid (Below.alloc hup.out hup.out.size (.cells #[.int .i64 t, .string (bs kd), .string (bs u), .slice ad2 its.length cap2] 73))
      go_wp2_with fail
      go_at_call 42
      refine (ris_any _ kd).mono ?_
      rintro e w1 ⟨rfl, rfl⟩
      by_cases h1 : isK kd = false
      · rw [h1]
        go_wp2
        go_ret
        exact ⟨ret_int (hbad.out 2 (by unfold errE; rw [if_pos h1]) (by decide)).symm, hupA.out⟩
      have h1' : isK kd = true := by simpa using h1
      rw [h1']
      clear h1'
      by_cases h2 : t < 0 ∨ 4294967295 < t ∨ t / 65536 = 65534 ∨ t ≤ b
      · have h3 := hid (hbad.out 3 (by unfold errE; rw [if_neg h1, if_pos h2]) (by decide))
        by_cases ha : t < 0
        · have d2 : decide (t < 0) = true := by simpa using ha
          go_wp2_with fail
          go_quiet (fail)
          go_wp2
          go_ret
          exact ⟨ret_int h3.out.symm, below_drewN hupA.out _⟩
        · by_cases hb : 4294967295 < t
          · have d2 : decide (t < 0) = false := by simpa using ha
            have d3 : decide (4294967295 < t) = true := by simpa using hb
            go_wp2_with fail
            go_quiet (fail)
            go_wp2
            go_ret
            exact ⟨ret_int h3.out.symm, below_drewN hupA.out _⟩
          · obtain ⟨t, rfl⟩ := Int.eq_ofNat_of_zero_le (by omega : 0 ≤ t)
            have d2 : decide ((t : Int) < 0) = false := by simp
            have d3 : decide (4294967295 < (t : Int)) = false := by simp; omega
            have hw1 : IntKind.i64.wrap ((t : Int) / 65536) = ((t / 65536 : Nat) : Int) := by rw [IntKind.wrap_i64]; omega
            by_cases hc : t / 65536 = 65534
            · have d4 : (((t / 65536 : Nat) : Int) == 65534) = true := by rw [hc]; rfl
              go_wp2_with fail
              go_quiet (fail)
              go_wp2
              go_ret
              exact ⟨ret_int h3.out.symm, below_drewN hupA.out _⟩
            · have d4 : (((t / 65536 : Nat) : Int) == 65534) = false := by simp; omega
              have d4a : (((t : Int) / 65536) == 65534) = false := by simp; omega
              have d4b : ((t / 65536) == 65534) = false := by simp; omega
              obtain ⟨hk0, hb0, y, hy, hyb⟩ : 0 < k ∧ 0 ≤ b ∧ ∃ y, l[k - 1]? = some y ∧ y.1 = b := by
                rcases hbk.out with ⟨_, e⟩ | e
                · omega
                · exact e
              obtain ⟨a', _, _, ea, _, g0, _⟩ := (h.up hup.out).at hy
              obtain rfl := Option.some.inj ea
              rw [hyb] at g0
              have d5 : decide ((0 : Int) < (k : Int)) = true := by simp; omega
              have d6 : decide ((t : Int) ≤ b) = true := by simp; omega
              have hw2 : IntKind.i64.wrap ((k : Int) - 1) = ((k - 1 : Nat) : Int) := by rw [IntKind.wrap_i64]; omega
              have hik : k - 1 < l.length := by omega
              have g0A := cell_keep ((Below.heap_alloc wr (.cells #[.int .i64 (t : Int), .string (bs kd), .string (bs u), .slice ad2 its.length cap2] 73) _ (World.block_lt_of_cell? _ _ g0))) g0
              go_wp2_with fail
              go_quiet (fail)
              go_wp2
              go_ret
              exact ⟨ret_int h3.out.symm, below_drewN hupA.out _⟩
      · obtain ⟨t, rfl⟩ := Int.eq_ofNat_of_zero_le (by omega : 0 ≤ t)
        have d2 : decide ((t : Int) < 0) = false := by simp
        have d3 : decide (4294967295 < (t : Int)) = false := by simp; omega
        have hw1 : IntKind.i64.wrap ((t : Int) / 65536) = ((t / 65536 : Nat) : Int) := by rw [IntKind.wrap_i64]; omega
        have d4 : (((t / 65536 : Nat) : Int) == 65534) = false := by simp; omega
        have d4a : (((t : Int) / 65536) == 65534) = false := by simp; omega
        have d4b : ((t / 65536) == 65534) = false := by simp; omega
        have E2 : Hid (errE (errI (errS n (d + 1))) d b ((t : Int), kd, u, its) = if 64 < u.length ∨ u.getLast? = some (padB kd) then 4 else if (kd = SQ ∧ u ≠ []) ∨ (kd ≠ SQ ∧ its ≠ []) then 1 else if 8 < its.length then 4 else if kd = SQ ∧ 2 ≤ d then 5 else errI (errS n (d + 1)) its) := by
          unfold Hid errE
          rw [if_neg h1, if_neg h2]
        have hw2 : 0 < k → IntKind.i64.wrap ((k : Int) - 1) = ((k - 1 : Nat) : Int) := fun _ => by rw [IntKind.wrap_i64]; omega
        by_cases hk0 : 0 < k
        case' pos =>
          obtain ⟨_, hb0, y, hy, hyb⟩ : 0 < k ∧ 0 ≤ b ∧ ∃ y, l[k - 1]? = some y ∧ y.1 = b := by
            rcases hbk.out with ⟨e, _⟩ | e
            · omega
            · exact e
          obtain ⟨a', _, _, ea, _, g0, _⟩ := (h.up hup.out).at hy
          obtain rfl := Option.some.inj ea
          rw [hyb] at g0
          have d5 : decide ((0 : Int) < (k : Int)) = true := by simp; omega
          have d6 : decide ((t : Int) ≤ b) = false := by simp; omega
          have hw2' := hw2 hk0
          have hik : k - 1 < l.length := by omega
          have g0A := cell_keep ((Below.heap_alloc wr (.cells #[.int .i64 (t : Int), .string (bs kd), .string (bs u), .slice ad2 its.length cap2] 73) _ (World.block_lt_of_cell? _ _ g0))) g0
          clear hw2 h2
          go_wp2_with fail
          go_quiet (fail)
          go_wp2_with fail
        case' neg =>
          have d5 : decide ((0 : Int) < (k : Int)) = false := by simp; omega
          clear hw2 h2
          go_wp2_with fail
          go_quiet (fail)
          go_wp2_with fail
        all_goals have hX := (Four.new wr (.int .i64 (t : Int)) (.string (bs kd)) (.string (bs u)) (.slice ad2 its.length cap2))
        all_goals have hXd : Four ((wr.alloc (.cells #[.int .i64 (t : Int), .string (bs kd), .string (bs u), .slice ad2 its.length cap2] 73)).drewN nq) wr.heap.size (.int .i64 (t : Int)) (.string (bs kd)) (.string (bs u)) (.slice ad2 its.length cap2) := hX
        all_goals have hupB := hid (below_drewN hupA.out nq)
        all_goals have hrdB := hid (hrd'.out.up (below_drewN (Below.alloc (Below.refl wr.heap.size wr) (Nat.le_refl _) (.cells #[.int .i64 (t : Int), .string (bs kd), .string (bs u), .slice ad2 its.length cap2] 73)) nq))
        all_goals generalize (wr.alloc (.cells #[.int .i64 (t : Int), .string (bs kd), .string (bs u), .slice ad2 its.length cap2] 73)).drewN nq = wB at hXd hupB hrdB ⊢
        all_goals clear hX hupA
        all_goals obtain ⟨⟨x0, x1, x2, x3⟩, _⟩ := hXd.cells
        all_goals
          by_cases h4 : 64 < u.length
          · have d7 : decide ((64 : Int) < (u.length : Int)) = true := by simp; omega
            have h5 := hid (hbad.out 4 (by rw [E2.out, if_pos (Or.inl h4)]) (by decide))
            go_quiet (fail)
            go_wp2
            go_ret
            exact ⟨ret_int h5.out.symm, below_drewN hupB.out _⟩
          have d7 : decide ((64 : Int) < (u.length : Int)) = false := by simp; omega
          by_cases hu0 : u = []
          case' pos =>
            have hul : u.length = 0 := by rw [hu0]; rfl
            have d8 : decide ((0 : Int) < (u.length : Int)) = false := by simp; omega
            have E3 := hid (E2.out.trans (if_neg (by rw [hu0]; simp)))
            go_quiet (fail)
          case' neg =>
            have hpos : 0 < u.length := List.length_pos_iff.2 hu0
            have d8 : decide ((0 : Int) < (u.length : Int)) = true := by simp; omega
            have hw3 : IntKind.i64.wrap ((u.length : Int) - 1) = ((u.length - 1 : Nat) : Int) := by rw [IntKind.wrap_i64]; omega
            have hlt3 : u.length - 1 < u.length := by omega
            have hlt4 : ((u.length - 1 : Nat) : Int) < (u.length : Int) := by omega
            have hge4 : (0 : Int) ≤ ((u.length - 1 : Nat) : Int) := by omega
            have htn : (((u.length - 1 : Nat) : Int)).toNat = u.length - 1 := by omega
            have htest := last_test u kd hpos
            by_cases h5 : u.getLast? = some (padB kd)
            · rw [decide_eq_true h5] at htest
              have h6 := hid (hbad.out 4 (by rw [E2.out, if_pos (Or.inr h5)]) (by decide))
              go_quiet (first
                | (go_at_call 149; exact Calls.quiet_of_same (rpad_any _ kd)))
              go_wp2
              go_ret
              exact ⟨ret_int h6.out.symm, below_drewN hupB.out _⟩
            rw [decide_eq_false h5] at htest
            have E3 := hid (E2.out.trans (if_neg (fun e => e.elim h4 h5)))
            clear h5
            go_quiet (first
              | (go_at_call 149; exact Calls.quiet_of_same (rpad_any _ kd)))
            clear htest hw3
          all_goals have hXe : Four (wB.drewN nq) wr.heap.size (.int .i64 (t : Int)) (.string (bs kd)) (.string (bs u)) (.slice ad2 its.length cap2) := hXd
          all_goals have hupC := hid (below_drewN hupB.out nq)
          all_goals have hrdC := hid (hrdB.out.up (below_drewN (Below.refl _ wB) nq))
          all_goals clear x0 x1 x2 x3 hXd
          all_goals generalize wB.drewN nq = wC at hXe hupC hrdC ⊢
          all_goals clear hupB hrdB
          all_goals obtain ⟨⟨x0, x1, x2, x3⟩, _⟩ := hXe.cells
          all_goals clear E2
          all_goals
            by_cases h7 : (kd = SQ ∧ u ≠ []) ∨ (kd ≠ SQ ∧ its ≠ [])
            · have h8 := hid (hbad.out 1 (by rw [E3.out, if_pos h7]) (by decide))
              rcases h7 with ⟨g1, g2⟩ | ⟨g1, g2⟩
              · have hq : (kd == [83, 81]) = true := by simpa [SQ] using g1
                clear g1
                first
                  | exact absurd hu0 g2
                  | go_wp2
                    go_ret
                    exact ⟨ret_int h8.out.symm, hupC.out⟩
              · have hq : (kd == [83, 81]) = false := by simpa [SQ] using g1
                have d9 : 0 < its.length := List.length_pos_iff.2 g2
                clear g1 g2
                go_wp2
                go_ret
                exact ⟨ret_int h8.out.symm, hupC.out⟩
            have E4 := hid (E3.out.trans (if_neg h7))
            clear E3
            have d13 : decide ((8 : Int) < (its.length : Int)) = decide (8 < its.length) := decide_eq_decide.2 (by omega)
            have d14 : decide ((2 : Int) ≤ (d : Int)) = decide (2 ≤ d) := decide_eq_decide.2 (by omega)
            by_cases g1 : kd = SQ
            case' pos =>
              have hq : (kd == [83, 81]) = true := by simpa [SQ] using g1
              have g2 : u = [] := Classical.byContradiction fun e => h7 (Or.inl ⟨g1, e⟩)
              have d9 : decide ((0 : Int) < (u.length : Int)) = false := by rw [g2]; rfl
              have g1h := hid g1
              have g2h := hid g2
              clear h7 g1 g2
              by_cases h9 : 8 < its.length
              · rw [decide_eq_true h9] at d13
                have h8 := hid (hbad.out 4 (by rw [E4.out, if_pos h9]) (by decide))
                first
                  | exact absurd g2h.out hu0
                  | go_wp2
                    go_ret
                    exact ⟨ret_int h8.out.symm, hupC.out⟩
              rw [decide_eq_false h9] at d13
              by_cases h10 : 2 ≤ d
              · rw [decide_eq_true h10] at d14
                have h8 := hid (hbad.out 5 (by rw [E4.out, if_neg h9, if_pos ⟨g1h.out, h10⟩]) (by decide))
                first
                  | exact absurd g2h.out hu0
                  | go_wp2
                    go_ret
                    exact ⟨ret_int h8.out.symm, hupC.out⟩
              rw [decide_eq_false h10] at d14
              have E5 := hid (E4.out.trans ((if_neg h9).trans (if_neg (fun e => h10 e.2))))
              have hdn : Hid (its = [] ∨ (d + 1 ≤ 2 ∧ 3 ≤ d + 1 + n)) := Or.inr ⟨by omega, by omega⟩
              have hl8 : its.length ≤ 8 := by omega
              clear h9 h10 E4
            case' neg =>
              have hq : (kd == [83, 81]) = false := by simpa [SQ] using g1
              have g2 : its = [] := Classical.byContradiction fun e => h7 (Or.inr ⟨g1, e⟩)
              have d9 : ¬ 0 < its.length := by rw [g2]; simp
              have g1h := hid g1
              have g2h := hid g2
              have h9 : ¬ 8 < its.length := by rw [g2]; simp
              rw [decide_eq_false h9] at d13
              have E5 := hid (E4.out.trans ((if_neg h9).trans (if_neg (fun e => g1 e.1))))
              have hdn : Hid (its = [] ∨ (d + 1 ≤ 2 ∧ 3 ≤ d + 1 + n)) := Or.inl g2
              have hl8 : its.length ≤ 8 := by omega
              clear h7 g1 g2 h9 E4
            all_goals first
              | exact absurd g2h.out hu0
              | skip
            all_goals go_wp2_with fail
            all_goals (try clear hul)
            all_goals (try clear hpos hlt4 hlt3)
            all_goals clear hu0 d8 d9 d7 h4 d13 d14 hq
            all_goals
              go_loopw [9] (fun i w2 => ∃ j : Nat, j ≤ its.length ∧ i = .int .i64 j ∧ Hid (Below w.heap.size w w2) ∧ Hid (Below wC.heap.size wC w2) ∧ Hid (errI (errS n (d + 1)) its = errI (errS n (d + 1)) (its.drop j))) (fun i _ => its.length - (intOf i).toNat)
              case atStart => exact ⟨0, Nat.zero_le _, rfl, hupC, Below.refl _ _, rfl⟩
              case round =>
                obtain ⟨j, hj, rfl, hupD, hupE, hspI⟩ := hrel
                have hX2 := hXe.keep (hupE.out.block _ hXe.lt)
                clear x0 x1 x2 x3
                obtain ⟨⟨x0, x1, x2, x3⟩, _⟩ := hX2.cells
                by_cases hjl : j < its.length
                · first
                    | exact absurd hjl (by rw [show its = [] from g2h.out]; simp)
                    | obtain ⟨ad', cap', ee, hc⟩ := hrdC.out
                      obtain ⟨a3, ea, _, sv, hcell, hrd⟩ := hc j _ (List.getElem?_eq_getElem hjl)
                      injection ee with ee1 ee2 ee3
                      rw [ea] at ee1
                      subst ee1
                      rw [Nat.one_mul] at hcell
                      have hcr := cell_keep (hupE.out.block _ (World.block_lt_of_cell? _ _ hcell)) hcell
                      have hrd3 := hid (hrd.up hupE.out)
                      clear hcell hrd hc ee3 ea
                      have hdr : its.drop j = its[j] :: its.drop (j + 1) := List.drop_eq_getElem_cons hjl
                      generalize its[j] = y at hrd3 hdr
                      have hd' : Hid (d + 1 ≤ 2 ∧ 3 ≤ d + 1 + n) := by
                        rcases hdn.out with hd | hd
                        · rw [hd] at hjl; simp at hjl
                        · exact hd
                      obtain ⟨ad4, cap4, rfl⟩ := hrd3.out.slice
                      have hstI := hid (show errI (errS n (d + 1)) (its.drop j) = if errS n (d + 1) y = 0 then errI (errS n (d + 1)) (its.drop (j + 1)) else errS n (d + 1) y by rw [hdr]; rfl)
                      clear hdr
                      go_wp2_with fail
                      go_at_call 92
                      refine (H F _ _ y (d + 1) hd'.out.1 hd'.out.2 hrd3.out).mono ?_
                      rintro e w2 ⟨rfl, u2⟩
                      have hup2 := hid (hupD.out.trans (u2.mono hupD.out.size))
                      have hup3 := hid (hupE.out.trans (u2.mono hupE.out.size))
                      clear u2
                      generalize errS n (d + 1) y = ee at hstI ⊢
                      by_cases he : ee = 0
                      · subst he
                        go_wp2
                        go_roundw
                        case rel => exact ⟨j + 1, by omega, by go_num, hup2, hup3, by unfold Hid; rw [hspI.out, hstI.out]; simp⟩
                        case measure => simp [intOf]; omega
                      · have he2 : (ee != 0) = true := by simpa using he
                        have he3 := hid (hbad.out ee (by rw [E5.out, hspI.out, hstI.out, if_neg he]) he)
                        clear he
                        go_wp2
                        go_ret
                        exact ⟨ret_int he3.out.symm, hup2.out⟩
                · have hlast := hid (show errS (n + 1) d l = errL (errE (errI (errS n (d + 1))) d) (fun x => x.1) (t : Int) (l.drop (k + 1)) by
                    rw [hspec.out, hstep.out, if_pos (by rw [E5.out, hspI.out, List.drop_eq_nil_of_le (by omega)]; rfl)])
                  go_wp2
                  go_roundw
                  case rel => exact ⟨k + 1, t, by omega, by go_num, hupD, Or.inr ⟨by omega, by omega, _, hxk.out, rfl⟩, hlast⟩
                  case measure => simp [intOf]; omega
    · go_wp2
      go_ret
      refine ⟨ret_int ?_, hup.out⟩
      rw [hspec.out, List.drop_eq_nil_of_le (by omega)]; rfl
theorem rwrong_any : ∀ n, RE n
  | 0 => fun _ _ _ _ _ hd hn => by omega
  | n + 1 => rwrong_succ n (rwrong_any n)
end Go.Proofs.YtaokifbpakbgdaaGreatDoor

/- The same reader of bytes, going on from place to place (no program). -/
namespace Go.Proofs.YtaokifbpakbgdaaGreatDoor

/-- The bytes from a place to another. -/
def win (s : By) (a e : Nat) : By := (s.take e).drop a
theorem win_length {s : By} {a e : Nat} (h : e ≤ s.length) : (win s a e).length = e - a := by
  unfold win
  rw [List.length_drop, List.length_take]; omega
theorem win_drop (s : By) (a e k : Nat) : (win s a e).drop k = win s (a + k) e := by
  unfold win; rw [List.drop_drop]
theorem win_take (s : By) (a e k : Nat) (h : a + k ≤ e) : (win s a e).take k = win s a (a + k) := by
  unfold win
  rw [List.take_drop, List.take_take, Nat.min_eq_left h]
theorem win_all (s : By) : win s 0 s.length = s := by unfold win; simp
theorem win_self (s : By) (a : Nat) (h : a ≤ s.length) : win s a a = [] := List.eq_nil_of_length_eq_zero (by rw [win_length h]; omega)
/-- The number at a place. -/
def numA (s : By) (a k : Nat) : Nat := le (win s a (a + k))
def tagA (s : By) (a : Nat) : Nat := 65536 * numA s a 2 + numA s (a + 2) 2
theorem numA_lt {s : By} {a k : Nat} (h : a + k ≤ s.length) : numA s a k < 256 ^ k := by
  have := le_lt (win s a (a + k))
  rw [win_length h] at this
  rw [show a + k - a = k by omega] at this
  exact this
theorem tagA_lt {s : By} {a : Nat} (h : a + 4 ≤ s.length) : tagA s a < 4294967296 := by
  have h1 := numA_lt (s := s) (a := a) (k := 2) (by omega)
  have h2 := numA_lt (s := s) (a := a + 2) (k := 2) (by omega)
  have h3 : (256 : Nat) ^ 2 = 65536 := rfl
  unfold tagA; omega
theorem tk_win {s : By} {a e : Nat} (k : Nat) (h : e ≤ s.length) (ha : a ≤ e) : tk k (win s a e) = if a + k ≤ e then some (win s a (a + k), win s (a + k) e) else none := by
  unfold tk
  rw [win_length h]
  by_cases hk : a + k ≤ e
  · rw [if_pos (by omega), if_pos hk, win_take _ _ _ _ hk, win_drop]
  · rw [if_neg (by omega), if_neg hk]
theorem nu_win {s : By} {a e : Nat} (k : Nat) (h : e ≤ s.length) (ha : a ≤ e) : nu k (win s a e) = if a + k ≤ e then some (numA s a k, win s (a + k) e) else none := by
  unfold nu
  rw [tk_win k h ha]
  by_cases hk : a + k ≤ e
  · rw [if_pos hk, if_pos hk]; rfl
  · rw [if_neg hk, if_neg hk]
theorem tg_win {s : By} {a e : Nat} (h : e ≤ s.length) (ha : a ≤ e) : tg (win s a e) = if a + 4 ≤ e then some (tagA s a, win s (a + 4) e) else none := by
  unfold tg
  rw [nu_win 2 h ha]
  by_cases h2 : a + 2 ≤ e
  · rw [if_pos h2]
    simp only []
    rw [nu_win 2 h h2]
    by_cases h4 : a + 4 ≤ e
    · rw [if_pos (by omega), if_pos h4]; rfl
    · rw [if_neg (by omega), if_neg h4]
  · rw [if_neg h2, if_neg (by omega)]
theorem ze_win {s : By} {a e : Nat} (k : Nat) (h : e ≤ s.length) (ha : a ≤ e) : ze k (win s a e) = if a + k ≤ e ∧ numA s a k = 0 then some (win s (a + k) e) else none := by
  unfold ze
  rw [nu_win k h ha]
  by_cases hk : a + k ≤ e
  · rw [if_pos hk]
    simp only []
    by_cases h0 : numA s a k = 0
    · rw [if_pos h0, if_pos ⟨hk, h0⟩]
    · rw [if_neg h0, if_neg (fun e => h0 e.2)]
  · rw [if_neg hk, if_neg (fun e => hk e.1)]

/-- One thing; things up to the end or to a mark. -/
def one {α : Type} (f : Nat → By → Option (α × By)) (s : By) : Option (α × By) := match tg s with
  | none => none
  | some (t, r) => f t r
def setP {α : Type} (o : Bool) (M : Nat) (f : Nat → By → Option (α × By)) (s : By) : Option (List α × By) := if o then toMark M f s.length s else (toEnd f s.length s).map (fun l => (l, []))
def markB (M : Nat) (s : By) : Bool := match tg s with
  | none => false
  | some (t, r) => match ze 4 r with
    | none => false
    | some _ => decide (t = M)
theorem markB_win {s : By} {a e : Nat} (M : Nat) (h : e ≤ s.length) (ha : a ≤ e) : markB M (win s a e) = decide (a + 8 ≤ e ∧ tagA s a = M ∧ numA s (a + 4) 4 = 0) := by
  unfold markB
  rw [tg_win h ha]
  by_cases h4 : a + 4 ≤ e
  · rw [if_pos h4]
    simp only []
    rw [ze_win 4 h h4]
    by_cases h8 : a + 4 + 4 ≤ e ∧ numA s (a + 4) 4 = 0
    · rw [if_pos h8]
      simp only []
      exact decide_eq_decide.2 ⟨fun e => ⟨by omega, e, h8.2⟩, fun e => e.2.1⟩
    · rw [if_neg h8]
      simp only []
      exact (decide_eq_false (fun e => h8 ⟨by omega, e.2.2⟩)).symm
  · rw [if_neg h4]
    exact (decide_eq_false (fun e => by omega)).symm
theorem one_eats {α : Type} {f : Nat → By → Option (α × By)} (hf : Eats f) {s r : By} {x : α} (h : one f s = some (x, r)) : r.length + 4 ≤ s.length := by
  unfold one at h
  split at h
  · cases h
  · rename_i t r1 e1
    have h1 := tg_len e1
    have h2 := hf _ _ _ _ h
    omega
theorem ze4_drop {s r1 r : By} {t : Nat} (h1 : tg s = some (t, r1)) (h2 : ze 4 r1 = some r) : r = s.drop 8 := by
  have a1 : r1 = s.drop 4 := by
    have hl := tg_len h1
    have := tg_win (s := s) (a := 0) (e := s.length) (Nat.le_refl _) (Nat.zero_le _)
    rw [win_all, if_pos (by omega), h1] at this
    injection this with this
    injection this with _ this
    rw [this]; unfold win; simp
  have hl := ze_len h2
  have := ze_win (s := r1) (a := 0) (e := r1.length) 4 (Nat.le_refl _) (Nat.zero_le _)
  rw [win_all, h2] at this
  split at this
  · injection this with this
    rw [this, a1]; unfold win
    rw [List.take_of_length_le (Nat.le_refl _), List.drop_drop]
  · cases this
theorem setP_mark {α : Type} {M : Nat} {f : Nat → By → Option (α × By)} (hf : Eats f) {s : By} (h : markB M s = true) : setP true M f s = some ([], s.drop 8) := by
  show toMark M f s.length s = _
  rw [toMark_step hf]
  unfold markB at h
  cases e1 : tg s with
  | none => rw [e1] at h; cases h
  | some p =>
    obtain ⟨t, r⟩ := p
    rw [e1] at h
    simp only [] at h ⊢
    cases e2 : ze 4 r with
    | none => rw [e2] at h; cases h
    | some r2 =>
      rw [e2] at h
      simp only [decide_eq_true_eq] at h
      rw [if_pos h, Option.map_some, ze4_drop e1 e2]
theorem setP_end {α : Type} {M : Nat} {f : Nat → By → Option (α × By)} : setP false M f [] = some (([] : List α), []) := rfl
theorem setP_none {α : Type} {o : Bool} {M : Nat} {f : Nat → By → Option (α × By)} (hf : Eats f) {s : By} (h : (o = true ∧ markB M s = false) ∨ (o = false ∧ s ≠ [])) (h1 : one f s = none) : setP o M f s = none := by
  unfold one at h1
  rcases h with ⟨rfl, h⟩ | ⟨rfl, h⟩
  · show toMark M f s.length s = none
    rw [toMark_step hf]
    unfold markB at h
    cases e1 : tg s with
    | none => rfl
    | some p =>
      obtain ⟨t, r⟩ := p
      rw [e1] at h h1
      simp only [] at h h1 ⊢
      by_cases ht : t = M
      · rw [if_pos ht]
        cases e2 : ze 4 r with
        | none => rfl
        | some r2 => rw [e2] at h; simp at h; exact absurd ht h
      · rw [if_neg ht, h1]
  · show (toEnd f s.length s).map _ = none
    rw [toEnd_step hf h]
    cases e1 : tg s with
    | none => rfl
    | some p =>
      obtain ⟨t, r⟩ := p
      rw [e1] at h1
      simp only [] at h1 ⊢
      rw [h1]; rfl
theorem setP_one {α : Type} {o : Bool} {M : Nat} {f : Nat → By → Option (α × By)} (hf : Eats f) (hM : ∀ r, f M r = none) {s r : By} {x : α} (h : (o = true ∧ markB M s = false) ∨ (o = false ∧ s ≠ [])) (h1 : one f s = some (x, r)) : setP o M f s = (setP o M f r).map (fun p => (x :: p.1, p.2)) := by
  unfold one at h1
  rcases h with ⟨rfl, h⟩ | ⟨rfl, h⟩
  · show toMark M f s.length s = (toMark M f r.length r).map _
    rw [toMark_step hf]
    cases e1 : tg s with
    | none => rw [e1] at h1; cases h1
    | some p =>
      obtain ⟨t, r1⟩ := p
      rw [e1] at h1
      simp only [] at h1 ⊢
      by_cases ht : t = M
      · rw [ht, hM] at h1; cases h1
      · rw [if_neg ht, h1]
  · show (toEnd f s.length s).map _ = ((toEnd f r.length r).map _).map _
    rw [toEnd_step hf h]
    cases e1 : tg s with
    | none => rw [e1] at h1; cases h1
    | some p =>
      obtain ⟨t, r1⟩ := p
      rw [e1] at h1
      simp only [] at h1 ⊢
      rw [h1]
      simp only []
      cases toEnd f r.length r <;> rfl
/-- Things of so many bytes, or up to a mark. -/
def lgN {α : Type} (M : Nat) (f : Nat → By → Option (α × By)) (k : Nat) (r : By) : Option (List α × By) := if k = 4294967295 then setP true M f r else match tk k r with
  | none => none
  | some (a, r2) => (setP false M f a).map (fun p => (p.1, r2))
theorem lg_N {α : Type} (M : Nat) (f : Nat → By → Option (α × By)) (s : By) : lg M f s = match nu 4 s with
    | none => none
    | some (k, r) => lgN M f k r := by
  unfold lg
  cases nu 4 s with
  | none => rfl
  | some p =>
    obtain ⟨k, r⟩ := p
    simp only []
    unfold lgN
    by_cases hk : k = 4294967295
    · rw [if_pos hk, if_pos hk]; rfl
    · rw [if_neg hk, if_neg hk]
      cases tk k r with
      | none => rfl
      | some q =>
        obtain ⟨a, r2⟩ := q
        simp only []
        unfold setP
        simp only [Bool.false_eq_true, if_false]
        cases toEnd f a.length a <;> rfl
theorem lgN_open {α : Type} {M : Nat} {f : Nat → By → Option (α × By)} {r : By} : lgN M f 4294967295 r = setP true M f r := if_pos rfl
theorem lgN_closed {α : Type} {M : Nat} {f : Nat → By → Option (α × By)} {s : By} {a e k : Nat} (h : e ≤ s.length) (ha : a ≤ e) (hk : k ≠ 4294967295) (hf : a + k ≤ e) : lgN M f k (win s a e) = (setP false M f (win s a (a + k))).map (fun p => (p.1, win s (a + k) e)) := by
  unfold lgN
  rw [if_neg hk, tk_win k h ha, if_pos hf]
theorem lgN_short {α : Type} {M : Nat} {f : Nat → By → Option (α × By)} {s : By} {a e k : Nat} (h : e ≤ s.length) (ha : a ≤ e) (hk : k ≠ 4294967295) (hf : ¬ a + k ≤ e) : lgN M f k (win s a e) = none := by
  unfold lgN
  rw [if_neg hk, tk_win k h ha, if_neg hf]
/-- An item at a place. -/
theorem one_it {α : Type} {f : Nat → By → Option (α × By)} {s : By} {a e : Nat} (h : e ≤ s.length) (ha : a ≤ e) : one (itP f) (win s a e) = if a + 8 ≤ e ∧ tagA s a = 4294893568 then lgN 4294893581 f (numA s (a + 4) 4) (win s (a + 8) e) else none := by
  unfold one
  rw [tg_win h ha]
  by_cases h4 : a + 4 ≤ e
  · rw [if_pos h4]
    simp only []
    unfold itP
    by_cases ht : tagA s a = 4294893568
    · rw [if_pos ht, lg_N, nu_win 4 h h4]
      by_cases h8 : a + 8 ≤ e
      · rw [if_pos (by omega), if_pos ⟨h8, ht⟩]
      · rw [if_neg (by omega), if_neg (fun e => h8 e.1)]
    · rw [if_neg ht, if_neg (fun e => ht e.2)]
  · rw [if_neg h4, if_neg (fun e => by omega)]
/-- An element at a place. -/
theorem one_short {m n : Nat} {s : By} {a e : Nat} (h : e ≤ s.length) (ha : a ≤ e) (h8 : ¬ a + 8 ≤ e) : one (elP (m + 1) n) (win s a e) = none := by
  unfold one
  rw [tg_win h ha]
  by_cases h4 : a + 4 ≤ e
  · rw [if_pos h4]
    simp only []
    rw [elP]
    split
    · rfl
    · rw [tk_win 2 h h4]
      by_cases h6 : a + 4 + 2 ≤ e
      · rw [if_pos h6]
        simp only []
        split
        · rw [ze_win 2 h h6, if_neg (fun e => by omega)]
        · unfold va
          rw [nu_win 2 h h6, if_neg (by omega)]
      · rw [if_neg h6]
  · rw [if_neg h4]
theorem one_res {m n : Nat} {s : By} {a e : Nat} (h : e ≤ s.length) (ha : a ≤ e) (ht : tagA s a / 65536 = 65534) : one (elP (m + 1) n) (win s a e) = none := by
  unfold one
  rw [tg_win h ha]
  by_cases h4 : a + 4 ≤ e
  · rw [if_pos h4]
    simp only []
    rw [elP, if_pos ht]
  · rw [if_neg h4]
theorem one_el {m n : Nat} {s : By} {a e : Nat} (h : e ≤ s.length) (h8 : a + 8 ≤ e) (ht : tagA s a / 65536 ≠ 65534) : one (elP (m + 1) n) (win s a e) =
    if win s (a + 4) (a + 6) = SQ then (if numA s (a + 6) 2 = 0 ∧ a + 12 ≤ e then (lgN 4294893789 (itP (elP m (n - 1))) (numA s (a + 8) 4) (win s (a + 12) e)).map (fun p => (mkE n (tagA s a) (win s (a + 4) (a + 6)) [] p.1, p.2)) else none)
    else (if numA s (a + 6) 2 % 2 = 0 ∧ a + 8 + numA s (a + 6) 2 ≤ e then some (mkE n (tagA s a) (win s (a + 4) (a + 6)) (trimB (padB (win s (a + 4) (a + 6))) (win s (a + 8) (a + 8 + numA s (a + 6) 2))) [], win s (a + 8 + numA s (a + 6) 2) e) else none) := by
  unfold one
  rw [tg_win h (by omega), if_pos (by omega)]
  simp only []
  rw [elP, if_neg ht, tk_win 2 h (by omega), if_pos (by omega)]
  simp only []
  by_cases hq : win s (a + 4) (a + 6) = SQ
  · rw [if_pos hq, if_pos (by exact hq), ze_win 2 h (by omega)]
    by_cases h0 : numA s (a + 6) 2 = 0
    · rw [if_pos ⟨by omega, h0⟩]
      simp only []
      rw [lg_N, nu_win 4 h (by omega)]
      by_cases h12 : a + 12 ≤ e
      · rw [if_pos (by omega), if_pos ⟨h0, h12⟩]
        simp only []
        show (match lgN 4294893789 (itP (elP m (n - 1))) (numA s (a + 8) 4) (win s (a + 12) e) with | none => none | some (its, r) => some (mkE n (tagA s a) (win s (a + 4) (a + 6)) [] its, r)) = _
        cases lgN 4294893789 (itP (elP m (n - 1))) (numA s (a + 8) 4) (win s (a + 12) e) <;> rfl
      · rw [if_neg (by omega), if_neg (fun e => h12 e.2)]
    · rw [if_neg (fun e => h0 e.2), if_neg (fun e => h0 e.1)]
  · rw [if_neg hq, if_neg (by exact hq)]
    unfold va
    rw [nu_win 2 h (by omega), if_pos (by omega)]
    simp only []
    by_cases hp : numA s (a + 6) 2 % 2 = 0
    · rw [if_pos (by exact hp)]
      rw [show a + 4 + 2 + 2 = a + 8 by omega, show a + 4 + 2 = a + 6 by omega, tk_win _ h h8]
      by_cases hk : a + 8 + numA s (a + 6) 2 ≤ e
      · rw [if_pos hk, if_pos ⟨hp, hk⟩]
      · rw [if_neg hk, if_neg (fun e => hk e.2)]
    · rw [if_neg (by exact hp), if_neg (fun e => hp e.1)]
theorem win_snoc {s : By} {a k : Nat} (h : k < s.length) (ha : a ≤ k) : win s a (k + 1) = win s a k ++ [s[k]] := by
  unfold win
  rw [List.take_succ_eq_append_getElem h, List.drop_append_of_le_length (by rw [List.length_take]; omega)]
theorem trim_pad {s : By} {a k : Nat} {p : UInt8} (h : k < s.length) (ha : a ≤ k) (hp : s[k] = p) : trimB p (win s a (k + 1)) = trimB p (win s a k) := by
  rw [win_snoc h ha]
  unfold trimB
  rw [List.reverse_append, List.reverse_singleton, List.singleton_append, List.dropWhile_cons, if_pos (by simp [hp])]
theorem trim_else {s : By} {a k : Nat} {p : UInt8} (h : k < s.length) (ha : a ≤ k) (hp : s[k] ≠ p) : trimB p (win s a (k + 1)) = win s a (k + 1) := by
  rw [win_snoc h ha]
  unfold trimB
  rw [List.reverse_append, List.reverse_singleton, List.singleton_append, List.dropWhile_cons, if_neg (by simpa using hp)]
  simp
theorem elP_mark (m n M : Nat) (h : M / 65536 = 65534) : ∀ r, elP m n M r = none := by
  intro r
  cases m with
  | zero => rfl
  | succ m => rw [elP, if_pos h]
theorem itP_mark {α : Type} (f : Nat → By → Option (α × By)) (r : By) : itP f 4294893789 r = none := by
  unfold itP
  exact if_neg (by decide)
theorem parse_set (n : Nat) (s : By) : parse n s = (setP false 4294893581 (elP (s.length + 1) n) s).map (·.1) := by
  unfold parse setP
  simp only [Bool.false_eq_true, if_false]
  cases toEnd (elP (s.length + 1) n) s.length s <;> rfl
end Go.Proofs.YtaokifbpakbgdaaGreatDoor

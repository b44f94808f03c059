/-
  Several texts in one; what each one has stands at its head.
-/
import Derived.Test.YtaokifbpakbgdaaGreatDoorPut19
import Derived.Test.YtaokifbpakbgdaaGreatDoorPut20
import Derived.Laws.AppendOwnNone
import Derived.BigQuiet
import Derived.Deep.CutBlock
import Derived.Test.YtaokifbpakbgdaaGreatDoorPut16
/- Package foliokeep: the names of a level, each once, rising (book.there). -/
namespace Go.Proofs.YtaokifbpakbgdaaGreatDoor
open Go.RowKit
theorem grow_below {w wr w2 : World} {e : TypeId} {k : Nat} {v : Value} {n : Nat} {xs : List Value} (hU : Below w.heap.size w wr) (hown : wr.ownsRow w.heap.size e k v n xs) (hg : wr.grownBy w2 v.ownBlock) : Below w.heap.size w w2 :=
  Below.grown hU hg hU.size (fun j hj => (hown.lt j hj).1)
theorem row_base {w : World} {b b' : Nat} {e : TypeId} {k : Nat} {v : Value} {n : Nat} {xs : List Value} (h : w.ownsRow b e k v n xs) (hb : b' ≤ b) : w.ownsRow b' e k v n xs := by
  obtain ⟨q1, q2⟩ := h
  rcases q2 with ⟨rfl, q2⟩ | ⟨g, cap, cur, rfl, q2, q3⟩
  · exact ⟨q1, Or.inl ⟨rfl, q2⟩⟩
  · exact ⟨q1, Or.inr ⟨g, cap, cur, rfl, Nat.le_trans hb q2, q3⟩⟩
theorem row_take {w : World} {base g cap : Nat} {L : List By} (h : w.ownsRow base 9 1 (.slice (some ⟨g, 0, none⟩) L.length cap) L.length (L.map stV)) (i : Nat) : ∀ j u, ((L.take i).map stV)[j]? = some u → w.cell? ((⟨g, 0, none⟩ : Addr).add j) = some u := by
  intro j u hu
  rw [List.getElem?_map, List.getElem?_take] at hu
  by_cases hji : j < i
  · rw [if_pos hji] at hu
    have hj : j < L.length := by
      rcases Nat.lt_or_ge j L.length with h | h
      · exact h
      · rw [List.getElem?_eq_none h] at hu; cases hu
    rw [Addr.add_lit, Nat.zero_add, h.cellAt j (by simpa using hj), List.getElem?_map]
    exact hu
  · rw [if_neg hji] at hu; cases hu
theorem row_drop {w : World} {base g cap : Nat} {L : List By} (h : w.ownsRow base 9 1 (.slice (some ⟨g, 0, none⟩) L.length cap) L.length (L.map stV)) (i : Nat) : ∀ j u, ((L.drop i).map stV)[j]? = some u → w.cell? ((⟨g, i, none⟩ : Addr).add j) = some u := by
  intro j u hu
  rw [List.getElem?_map, List.getElem?_drop] at hu
  have hj : i + j < L.length := by
    rcases Nat.lt_or_ge (i + j) L.length with h | h
    · exact h
    · rw [List.getElem?_eq_none h] at hu; cases hu
  rw [Addr.add_lit, h.cellAt (i + j) (by simpa using hj), List.getElem?_map]
  exact hu
theorem own_cap {w : World} {base : Nat} {e : TypeId} {ad : Option Addr} {n cap : Nat} {xs : List Value} {k : Nat} (h : w.ownsRow base e k (.slice ad n cap) n xs) : n ≤ cap := by
  rcases h.2 with ⟨e1, e2⟩ | ⟨g, c, cur, e1, _, _, h3, _⟩
  · omega
  · obtain ⟨_, _, rfl⟩ := Value.slice.inj e1
    exact h3
theorem there_row {w : World} {b b' : Nat} {v : Value} {j n : Nat} {L : List By} {x : By} {ys : List Value} (h : w.ownsRow b 9 1 v n ys) (hj : j ≤ L.length) (hn : n = L.length + 1) (hy : ys = (L.take j ++ x :: L.drop j).map stV) (hb : b' ≤ b) : w.ownsRow b' 9 1 v (L.take j ++ x :: L.drop j).length ((L.take j ++ x :: L.drop j).map stV) := by
  subst hy
  have e : (L.take j ++ x :: L.drop j).length = n := by rw [List.length_append, List.length_cons, List.length_take, List.length_drop, Nat.min_eq_left hj]; omega
  rw [e]
  exact row_base h hb
theorem own_shape {w : World} {base : Nat} {e : TypeId} {ad : Option Addr} {n cap : Nat} {xs : List Value} {k : Nat} (h : w.ownsRow base e k (.slice ad n cap) n xs) : (ad = none ∧ n = 0 ∧ cap = 0) ∨ ∃ g, ad = some ⟨g, 0, none⟩ := by
  rcases h.2 with ⟨e1, e2⟩ | ⟨g, c, cur, e1, _⟩
  · obtain ⟨rfl, h2, rfl⟩ := Value.slice.inj e1
    exact Or.inl ⟨rfl, h2, rfl⟩
  · obtain ⟨rfl, _, rfl⟩ := Value.slice.inj e1
    exact Or.inr ⟨g, rfl⟩
theorem sts_one (L : List By) : ∀ u ∈ L.map stV, u.oneCell' = true := by
  intro u hu
  obtain ⟨s, _, rfl⟩ := List.mem_map.1 hu
  rfl
set_option maxRecDepth 20000 in
set_option maxHeartbeats 4000000 in
theorem kthere_any (w0 w : World) (B a m : Nat) (T : Int) (F G : Nat → Prop) (fv : Value) (A : List (List (El 3))) (lvl : Nat) (ab : By) (h : BkI w0 w B a m T F G fv A A) (hA : A.length ≤ 48) (hlv : lvl < 4) :
    Calls Tryz.prog 29 #[ptr B, .int .i64 lvl, .string (bs ab)] w fun e w' => ∃ v L, e = .returned v ∧ Below w.heap.size w w' ∧ w'.ownsRow w.heap.size 9 1 v L.length (L.map stV) ∧ ThereL A lvl ab A.length L := by
  obtain ⟨i0, hi0, hz0, hz1, hz2⟩ := info_parts info_str
  have HI := hid hi0
  have H := hid h
  obtain ⟨xs0, hown0, _⟩ := h.2.2.1
  obtain ⟨adf, capf, rfl⟩ := row_sl hown0
  clear hi0 hown0 h
  go_enter Tryz.func29, Tryz.ntmps29
  go_wp2_with fail
  go_loopw [7, 8] (fun o i wr => ∃ (k : Nat) (L : List By), k ≤ A.length ∧ i = .int .i64 k ∧ Hid (wr.ownsRow w.heap.size 9 1 o L.length (L.map stV)) ∧ Hid (ThereL A lvl ab k L) ∧ Hid (Below w.heap.size w wr)) (fun _ i _ => A.length - (intOf i).toNat)
  case atStart => exact ⟨0, [], Nat.zero_le _, rfl, World.ownsRow_nil _ _ _ _, ThereL.zero _ _ _, Below.refl _ _⟩
  case round =>
    obtain ⟨k, L, hk, rfl, hown, hth, hU⟩ := hrel
    obtain ⟨wK, rfl⟩ : ∃ wK, wK = wr := ⟨_, rfl⟩
    have HB := hid (H.out.up hU.out)
    have b1 := HB.out.1.at (i := 1) rfl
    obtain ⟨adS, capS, rfl⟩ := row_slice hown.out
    by_cases hkl : k < A.length
    · obtain ⟨gg, cap9, sv9, e9, c9, _, _⟩ := HB.out.at (List.getElem?_eq_getElem hkl)
      obtain ⟨rfl, _, rfl⟩ := Value.slice.inj e9
      have n0 : wK.cell? ⟨gg, k * 5, none⟩ = some (.string (bs (nm (n := 2) 0 A[k]))) := c9 0 (by omega)
      have n1 := c9 1 (by omega)
      have n2 := c9 2 (by omega)
      have n3 := c9 3 (by omega)
      have hget := hid (List.getElem?_eq_getElem hkl)
      have hk2 : (k : Int) < A.length := by omega
      have hLk := hth.out.2.2
      generalize A[k] = o at n0 n1 n2 n3 hget
      clear e9 c9
      have hl4 : (lvl : Int) < 4 := by omega
      go_upto_region 6 with fail
      have NB : cls (wK.alloc (.cells #[.string (bs (nm (n := 2) 0 o)), .string (bs (nm (n := 2) 1 o)), .string (bs (nm (n := 2) 2 o)), .string (bs (nm (n := 2) 3 o))] 58)) wK.heap.size #[.string (bs (nm (n := 2) 0 o)), .string (bs (nm (n := 2) 1 o)), .string (bs (nm (n := 2) 2 o)), .string (bs (nm (n := 2) 3 o))] 58 := heap_alloc_new _ _
      have uN := Below.alloc (Below.refl wK.heap.size wK) (Nat.le_refl _) (.cells #[.string (bs (nm (n := 2) 0 o)), .string (bs (nm (n := 2) 1 o)), .string (bs (nm (n := 2) 2 o)), .string (bs (nm (n := 2) 3 o))] 58)
      have hNs : (wK.alloc (.cells #[.string (bs (nm (n := 2) 0 o)), .string (bs (nm (n := 2) 1 o)), .string (bs (nm (n := 2) 2 o)), .string (bs (nm (n := 2) 3 o))] 58)).heap.size = wK.heap.size + 1 := World.size_alloc _ _
      generalize wK.alloc (.cells #[.string (bs (nm (n := 2) 0 o)), .string (bs (nm (n := 2) 1 o)), .string (bs (nm (n := 2) 2 o)), .string (bs (nm (n := 2) 3 o))] 58) = wN at NB uN hNs ⊢
      have NQ := hid (show ∀ i, i < 4 → wN.cell? ⟨wK.heap.size, i, none⟩ = some (.string (bs (nm (n := 2) i o))) from fun i hi => by
        rcases (show i = 0 ∨ i = 1 ∨ i = 2 ∨ i = 3 by omega) with rfl | rfl | rfl | rfl <;> exact NB.at rfl)
      have UN := hid (hU.out.trans (uN.mono hU.out.size))
      have ON := hid (ownsRow_keep hown.out (w' := wN) (fun j hj => uN.block j (ownsRow_lt hown.out j hj)))
      have nx := NQ.out lvl hlv
      have ex := bs_toList (nm (n := 2) lvl o)
      have eb := bs_toList ab
      have TM := hid (fun (h : AbvOk lvl ab o) (j : Nat) (hj : j ≤ L.length) h1 h2 => hth.out.more hget.out h (j := j) hj h1 h2)
      have TK := hid (fun hm => hth.out.known hget.out hm)
      have TS := hid (fun hn => hth.out.skip hget.out hn)
      generalize HX : nm (n := 2) lvl o = x at nx ex TM TK
      clear HX n0 n1 n2 n3 b1 NB uN hown
      have hcase : Hid ((decide (0 < lvl) = false ∧ AbvOk lvl ab o) ∨ (decide (0 < lvl) = true ∧ 0 < lvl ∧ (((nm (n := 2) (lvl - 1) o == ab) = true ∧ AbvOk lvl ab o) ∨ ((nm (n := 2) (lvl - 1) o == ab) = false ∧ ¬ AbvOk lvl ab o)))) := by
        unfold AbvOk
        by_cases h0 : lvl = 0
        · exact Or.inl ⟨decide_eq_false (by omega), Or.inl h0⟩
        · refine Or.inr ⟨decide_eq_true (by omega), by omega, ?_⟩
          by_cases h1 : nm (n := 2) (lvl - 1) o = ab
          · exact Or.inl ⟨by simpa using h1, Or.inr h1⟩
          · exact Or.inr ⟨by simpa using h1, fun h => h.elim h0 h1⟩
      have hO48 : L.length ≤ 48 := by omega
      have NXH := hid nx
      rcases hcase.out with ⟨hd, habv⟩ | ⟨hd, hl1, ⟨hd2, habv⟩ | ⟨hd2, habv⟩⟩
      case inr.inr =>
        have na := NQ.out (lvl - 1) (by omega)
        have en := bs_toList (nm (n := 2) (lvl - 1) o)
        have hw1 : ((lvl : Int) - 1).toNat = lvl - 1 := by omega
        have hw2 : (0 : Int) ≤ (lvl : Int) - 1 := by omega
        generalize nm (n := 2) (lvl - 1) o = xa at na en hd2
        go_wp2
        go_roundw
        case rel => exact ⟨k + 1, L, by omega, by go_num, ON, hid (TS.out habv), UN⟩
        case measure => simp [intOf]; omega
      case' inl => go_wp2_with fail
      case' inr.inl =>
        have na := NQ.out (lvl - 1) (by omega)
        have en := bs_toList (nm (n := 2) (lvl - 1) o)
        have hw1 : ((lvl : Int) - 1).toNat = lvl - 1 := by omega
        have hw2 : (0 : Int) ≤ (lvl : Int) - 1 := by omega
        generalize nm (n := 2) (lvl - 1) o = xa at na en hd2
        go_wp2_with fail
      all_goals
        clear nx hd TS
        have HAB := hid habv
        clear habv
        go_loopw [10] (fun kv wr => ∃ j : Nat, j ≤ L.length ∧ kv = .int .i64 j ∧ Hid (∀ y ∈ L.take j, Op.bytesLess y x = true) ∧ Hid (Below wN.heap.size wN wr)) (fun kv _ => L.length - (intOf kv).toNat)
        case atStart => exact ⟨0, Nat.zero_le _, rfl, (by unfold Hid; simp), Below.refl _ _⟩
        case round =>
          obtain ⟨j, hj, rfl, hlt, hW⟩ := hrel
          have nx := (hW.out.cell (World.block_lt_of_cell? _ _ NXH.out)).trans NXH.out
          have OW := hid (ownsRow_keep ON.out (w' := wr) (fun j hj => hW.out.block j (ownsRow_lt ON.out j hj)))
          have UW := hid (UN.out.trans (hW.out.mono UN.out.size))
          by_cases hjl : j < L.length
          · obtain ⟨g, capS', hv', cS⟩ := row_at OW.out hjl
            obtain ⟨rfl, _, rfl⟩ := Value.slice.inj hv'
            have hji : (j : Int) < L.length := by omega
            have hgx := hid (List.getElem?_eq_getElem hjl)
            have htk := hid (List.take_succ_eq_append_getElem hjl)
            have eS := bs_toList L[j]
            generalize L[j] = y at cS hgx htk eS
            generalize hls : Op.bytesLess y x = r
            go_wp2_with fail
            cases r
            · go_quiet (fail)
              by_cases hyx : y = x
              · have hd5 : (y == x) = true := by simpa using hyx
                have TK2 := hid (TK.out (by rw [← hyx]; exact List.mem_of_getElem? hgx.out))
                go_wp2_with fail
                go_quiet (fail)
                go_wp2
                go_roundw
                case rel => exact ⟨k + 1, L, by omega, by go_num, hid (ownsRow_keep OW.out (fun _ _ => rfl)), TK2, (by unfold Hid; first | exact below_drewN (below_drewN UW.out _) _ | exact below_drewN UW.out _)⟩
                case measure => simp [intOf]; omega
              · have hd5 : (y == x) = false := by simpa using hyx
                have TM2 := hid (TM.out HAB.out j (by omega) hlt.out (fun u hu => by rw [hgx.out] at hu; rw [← Option.some.inj hu]; exact ⟨by rw [hls]; decide, hyx⟩))
                have hcap := own_cap OW.out
                have hcz2 : ¬ capS - j = 0 := by omega
                have hjc : (j : Int) ≤ capS := by omega
                go_wp2_with fail
                go_quiet (fail)
                go_wp2_with (at_builtin; refine wpList_append_own _ rfl _ _ 70 rfl wr.heap.size 9 i0 (.string ByteArray.empty) 1 16 Tryz.underlying70 HI.out hz0 hz1 hz2 rfl (by decide) _ _ _ rfl (World.ownsRow_nil _ _ _ _) ⟨g, 0, none⟩ j capS ((L.take j).map stV) rfl (by rw [List.length_map, List.length_take]; omega) (row_take (ownsRow_keep OW.out (fun _ _ => rfl)) j) (sts_one _) (by unfold maxLen; omega) (by omega) (Nat.le_refl _) ?_)
                intro v1 w1 hown1 hg1 _
                have U1 := hid (show Below wr.heap.size wr w1 from Below.grown (by first | exact below_drewN (Below.refl _ _) _ | exact Below.refl _ _) hg1 (Nat.le_refl _) (fun j hj => by cases hj))
                have O1 := hid hown1
                obtain ⟨ad1, cap1, rfl⟩ := row_slice hown1
                clear hown1 hg1
                have nx1 := (U1.out.cell (World.block_lt_of_cell? _ _ nx)).trans nx
                go_wp2_with (at_builtin; refine wpList_append_own _ rfl _ _ 70 rfl wr.heap.size 9 i0 (.string ByteArray.empty) 1 16 Tryz.underlying70 HI.out hz0 hz1 hz2 rfl (by decide) _ _ _ rfl (O1.out.alloc _) ⟨w1.heap.size, 0, none⟩ 1 1 [stV x] rfl rfl (one_at _ _ _) (by intro u hu; simp at hu; subst hu; rfl) (by unfold maxLen; omega) (by omega) (by have := U1.out.size; simp only [World.size_alloc]; omega) ?_)
                intro v2 w2 hown2 hg2 _
                have U2 := hid (up_grow U1.out O1.out _ hg2)
                have O2 := hid hown2
                obtain ⟨ad2, cap2, rfl⟩ := row_slice hown2
                have OL := hid (ownsRow_keep OW.out (w' := w2) (fun i hi => U2.out.block i (ownsRow_lt OW.out i hi)))
                clear hown2 hg2
                go_wp2_with (at_builtin; refine wpList_append_own _ rfl _ _ 70 rfl wr.heap.size 9 i0 (.string ByteArray.empty) 1 16 Tryz.underlying70 HI.out hz0 hz1 hz2 rfl (by decide) _ _ _ rfl O2.out ⟨g, j, none⟩ (L.length - j) (capS - j) ((L.drop j).map stV) rfl (by rw [List.length_map, List.length_drop]; omega) (row_drop OL.out j) (sts_one _) (by unfold maxLen; omega) (by omega) U2.out.size ?_)
                intro v3 w3 hown3 hg3 _
                have U3 := hid (grow_below U2.out O2.out hg3)
                have O3 := hid hown3
                obtain ⟨ad3, cap3, rfl⟩ := row_slice hown3
                have U4 := hid (UW.out.trans (U3.out.mono UW.out.size))
                clear hown3 hg3
                go_wp2
                go_roundw
                case rel => exact ⟨k + 1, _, by omega, by go_num, hid (there_row O3.out (by omega) (by omega) (by simp [List.map_take, List.map_drop]) UW.out.size), TM2, U4⟩
                case measure => simp [intOf]; omega
            · go_quiet (fail)
              go_wp2
              go_roundw
              case rel => exact ⟨j + 1, by omega, by go_num, (by
                unfold Hid
                rw [htk.out]
                intro u hu
                rcases List.mem_append.1 hu with hu | hu
                · exact hlt.out u hu
                · rw [List.mem_singleton.1 hu]; exact hls), below_drewN hW.out _⟩
              case measure => simp [intOf]; omega
          · have hjd : decide ((j : Int) < L.length) = false := decide_eq_false (by omega)
            have hjn : ¬ (j : Int) < L.length := by omega
            have TM2 := hid (TM.out HAB.out j hj hlt.out (fun u hu => by rw [List.getElem?_eq_none (by omega)] at hu; cases hu))
            have hcap := own_cap OW.out
            have hjc : (j : Int) ≤ capS := by omega
            rcases own_shape OW.out with ⟨rfl, hL0, rfl⟩ | ⟨g, rfl⟩
            · obtain rfl : L = [] := List.eq_nil_of_length_eq_zero hL0
              obtain rfl : j = 0 := by simpa using hj
              go_wp2_with fail
              go_quiet (fail)
              go_upto_region 16 with fail
              have U1 := hid (below_drewN (Below.refl wr.heap.size wr) nq)
              have nx1 := (U1.out.cell (World.block_lt_of_cell? _ _ nx)).trans nx
              have O1 := hid (World.ownsRow_nil (wr.drewN nq) wr.heap.size 9 1)
              go_wp2_with (at_builtin; refine wpList_append_own _ rfl _ _ 70 rfl wr.heap.size 9 i0 (.string ByteArray.empty) 1 16 Tryz.underlying70 HI.out hz0 hz1 hz2 rfl (by decide) _ _ _ rfl (O1.out.alloc _) ⟨wr.heap.size, 0, none⟩ 1 1 [stV x] rfl rfl (one_at _ _ _) (by intro u hu; simp at hu; subst hu; rfl) (by unfold maxLen; omega) (by omega) (by have := U1.out.size; simp only [World.size_alloc]; omega) ?_)
              intro v2 w2 hown2 hg2 _
              have U2 := hid (up_grow U1.out O1.out _ hg2)
              have O2 := hid hown2
              obtain ⟨ad2, cap2, rfl⟩ := row_slice hown2
              clear hown2 hg2
              go_wp2_with (at_builtin; refine wpList_append_own_none rfl _ _ 70 rfl wr.heap.size 9 i0 1 Tryz.underlying70 HI.out _ _ _ rfl O2.out rfl ?_)
              have U4 := hid (UW.out.trans (U2.out.mono UW.out.size))
              go_wp2
              go_roundw
              case rel => exact ⟨k + 1, [x], by omega, by go_num, hid (row_base O2.out UW.out.size), TM2, U4⟩
              case measure => simp [intOf]; omega
            · by_cases hcz : capS = j
              · subst hcz
                go_wp2_with fail
                go_quiet (fail)
                go_wp2_with (at_builtin; refine wpList_append_own _ rfl _ _ 70 rfl wr.heap.size 9 i0 (.string ByteArray.empty) 1 16 Tryz.underlying70 HI.out hz0 hz1 hz2 rfl (by decide) _ _ _ rfl (World.ownsRow_nil _ _ _ _) ⟨g, 0, none⟩ capS capS ((L.take capS).map stV) rfl (by rw [List.length_map, List.length_take]; omega) (row_take (ownsRow_keep OW.out (fun _ _ => rfl)) capS) (sts_one _) (by unfold maxLen; omega) (by omega) (Nat.le_refl _) ?_)
                intro v1 w1 hown1 hg1 _
                have U1 := hid (show Below wr.heap.size wr w1 from Below.grown (by first | exact below_drewN (Below.refl _ _) _ | exact Below.refl _ _) hg1 (Nat.le_refl _) (fun j hj => by cases hj))
                have O1 := hid hown1
                obtain ⟨ad1, cap1, rfl⟩ := row_slice hown1
                clear hown1 hg1
                have nx1 := (U1.out.cell (World.block_lt_of_cell? _ _ nx)).trans nx
                go_wp2_with (at_builtin; refine wpList_append_own _ rfl _ _ 70 rfl wr.heap.size 9 i0 (.string ByteArray.empty) 1 16 Tryz.underlying70 HI.out hz0 hz1 hz2 rfl (by decide) _ _ _ rfl (O1.out.alloc _) ⟨w1.heap.size, 0, none⟩ 1 1 [stV x] rfl rfl (one_at _ _ _) (by intro u hu; simp at hu; subst hu; rfl) (by unfold maxLen; omega) (by omega) (by have := U1.out.size; simp only [World.size_alloc]; omega) ?_)
                intro v2 w2 hown2 hg2 _
                have U2 := hid (up_grow U1.out O1.out _ hg2)
                have O2 := hid hown2
                obtain ⟨ad2, cap2, rfl⟩ := row_slice hown2
                have OL := hid (ownsRow_keep OW.out (w' := w2) (fun i hi => U2.out.block i (ownsRow_lt OW.out i hi)))
                clear hown2 hg2
                go_wp2_with (at_builtin; refine wpList_append_own _ rfl _ _ 70 rfl wr.heap.size 9 i0 (.string ByteArray.empty) 1 16 Tryz.underlying70 HI.out hz0 hz1 hz2 rfl (by decide) _ _ _ rfl O2.out _ 0 _ [] rfl rfl (fun i u hu => by simp at hu) (fun u hu => by cases hu) (by unfold maxLen; omega) (by omega) U2.out.size ?_)
                intro v3 w3 hown3 hg3 _
                have U3 := hid (grow_below U2.out O2.out hg3)
                have O3 := hid hown3
                obtain ⟨ad3, cap3, rfl⟩ := row_slice hown3
                have U4 := hid (UW.out.trans (U3.out.mono UW.out.size))
                clear hown3 hg3
                go_wp2
                go_roundw
                case rel => exact ⟨k + 1, _, by omega, by go_num, hid (there_row O3.out (by omega) (by omega) (by simp [List.map_take, List.drop_eq_nil_of_le (show L.length ≤ capS by omega)]) UW.out.size), TM2, U4⟩
                case measure => simp [intOf]; omega
              · have hcz2 : ¬ capS - j = 0 := by omega
                go_wp2_with fail
                go_quiet (fail)
                go_wp2_with (at_builtin; refine wpList_append_own _ rfl _ _ 70 rfl wr.heap.size 9 i0 (.string ByteArray.empty) 1 16 Tryz.underlying70 HI.out hz0 hz1 hz2 rfl (by decide) _ _ _ rfl (World.ownsRow_nil _ _ _ _) ⟨g, 0, none⟩ j capS ((L.take j).map stV) rfl (by rw [List.length_map, List.length_take]; omega) (row_take (ownsRow_keep OW.out (fun _ _ => rfl)) j) (sts_one _) (by unfold maxLen; omega) (by omega) (Nat.le_refl _) ?_)
                intro v1 w1 hown1 hg1 _
                have U1 := hid (show Below wr.heap.size wr w1 from Below.grown (by first | exact below_drewN (Below.refl _ _) _ | exact Below.refl _ _) hg1 (Nat.le_refl _) (fun j hj => by cases hj))
                have O1 := hid hown1
                obtain ⟨ad1, cap1, rfl⟩ := row_slice hown1
                clear hown1 hg1
                have nx1 := (U1.out.cell (World.block_lt_of_cell? _ _ nx)).trans nx
                go_wp2_with (at_builtin; refine wpList_append_own _ rfl _ _ 70 rfl wr.heap.size 9 i0 (.string ByteArray.empty) 1 16 Tryz.underlying70 HI.out hz0 hz1 hz2 rfl (by decide) _ _ _ rfl (O1.out.alloc _) ⟨w1.heap.size, 0, none⟩ 1 1 [stV x] rfl rfl (one_at _ _ _) (by intro u hu; simp at hu; subst hu; rfl) (by unfold maxLen; omega) (by omega) (by have := U1.out.size; simp only [World.size_alloc]; omega) ?_)
                intro v2 w2 hown2 hg2 _
                have U2 := hid (up_grow U1.out O1.out _ hg2)
                have O2 := hid hown2
                obtain ⟨ad2, cap2, rfl⟩ := row_slice hown2
                have OL := hid (ownsRow_keep OW.out (w' := w2) (fun i hi => U2.out.block i (ownsRow_lt OW.out i hi)))
                clear hown2 hg2
                go_wp2_with (at_builtin; refine wpList_append_own _ rfl _ _ 70 rfl wr.heap.size 9 i0 (.string ByteArray.empty) 1 16 Tryz.underlying70 HI.out hz0 hz1 hz2 rfl (by decide) _ _ _ rfl O2.out ⟨g, j, none⟩ (L.length - j) (capS - j) ((L.drop j).map stV) rfl (by rw [List.length_map, List.length_drop]; omega) (row_drop OL.out j) (sts_one _) (by unfold maxLen; omega) (by omega) U2.out.size ?_)
                intro v3 w3 hown3 hg3 _
                have U3 := hid (grow_below U2.out O2.out hg3)
                have O3 := hid hown3
                obtain ⟨ad3, cap3, rfl⟩ := row_slice hown3
                have U4 := hid (UW.out.trans (U3.out.mono UW.out.size))
                clear hown3 hg3
                go_wp2
                go_roundw
                case rel => exact ⟨k + 1, _, by omega, by go_num, hid (there_row O3.out (by omega) (by omega) (by simp [List.map_take, List.map_drop]) UW.out.size), TM2, U4⟩
                case measure => simp [intOf]; omega
    · obtain rfl : k = A.length := by omega
      have hO := hid hown.out
      go_wp2
      go_ret
      exact ⟨_, L, rfl, hU.out, hO.out, hth.out⟩
end Go.Proofs.YtaokifbpakbgdaaGreatDoor

/- Package foliokeep: does Count tell how many names of each level there are (book.counted)? -/
namespace Go.Proofs.YtaokifbpakbgdaaGreatDoor
open Go.RowKit
set_option maxRecDepth 20000 in
set_option maxHeartbeats 4000000 in
theorem kcounted_any (w0 w : World) (B a m : Nat) (T : Int) (F G : Nat → Prop) (fv : Value) (A : List (List (El 3))) (h : BkI w0 w B a m T F G fv A A) (hG : Good (n := 1) A) (hV : VarsK w0) :
    Calls Tryz.prog 35 #[ptr B] w fun e w' => e = .returned (.bool true) ∧ Below w.heap.size w w' := by
  obtain ⟨i0, hi0, hz0, hz1, hz2⟩ := info_parts info_str
  have HI := hid hi0
  have H := hid h
  have hA48 := hG.1
  have CC := hid (Count_any 1 _ w _ _ _ A h.2.1 hG (hV.2.1.up h.2.2.2.2.2.2.2))
  have b0 := h.1.at (i := 0) rfl
  obtain ⟨xs0, hown0, _⟩ := h.2.2.1
  obtain ⟨adf, capf, rfl⟩ := row_sl hown0
  clear hi0 h hown0 hG hV
  go_enter Tryz.func35, Tryz.ntmps35
  go_wp2_with fail
  go_at_call 53
  refine CC.out.mono ?_
  rintro e w1 ⟨rfl, u1⟩
  unfold arr4
  clear CC b0
  go_wp2_with fail
  have u2 := Below.alloc (Below.refl w1.heap.size w1) (Nat.le_refl _) (.cells #[.int .i64 (cntA (n := 2) A 0 : Int), .int .i64 (cntA (n := 2) A 1 : Int), .int .i64 (cntA (n := 2) A 2 : Int), .int .i64 (cntA (n := 2) A 3 : Int)] 66)
  have N2 : F4 (w1.alloc (.cells #[.int .i64 (cntA (n := 2) A 0 : Int), .int .i64 (cntA (n := 2) A 1 : Int), .int .i64 (cntA (n := 2) A 2 : Int), .int .i64 (cntA (n := 2) A 3 : Int)] 66)) w1.heap.size (fun i => (cntA (n := 2) A i : Int)) := heap_alloc_new _ _
  generalize w1.alloc (.cells #[.int .i64 (cntA (n := 2) A 0 : Int), .int .i64 (cntA (n := 2) A 1 : Int), .int .i64 (cntA (n := 2) A 2 : Int), .int .i64 (cntA (n := 2) A 3 : Int)] 66) = w2 at u2 N2 ⊢
  have U2 := hid (u1.trans (u2.mono u1.size))
  have HN := hid N2
  clear u1 u2 N2
  go_loopw [4] (fun i wr => ∃ q : Nat, q ≤ 4 ∧ i = .int .i64 q ∧ Hid (Below w2.heap.size w2 wr)) (fun i _ => 4 - (intOf i).toNat)
  case atStart => exact ⟨0, by omega, rfl, Below.refl _ _⟩
  case round =>
    obtain ⟨q, hq, rfl, hL⟩ := hrel
    obtain ⟨wL, rfl⟩ : ∃ wL, wL = wr := ⟨_, rfl⟩
    have UL := hid (U2.out.trans (hL.out.mono U2.out.size))
    by_cases hq4 : q < 4
    · have hq4i : (q : Int) < 4 := by omega
      go_wp2_with fail
      go_loopw [5, 6] (fun o i wr => ∃ k : Nat, k ≤ A.length ∧ i = .int .i64 k ∧ Hid (wr.ownsRow wL.heap.size 9 1 o (seenA (n := 2) q (A.take k) []).length ((seenA (n := 2) q (A.take k) []).map stV)) ∧ Hid (Below wL.heap.size wL wr)) (fun _ i _ => A.length - (intOf i).toNat)
      case atStart => exact ⟨0, Nat.zero_le _, rfl, World.ownsRow_nil _ _ _ _, Below.refl _ _⟩
      case round =>
        obtain ⟨k, hk, rfl, hown, hU⟩ := hrel
        obtain ⟨wK, rfl⟩ : ∃ wK, wK = wr := ⟨_, rfl⟩
        have HB := hid (H.out.up (UL.out.trans (hU.out.mono UL.out.size)))
        have b1 := HB.out.1.at (i := 1) rfl
        by_cases hkl : k < A.length
        · obtain ⟨gg, cap9, sv9, e9, c9, _, _⟩ := HB.out.at (List.getElem?_eq_getElem hkl)
          obtain ⟨rfl, _, rfl⟩ := Value.slice.inj e9
          have cq := c9 q hq4
          have hst := hid (seenA_take (lvl := q) (List.getElem?_eq_getElem hkl))
          have hlen := hid (show (seenA (n := 2) q (A.take k) []).length ≤ 48 from Nat.le_trans seenA_le (by omega))
          have hk2 : (k : Int) < A.length := by omega
          generalize A[k] = l at cq hst
          generalize hS : seenA (n := 2) q (A.take k) [] = S at hown hlen hst
          have ex := bs_toList (nm (n := 2) q l)
          generalize nm (n := 2) q l = x at cq hst ex
          have CQ := hid cq
          have B1 := hid b1
          have O2 := hid hown.out
          obtain ⟨adS, capS, rfl⟩ := row_slice hown.out
          have hl48 := hlen.out
          clear hS e9 c9 hown
          go_wp2_with fail
          go_loopw [7, 8] (fun o j wq => ∃ (i : Nat) (ob : Bool), i ≤ S.length ∧ j = .int .i64 i ∧ o = .bool ob ∧ Hid (ob = (S.take i).contains x) ∧ Hid (Below wK.heap.size wK wq)) (fun _ j _ => S.length - (intOf j).toNat)
          case atStart => exact ⟨0, _, Nat.zero_le _, rfl, rfl, rfl, Below.refl _ _⟩
          case round =>
            obtain ⟨i, ob, hi, rfl, rfl, hob, hV⟩ := hrel
            have b1 := (hV.out.cell (World.block_lt_of_cell? _ _ B1.out)).trans B1.out
            have cq := (hV.out.cell (World.block_lt_of_cell? _ _ CQ.out)).trans CQ.out
            by_cases hil : i < S.length
            · obtain ⟨gS, capS', hv', cS⟩ := row_at (ownsRow_keep O2.out (w' := wr) (fun j hj => hV.out.block j (ownsRow_lt O2.out j hj))) hil
              obtain ⟨rfl, _, rfl⟩ := Value.slice.inj hv'
              have hct := hid (cont_take hil x)
              have eS := bs_toList S[i]
              generalize S[i] = y at cS hct eS
              cases ob
              · generalize hyx : (y == x) = r at hct
                go_wp2_with fail
                cases r
                · go_quiet (fail)
                  go_wp2
                  go_roundw
                  case rel => exact ⟨i + 1, false, by omega, by go_num, rfl, by unfold Hid; rw [hct.out, Bool.or_false]; exact hob.out, below_drewN hV.out _⟩
                  case measure => simp [intOf]; omega
                · go_quiet (fail)
                  go_wp2
                  go_roundw
                  case rel => exact ⟨i + 1, true, by omega, by go_num, rfl, by unfold Hid; rw [hct.out, Bool.or_true], below_drewN hV.out _⟩
                  case measure => simp [intOf]; omega
              · go_wp2_with fail
                go_quiet (fail)
                go_wp2
                go_roundw
                case rel => exact ⟨i + 1, true, by omega, by go_num, rfl, by unfold Hid; rw [hct.out, ← hob.out, Bool.true_or], below_drewN hV.out _⟩
                case measure => simp [intOf]; omega
            · have hob2 := hid (show ob = S.contains x by rw [hob.out, List.take_of_length_le (by omega)])
              have U3 := hid (hU.out.trans (hV.out.mono hU.out.size))
              have O3 := hid (ownsRow_keep O2.out (w' := wr) (fun j hj => hV.out.block j (ownsRow_lt O2.out j hj)))
              clear hob
              cases ob
              · have hst3 := hid (show seenA (n := 2) q (A.take (k + 1)) [] = S ++ [x] by rw [hst.out, if_neg (by rw [← hob2.out]; decide)])
                clear hst hob2
                go_wp2_with (at_builtin; refine wpList_append_own _ rfl _ _ 70 rfl wL.heap.size 9 i0 (.string ByteArray.empty) 1 16 Tryz.underlying70 HI.out hz0 hz1 hz2 rfl (by decide) _ _ _ rfl (O3.out.alloc _) ⟨wr.heap.size, 0, none⟩ 1 1 [stV x] rfl rfl (one_at _ _ _) (by intro u hu; simp at hu; subst hu; rfl) (by have := hlen.out; unfold maxLen; omega) (by have := hlen.out; omega) (by have := U3.out.size; simp only [World.size_alloc]; omega) ?_)
                intro v' w4 hown' hg hne
                have U4 := hid (up_grow U3.out O3.out _ hg)
                have O4 := hid hown'
                clear hown' hg
                go_wp2
                go_roundw
                case rel =>
                  refine ⟨k + 1, by omega, by go_num, ?_, U4⟩
                  unfold Hid
                  rw [hst3.out, List.length_append, List.map_append]
                  exact O4.out
                case measure => simp [intOf]; omega
              · have hst3 := hid (show seenA (n := 2) q (A.take (k + 1)) [] = S by rw [hst.out, if_pos hob2.out.symm])
                clear hst hob2
                go_wp2
                go_roundw
                case rel =>
                  refine ⟨k + 1, by omega, by go_num, ?_, U3⟩
                  unfold Hid
                  rw [hst3.out]
                  exact O3.out
                case measure => simp [intOf]; omega
        · have hall : A.take k = A := List.take_of_length_le (by omega)
          have O := hid hown.out
          rw [hall] at O
          have O' := hid (show wK.ownsRow wL.heap.size 9 1 u5 (cntA (n := 2) A q) ((seenA (n := 2) q A []).map stV) from O.out)
          obtain ⟨adS, capS, rfl⟩ := row_slice O'.out
          have nq := ((HN.out.keep ((hL.out.trans (hU.out.mono hL.out.size)).block _ HN.out.lt)).cell hq4).1
          have UX := hid (hL.out.trans (hU.out.mono hL.out.size))
          clear hown hall
          go_wp2
          go_roundw
          case rel => exact ⟨q + 1, by omega, by go_num, UX⟩
          case measure => simp [intOf]; omega
    · obtain rfl : q = 4 := by omega
      go_wp2
      go_ret
      exact ⟨rfl, UL.out⟩
end Go.Proofs.YtaokifbpakbgdaaGreatDoor

/- RegLoc, where an edge that does not bind may lead on. -/
namespace Go.Proofs.YtaokifbpakbgdaaGreatDoor
open Go
variable {P : Program} {ops : Array Oper} {Q : Exit → Act → World → Prop}
theorem wpAny_inv2 (I : (Nat → Prop) → Act → World → Prop) (hac : ∀ (i : Nat) (o : Oper), ops[i]? = some o → ∀ e ∈ o.after.toList, Region.binds .any e = true → e.on < i)
    (hs : ∀ (D : Nat → Prop) (a : Act) (w : World) (i : Nat) (o : Oper), ops[i]? = some o → ¬ D i → (∀ e ∈ o.after.toList, Region.binds .any e = true → D e.on) → I D a w → wpOp P ops Q i (I (fun j => D j ∨ j = i)) a w)
    (he : ∀ (D : Nat → Prop) (a : Act) (w : World), (∀ j, j < ops.size → D j) → I D a w → Q .normal a w) :
    ∀ (fuel : Nat) (listed : Array Bool) (a : Act) (w : World), listed.size = ops.size → undone ops listed ≤ fuel → I (fun j => listed.getD j false = true) a w → wpAny P .any ops Q fuel listed a w := by
  have hend : ∀ (listed : Array Bool), listed.size = ops.size → Region.ready .any ops listed = [] → ∀ j, j < ops.size → listed.getD j false = true := by
    intro listed hsz hr j
    induction j using Nat.strongRecOn with
    | _ j ih =>
      intro hj
      cases hc : listed.getD j false with
      | true => rfl
      | false =>
        exfalso
        have hm : j ∈ Region.ready .any ops listed := by
          unfold Region.ready
          rw [List.mem_filter]
          refine ⟨List.mem_range.2 hj, ?_⟩
          have h1 : listed.getD j true = false := by
            rw [Array.getD_eq_getD_getElem?] at hc ⊢
            rw [Array.getElem?_eq_getElem (by omega)] at hc ⊢
            exact hc
          rw [h1, Array.getElem?_eq_getElem hj]
          simp only [Bool.not_false, Bool.true_and, Option.map_some, Option.getD_some]
          rw [Array.all_eq_true']
          intro e hem
          by_cases hbd : Region.binds .any e = true
          · have hlt := hac j _ (Array.getElem?_eq_getElem hj) e (Array.mem_toList_iff.2 hem) hbd
            rw [ih e.on hlt (by omega)]
            simp
          · simp [hbd]
        rw [hr] at hm
        cases hm
  intro fuel
  induction fuel with
  | zero =>
    intro listed a w hsz hu hI
    have hz : Region.ready .any ops listed = [] := by
      have h0 : (List.range ops.size).filter (fun i => !listed.getD i true) = [] := List.eq_nil_of_length_eq_zero (by unfold undone at hu; omega)
      apply List.eq_nil_iff_forall_not_mem.2
      intro i hi
      unfold Region.ready at hi
      rw [List.mem_filter, Bool.and_eq_true] at hi
      have : i ∈ (List.range ops.size).filter (fun i => !listed.getD i true) := List.mem_filter.2 ⟨hi.1, hi.2.1⟩
      rw [h0] at this
      cases this
    exact ⟨hz, he _ a w (fun j hj => hend listed hsz hz j hj) hI⟩
  | succ fuel ih =>
    intro listed a w hsz hu hI
    refine ⟨fun hz => he _ a w (fun j hj => hend listed hsz hz j hj) hI, fun i hi => ?_⟩
    unfold Region.ready at hi
    rw [List.mem_filter, Bool.and_eq_true] at hi
    obtain ⟨hir, h1, h2⟩ := hi
    have hil := List.mem_range.1 hir
    rw [Array.getElem?_eq_getElem hil] at h2
    simp only [Option.map_some, Option.getD_some] at h2
    rw [Array.all_eq_true'] at h2
    have hnd : ¬ listed.getD i false = true := by
      rw [Array.getD_eq_getD_getElem?, Array.getElem?_eq_getElem (by omega)] at h1 ⊢
      simp only [Option.getD_some] at h1 ⊢
      intro h
      rw [h] at h1
      cases h1
    refine wpOp_mono (fun a' w' hk => ?_) (hs _ a w i _ (Array.getElem?_eq_getElem hil) hnd (fun e hem hb => ?_) hI)
    · refine ih _ a' w' (by simpa using hsz) ?_ ?_
      · have : undone ops (listed.setIfInBounds i true) < undone ops listed := by
          unfold undone
          refine filter_lt (x := i) (fun y hy => ?_) hir h1 ?_
          · by_cases e : y = i
            · subst e; exact h1
            · rw [Array.getD_eq_getD_getElem?, Array.getElem?_setIfInBounds_ne (by omega)] at hy
              rw [Array.getD_eq_getD_getElem?]
              exact hy
          · rw [Array.getD_eq_getD_getElem?, Array.getElem?_setIfInBounds_self_of_lt (by omega)]
            rfl
        omega
      · rw [listed_set (by omega)]
        exact hk
    · have := h2 e (Array.mem_toList_iff.1 hem)
      rw [hb] at this
      simpa using this
end Go.Proofs.YtaokifbpakbgdaaGreatDoor

/- RegLo2, for a region all of whose operations yield values, with one guard that is met. -/
namespace Go.Proofs.YtaokifbpakbgdaaGreatDoor
open Go
variable {P : Program} {ops : Array Oper} {Q : Exit → Act → World → Prop}
def plainOps3 (l : List Oper) (N gk : Nat) (gb : Bool) : Bool := ((l[gk]?).bind (·.dst)).isSome && (List.range l.length).all (fun i => (l[i]?).all (fun o => o.after.toList.all (fun e => decide (e.on < i) || !Region.binds .any e) && (decide (o.guard = none) || (decide (o.guard = some (gk, gb)) && o.after.toList.any (fun e => decide (e.on = gk) && Region.binds .any e))) && (o.dst.all (fun d => decide (d < N) && (List.range l.length).all (fun j => decide (j = i) || ((l[j]?).all (fun o' => decide (o'.dst ≠ some d))))))))
theorem wp_region_tab3 {id : Nat} {L : List Value} {df : List Deferred} {w : World} {l : List Oper} (N n gk : Nat) (gb : Bool) (tab : List (Option Nat)) (hN : L.length = N) (hn : l.length = n) (hm : P.follows .mixedOrders = true) (hac : plainOps3 l N gk gb = true) (htl : tab.length = N) (htab : tabOk l n tab = true) (S : World → Prop) (VL : List (Value → World → Prop)) (h0 : S w.drew)
    (hg : ∀ v W, vAt VL gk v W → v = .bool gb) (hs : EachOp (OpC P Q { tmps := L.toArray, defers := df } l S VL) 0 l)
    (he : ∀ (vs : Nat → Value) (W : World), S W → (∀ j, j < n → vAt VL j (vs j) W) → Q .normal { tmps := (zipT vs tab L).toArray, defers := df } W) : (Code.region id l.toArray true).wp P Q { tmps := L.toArray, defers := df } w := by
  subst hN
  subst hn
  obtain ⟨a, hea⟩ : ∃ a : Act, a = { tmps := L.toArray, defers := df } := ⟨_, rfl⟩
  have hsz : a.tmps.size = L.length := by rw [hea]; simp
  rw [← hea] at hs ⊢
  unfold plainOps3 at hac
  rw [Bool.and_eq_true] at hac
  obtain ⟨hgk, hac⟩ := hac
  have hall : ∀ (i : Nat) (o : Oper), l[i]? = some o → (∀ e ∈ o.after.toList, Region.binds .any e = true → e.on < i) ∧ (o.guard = none ∨ (o.guard = some (gk, gb) ∧ ∃ e ∈ o.after.toList, e.on = gk ∧ Region.binds .any e = true)) ∧ ∀ d : Tmp, o.dst = some d → d < a.tmps.size ∧ ∀ (j : Nat) (o' : Oper), l[j]? = some o' → o'.dst = some d → j = i := by
    intro i o ho
    have hi := (List.getElem?_eq_some_iff.1 ho).1
    have h1 := List.all_eq_true.1 hac i (List.mem_range.2 hi)
    rw [ho] at h1
    simp only [Option.all_some, Bool.and_eq_true] at h1
    obtain ⟨⟨h2, h3⟩, h4⟩ := h1
    refine ⟨fun e hem hbd => by have h := List.all_eq_true.1 h2 e hem; rw [hbd] at h; simpa using h, ?_, fun d hd => ?_⟩
    · rw [Bool.or_eq_true, decide_eq_true_eq, Bool.and_eq_true, decide_eq_true_eq] at h3
      refine h3.imp (fun h => h) (fun h => ⟨h.1, ?_⟩)
      obtain ⟨e, hem, he'⟩ := List.any_eq_true.1 h.2
      simp only [Bool.and_eq_true, decide_eq_true_eq] at he'
      exact ⟨e, hem, he'⟩
    · rw [hd] at h4
      simp only [Option.all_some, Bool.and_eq_true, decide_eq_true_eq] at h4
      refine ⟨by rw [hsz]; exact h4.1, fun j o' hj hd' => ?_⟩
      have h5 := List.all_eq_true.1 h4.2 j (List.mem_range.2 (List.getElem?_eq_some_iff.1 hj).1)
      rw [hj] at h5
      simp only [Option.all_some, Bool.or_eq_true, decide_eq_true_eq] at h5
      rcases h5 with h5 | h5
      · exact h5
      · exact absurd hd' h5
  refine wp_region_any hm (wpAny_inv2 (ops := l.toArray) (fun D a' W => (∀ (j : Nat) (o : Oper), l[j]? = some o → D j → ∀ e ∈ o.after.toList, Region.binds .any e = true → D e.on) ∧ ∃ vs : Nat → Value, S W ∧ (∀ j, D j → vAt VL j (vs j) W) ∧ Slots l.toArray a D vs a') (fun i o ho => (hall i o (by simpa using ho)).1) ?_ ?_ l.toArray.size _ a _ (by simp) ?_ ?_)
  · rintro D a' W i o ho hnd hdep ⟨hcl, vs, hS, hV, hD1, hD2, hD3, hD4⟩
    have hoi : l[i]? = some o := by simpa using ho
    obtain ⟨g1, g2, g3⟩ := hall i o hoi
    have hcl' : ∀ (j : Nat) (o : Oper), l[j]? = some o → (D j ∨ j = i) → ∀ e ∈ o.after.toList, Region.binds .any e = true → D e.on ∨ e.on = i := by
      intro j oj hj hdj e hem hb
      rcases hdj with hdj | rfl
      · exact Or.inl (hcl j oj hj hdj e hem hb)
      · rw [hoi] at hj
        obtain rfl := Option.some.inj hj
        exact Or.inl (hdep e hem hb)
    have hw : Region.wanted o (yielded l.toArray a'.tmps) = true := by
      unfold Region.wanted
      rcases g2 with g2 | ⟨g2, e, hem, e1, e2⟩
      · rw [g2]
      · rw [g2]
        have hDk : D gk := e1 ▸ hdep e hem e2
        obtain ⟨d, hd⟩ := Option.isSome_iff_exists.1 hgk
        obtain ⟨o', ho', hd'⟩ := Option.bind_eq_some_iff.1 hd
        have hv := hg _ _ (hV gk hDk)
        have hs3 := hD3 gk o' d (by simpa using ho') hd' hDk
        rw [hv] at hs3
        have hdl : d < a'.tmps.size := by rw [hD2]; exact ((hall gk o' ho').2.2 d hd').1
        have hq : a'.tmps[d]? = some (.bool gb) := by
          rw [Array.getElem?_eq_getElem hdl]
          rw [Array.getD_eq_getD_getElem?, Array.getElem?_eq_getElem hdl] at hs3
          exact congrArg some hs3
        have hy : yielded l.toArray a'.tmps gk = some gb := by
          unfold yielded
          rw [show l.toArray[gk]? = some o' by simpa using ho']
          simp only [Option.bind_some, hd', hq]
        simp only [hy]
        exact beq_self_eq_true _
    unfold wpOp
    rw [ho]
    show if Region.wanted o (yielded l.toArray a'.tmps) = true then _ else _
    rw [if_pos hw]
    have hstep := hs.at i o hoi
    rw [Nat.zero_add] at hstep
    have hst := hstep a' W hS (fun t ht => hD4 t (fun j o' hj hd hdj => by
      have hj' : l[j]? = some o' := by simpa using hj
      have h1 := List.all_eq_true.1 ht o' (List.mem_of_getElem? hj')
      rw [hd] at h1
      simp only [ne_eq, not_true_eq_false, decide_false, Bool.false_or] at h1
      obtain ⟨e, hem, he'⟩ := List.any_eq_true.1 h1
      simp only [Bool.and_eq_true, decide_eq_true_eq] at he'
      exact hnd (he'.1 ▸ hcl j o' hj' hdj e hem he'.2))) (fun k hk d hd => by
      obtain ⟨e, hem, he'⟩ := List.any_eq_true.1 hk
      simp only [Bool.and_eq_true, decide_eq_true_eq] at he'
      obtain ⟨rfl, hb⟩ := he'
      cases ho' : l[e.on]? with
      | none => rw [ho'] at hd; cases hd
      | some o' =>
        rw [ho'] at hd
        rw [hD3 e.on o' d (by simpa using ho') hd (hdep e hem hb)]
        exact hV e.on (hdep e hem hb)) (fun a'' W' => ∃ v, a'' = a'.put o.dst v ∧ S W' ∧ (∀ p ∈ VL, ∀ u, p u W → p u W') ∧ vAt VL i v W') (fun v W' h1 h2 h3 => ⟨v, rfl, h1, h2, h3⟩)
    refine Or.inl (Oper.wp_mono (fun a'' W' hk => ?_) hst)
    obtain ⟨v, rfl, k1, k2, k3⟩ := hk
    refine ⟨hcl', fun j => if j = i then v else vs j, k1, fun j hdj => ?_, by rw [put_defers]; exact hD1, by rw [put_size]; exact hD2, fun j oj d hj hd hdj => ?_, fun t ht => ?_⟩
    · by_cases e : j = i
      · simp only [e, if_true]; exact k3
      · simp only [e, if_false]
        have hu := hV j (hdj.resolve_right e)
        unfold vAt at hu ⊢
        rw [List.getD_eq_getElem?_getD] at hu ⊢
        cases hjv : VL[j]? with
        | none => trivial
        | some p =>
          rw [hjv] at hu
          exact k2 p (List.mem_of_getElem? hjv) _ hu
    · by_cases e : j = i
      · subst e
        rw [ho] at hj
        obtain rfl := Option.some.inj hj
        simp only [if_true]
        rw [hd, put_at _ _ _ (by rw [hD2]; exact (g3 d hd).1)]
      · simp only [e, if_false]
        rw [put_ne _ _ _ _ (fun h => e ((g3 d h).2 j oj (by simpa using hj) hd))]
        exact hD3 j oj d hj hd (hdj.resolve_right e)
    · have hti : o.dst ≠ some t := fun h => ht i o ho h (Or.inr rfl)
      rw [put_ne _ _ _ _ hti]
      exact hD4 t (fun j o' hj hd h => ht j o' hj hd (Or.inl h))
  · rintro D a' W hD ⟨_, vs, hS, hV, hD1, hD2, hD3, hD4⟩
    have hDj : ∀ j, j < l.length → D j := fun j hj => hD j (by simpa using hj)
    have ea : a' = { tmps := (zipT vs tab L).toArray, defers := df } := by
      have ht : a'.tmps = (zipT vs tab L).toArray := by
        refine Array.ext (by rw [hD2, hsz]; simp [zipT_len]) (fun t h1 h2 => ?_)
        have htL : t < L.length := by rw [hD2, hsz] at h1; exact h1
        have e1 : a'.tmps.getD t undef = a'.tmps[t] := by rw [Array.getD_eq_getD_getElem?, Array.getElem?_eq_getElem h1]; rfl
        have e2 : (zipT vs tab L).toArray.getD t undef = (zipT vs tab L).toArray[t] := by rw [Array.getD_eq_getD_getElem?, Array.getElem?_eq_getElem h2]; rfl
        rw [← e1, ← e2, show (zipT vs tab L).toArray.getD t undef = ((zipT vs tab L)[t]?).getD undef by simp [Array.getD_eq_getD_getElem?], zipT_at vs tab L t htL (by omega)]
        have hc := List.all_eq_true.1 htab t (List.mem_range.2 (by omega))
        rw [List.getElem?_eq_getElem (show t < tab.length by omega)] at hc ⊢
        cases hq : tab[t]'(by omega) with
        | some j =>
          rw [hq] at hc
          simp only [Bool.and_eq_true, decide_eq_true_eq] at hc
          obtain ⟨hj, hd⟩ := hc
          cases ho' : l[j]? with
          | none => rw [ho'] at hd; cases hd
          | some o' =>
            rw [ho'] at hd
            have hd' : o'.dst = some t := hd
            rw [hD3 j o' t (by simpa using ho') hd' (hDj j hj)]
            rfl
        | none =>
          rw [hq] at hc
          simp only [List.take_length] at hc
          rw [hD4 t (fun j o' hj hd _ => by
            have hj' : l[j]? = some o' := by simpa using hj
            have := List.all_eq_true.1 hc o' (List.mem_of_getElem? hj')
            simp [hd] at this), hea]
          simp [Array.getD_eq_getD_getElem?]
      have hdf : a'.defers = df := by rw [hD1, hea]
      cases a' with
      | mk t1 d1 =>
        simp only at ht hdf
        rw [ht, hdf]
    rw [ea]
    exact he vs W hS (fun j hj => hV j (hDj j hj))
  · unfold undone
    exact Nat.le_trans (List.length_filter_le _ _) (by simp)
  · have hno : ∀ j, ¬ (Array.replicate l.toArray.size false).getD j false = true := fun j h => by
      simp [Array.getD_eq_getD_getElem?, Array.getElem?_replicate] at h
      split at h <;> simp at h
    exact ⟨fun j o hj h => absurd h (hno j), fun _ => undef, h0, fun j h => absurd h (hno j), rfl, rfl, fun j o d hj hd h => absurd h (hno j), fun t _ => rfl⟩
end Go.Proofs.YtaokifbpakbgdaaGreatDoor

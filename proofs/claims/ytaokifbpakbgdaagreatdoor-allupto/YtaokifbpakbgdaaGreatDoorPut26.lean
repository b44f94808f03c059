/-
  Several texts in one; what each one has stands at its head.
-/
import Derived.Test.YtaokifbpakbgdaaGreatDoorPut25
import Derived.Test.YtaokifbpakbgdaaGreatDoorPut17
/- Package foliolaw on archives: all, UpTo, All. -/
namespace Go.Proofs.YtaokifbpakbgdaaGreatDoor
open Go.RowKit

theorem all_any (w : World) : Calls Tryz.prog 55 #[] w fun e w' => ∃ s : By, e = .returned (.string (bs s)) ∧ s.length ≤ 274877906944 ∧ Below w.heap.size w w' := by
  have H := hid (fun T => els_at w T [(524370, [67, 83], [80, 65, 84, 73, 69, 78, 84]), (1048592, [80, 78], []), (1048608, [76, 79], []), (2101760, [73, 83], [])] 2 (fun j => j = w.heap.size) rfl 4)
  go_enter Tryz.func55, Tryz.ntmps55
  go_wp2_with fail
  go_at_call 45
  have hle := hid (show (wrS false 0 3 ([(524370, [67, 83], [80, 65, 84, 73, 69, 78, 84]), (1048592, [80, 78], []), (1048608, [76, 79], []), (2101760, [73, 83], [])].map (mkEl 2))).length ≤ 274877906944 by decide)
  refine (rEncode_any 3 (by omega) _ _ _ _ (H.out _) hle.out).mono ?_
  rintro e w' ⟨u, h⟩
  have U := hid u
  rcases h with ⟨_, rfl⟩ | ⟨_, rfl⟩
  · go_wp2
    go_ret
    exact ⟨_, rfl, by simp, (Below.alloc (Below.refl _ _) (Nat.le_refl _) _).trans (U.out.mono (by simp))⟩
  · clear u
    generalize wrS false 0 3 _ = t at hle ⊢
    go_wp2
    go_ret
    exact ⟨_, rfl, hle.out, (Below.alloc (Below.refl _ _) (Nat.le_refl _) _).trans (U.out.mono (by simp))⟩
/-- Between two steps. -/
def LpL (w : World) (wB fB : Nat) (fO : Obj) (k : Nat) (wr : World) : Prop := ∃ F G v xs lv g, StL w wr F G wB v xs k lv g ∧ ¬ Own2 wB v xs lv fB ∧ wr.heap[fB]? = some fO ∧ (k = 0 ∨ 0 < xs.length)
abbrev fstL (s0 s1 : By) : Obj := .cells #[.int .i64 1, .int .i64 0, .string ⟨#[]⟩, .int .i64 2, .int .i64 0, .string (bs s0), .int .i64 5, .int .i64 0, .string (bs s1)] 34 (0, 0)
theorem StL.up {w0 w w' : World} {F G : Nat → Prop} {wB : Nat} {v : Value} {xs : List Sh} {k k' : Nat} {lv : Value} {g : Nat} (h : StL w0 w F G wB v xs k lv g) (u : Below w.heap.size w w') (hk : k ≤ k') : StL w0 w' F G wB v xs k' lv g := ⟨h.1.up u hk, h.2.1.up u, h.2.2.1, by have := h.2.2.2; omega⟩
theorem LpL.start {w W : World} {fB : Nat} {fO : Obj} (u : Below w.heap.size w W) (hB : W.heap[w.heap.size]? = some (.cells #[.slice none 0 0, .slice none 0 0] 32 (0, 0))) (hf : W.heap[fB]? = some fO) (hne : fB ≠ w.heap.size) : LpL w w.heap.size fB fO 0 W := by
  refine ⟨fun _ => False, fun _ => False, .slice none 0 0, [], .slice none 0 0, 0, ⟨⟨u, ⟨⟨_, hB⟩, World.ownsRow_nil _ _ _ _, id, (fun h => by cases h), (fun j hj => by cases hj)⟩, ⟨List.nodup_nil, (fun j hj => by cases hj), (fun j hj => hj.elim), (fun x hx => by cases hx)⟩, (fun j hj => by rcases hj with e | e | e <;> first | (subst e; exact Nat.le_refl _) | cases e), Nat.le_refl _⟩, ⟨by simp [World.cell?, hB], [], World.ownsRow_nil _ _ _ _, (fun i v hv => by simp at hv), (fun j hj => by cases hj), id, (fun j hj => hj.elim)⟩, (fun j hj => by rcases hj with e | e <;> cases e), Nat.le_refl _⟩, fun h => ?_, hf, .inl rfl⟩
  rcases h with e | e
  · rcases e with e | e | e <;> first | exact hne e | cases e
  · cases e
theorem LpL.up {w wr W : World} {wB fB k : Nat} {fO : Obj} (h : LpL w wB fB fO k wr) (u : Below wr.heap.size wr W) : LpL w wB fB fO k W := by
  obtain ⟨F, G, v, xs, lv, g, h1, h2, h3, h4⟩ := h
  exact ⟨F, G, v, xs, lv, g, h1.up u (Nat.le_refl _), h2, (u.block _ (lt_of_block h3)).trans h3, h4⟩
/-- The variables of the packages lie there. -/
def VarsL (w : World) : Prop := Vars w ∧ NamesV w ∧ LevelsV w ∧ CountsV w
theorem LpL.step {w wr : World} {wB fB k : Nat} {fO : Obj} (h : LpL w wB fB fO k wr) (hV : VarsL w) {kd ar : Int} {s : By} (hok : OkOp (kd, ar, s)) (h1 : k = 0 → kd = 1) (hk : k ≤ 400000000000) :
    Calls Tryz.prog 17 #[ptr wB, opV kd ar s] wr fun e w' => e = .returned (.bool true) ∧ LpL w wB fB fO (k + 1) w' := by
  obtain ⟨F, G, v, xs, lv, g, g1, g2, g3, g4⟩ := h
  refine (lstep_any w wr F G wB v xs k lv g kd ar s g1 hV.1 hV.2.1 hV.2.2.1 hV.2.2.2 hok.1 hok.2.1 hok.2.2 (g4.imp h1 id) hk).mono ?_
  rintro e w' ⟨he, F', G', v', xs', lv', g', q1, q2, q3, q4, q5⟩
  have hlt := lt_of_block g3
  refine ⟨he, F', G', v', xs', lv', g', q1, fun e => ?_, (q4 fB hlt g2).trans g3, .inr q2⟩
  rcases q5 fB e with e | e
  · exact g2 e
  · omega
theorem LpL.whole {w wr : World} {wB fB k : Nat} {fO : Obj} (h : LpL w wB fB fO k wr) (hk : k ≤ 400000000000) :
    Calls Tryz.prog 56 #[ptr wB] wr fun e w' => e = .returned (.bool true) ∧ LpL w wB fB fO k w' := by
  have h0 := h
  obtain ⟨F, G, v, xs, lv, g, g1, _⟩ := h0
  exact (lwhole_any wr G wB lv g g1.2.1 (by have := g1.2.2.2; omega)).mono (fun e w' hh => ⟨hh.1, h.up hh.2⟩)
theorem fstL_at {w : World} {fB k : Nat} {s0 s1 : By} (hs : s0.length ≤ 274877906944) (hs1 : s1.length ≤ 274877906944) (h : w.heap[fB]? = some (fstL s0 s1)) (hk : k < 3) : ∃ kd ar s, (w.cell? ⟨fB, k * 3, none⟩ = some (.int .i64 kd) ∧ w.cell? ⟨fB, k * 3 + 1, none⟩ = some (.int .i64 ar) ∧ w.cell? ⟨fB, k * 3 + 2, none⟩ = some (.string (bs s))) ∧ OkOp (kd, ar, s) ∧ (k = 0 → kd = 1) := by
  rcases (show k = 0 ∨ k = 1 ∨ k = 2 by omega) with rfl | rfl | rfl
  · exact ⟨1, 0, [], by simp [World.cell?, h, bs], ⟨by simp, by simp, by simp⟩, fun _ => rfl⟩
  · exact ⟨2, 0, s0, by simp [World.cell?, h], ⟨by simp, by simp, by simp only; omega⟩, (fun h => by cases h)⟩
  · exact ⟨5, 0, s1, by simp [World.cell?, h], ⟨by simp, by simp, by simp only; omega⟩, (fun h => by cases h)⟩
set_option maxRecDepth 20000 in
set_option maxHeartbeats 8000000 in
theorem UpTo_any (w : World) (v : Value) (l : List Opn) (h : Scr w v l) (hl2 : l.length ≤ 100000000000) (hV : VarsL w) :
    Calls Tryz.prog 19 #[v] w fun e w' => e = .returned (.int .i64 (-1)) ∧ Below w.heap.size w w' := by
  obtain ⟨⟨ad, cap, rfl, hat⟩, hok, hl⟩ := h
  have HA := hid hat
  have HO := hid hok
  have HV := hid hV
  clear hat hok hV
  go_enter Tryz.func19, Tryz.ntmps19
  go_wp2_with fail
  go_at_call 16
  refine (simple_any _).mono ?_
  rintro e w2 ⟨s0, rfl, hs0, u2⟩
  have U2 := hid u2
  clear u2
  go_wp2_with fail
  go_at_call 55
  refine (all_any _).mono ?_
  rintro e w3 ⟨s1, rfl, hs1, u3⟩
  have u3' : Below w.heap.size w w3 := ((Below.alloc (Below.refl _ _) (Nat.le_refl _) _).trans (U2.out.mono (by simp))).trans (u3.mono (by have := U2.out.size; rw [World.size_alloc] at this; omega))
  have hwB : w3.heap[w.heap.size]? = some (.cells #[.slice none 0 0, .slice none 0 0] 32 (0, 0)) := (u3.block _ (by have := U2.out.size; rw [World.size_alloc] at this; omega)).trans ((U2.out.block _ (by simp)).trans (heap_alloc_new _ _))
  have hz3 : w.heap.size + 1 ≤ w3.heap.size := by have := U2.out.size; rw [World.size_alloc] at this; have := u3.size; omega
  have L0 := hid (LpL.start (fB := w3.heap.size) (fO := fstL s0 s1) (Below.alloc u3' u3'.size (fstL s0 s1)) ((Below.heap_alloc _ _ _ (by omega)).trans hwB) (heap_alloc_new _ _) (by omega))
  clear u3 u3' hwB U2
  go_wp2_with fail
  go_loopw [5] (fun i wr => ∃ k : Nat, k ≤ 3 ∧ i = .int .i64 k ∧ Hid (LpL w w.heap.size w3.heap.size (fstL s0 s1) k wr)) (fun i _ => 3 - (intOf i).toNat)
  case atStart => exact ⟨0, Nat.zero_le _, rfl, L0⟩
  case round =>
    obtain ⟨k, hk, rfl, hLp⟩ := hrel
    by_cases hk3 : k < 3
    · obtain ⟨F, G, v, xs, lv, g, q1, q2, q3, q4⟩ := hLp.out
      obtain ⟨kd, ar, s, ⟨g0, g1, g2⟩, hok, hk1⟩ := fstL_at hs0 hs1 q3 hk3
      have HK := hid hok
      have HK1 := hid hk1
      clear q1 q2 q3 q4 hok hk1
      go_wp2_with fail
      go_at_call 17
      refine (hLp.out.step HV.out HK.out HK1.out (by omega)).mono ?_
      rintro e w4 ⟨rfl, hL3⟩
      have HL3 := hid hL3
      clear hL3 g0 g1 g2
      go_wp2
      go_roundw
      case rel => exact ⟨k + 1, by omega, by go_num, HL3⟩
      case measure => simp [intOf]; omega
    · have HL0 : Hid (LpL w w.heap.size w3.heap.size (fstL s0 s1) (3 + 0) wr) := by
        have hk3e : k = 3 := by omega
        rw [hk3e] at hLp
        exact hLp
      clear hLp
      obtain ⟨wA, rfl⟩ : ∃ wA, wA = wr := ⟨_, rfl⟩
      go_wp2_with fail
      go_loopw [7] (fun i wr => ∃ j : Nat, j ≤ l.length ∧ i = .int .i64 j ∧ Hid (LpL w w.heap.size w3.heap.size (fstL s0 s1) (3 + j) wr)) (fun i _ => l.length - (intOf i).toNat)
      case atStart => exact ⟨0, Nat.zero_le _, rfl, HL0⟩
      case round =>
        obtain ⟨j, hj, rfl, hLq⟩ := hrel
        by_cases hjl : j < l.length
        · obtain ⟨a, rfl, hab, o0, o1, o2⟩ := HA.out j l[j] (List.getElem?_eq_getElem hjl)
          have HK := hid (HO.out _ (List.getElem_mem hjl))
          obtain ⟨F, G, v, xs, lv, g, q1, q2, q3, q4⟩ := hLq.out
          have q10 := q1.1.1
          rw [Nat.mul_comm] at o0 o1 o2
          have g0 : wr.cell? (a.add (j * 3)) = some (.int .i64 (l[j]).1) := cell_keep (q10.block _ (by rw [add_block]; exact hab)) o0
          have g1 : wr.cell? ⟨(a.add (j * 3)).block, (a.add (j * 3)).off + 1, none⟩ = some (.int .i64 (l[j]).2.1) := cell_keep (p := ⟨(a.add (j * 3)).block, (a.add (j * 3)).off + 1, none⟩) (q10.block _ (show (a.add (j * 3)).block < _ by rw [add_block]; exact hab)) o1
          have g2 : wr.cell? ⟨(a.add (j * 3)).block, (a.add (j * 3)).off + 2, none⟩ = some (.string (bs (l[j]).2.2)) := cell_keep (p := ⟨(a.add (j * 3)).block, (a.add (j * 3)).off + 2, none⟩) (q10.block _ (show (a.add (j * 3)).block < _ by rw [add_block]; exact hab)) o2
          clear q1 q10 q2 q3 q4 o0 o1 o2
          generalize l[j] = x at g0 g1 g2 HK
          obtain ⟨kd, ar, s⟩ := x
          simp only at g0 g1 g2
          go_wp2_with fail
          go_at_call 17
          refine (hLq.out.step HV.out HK.out (fun h => by omega) (by omega)).mono ?_
          rintro e w4 ⟨rfl, hL4⟩
          have HL4 := hid hL4
          clear hL4 g0 g1 g2
          go_wp2_with fail
          go_at_call 56
          refine (HL4.out.whole (by omega)).mono ?_
          rintro e w5 ⟨rfl, hL5⟩
          have HL5 := hid hL5
          clear hL5
          go_wp2
          go_roundw
          case rel => exact ⟨j + 1, by omega, by go_num, HL5⟩
          case measure => simp [intOf]; omega
        · obtain ⟨F, G, v, xs, lv, g, q1, q2, q3, q4⟩ := hLq.out
          have hx : 0 < xs.length := q4.resolve_left (by omega)
          have hlen : xs.length ≤ 3 + l.length := Nat.le_trans q1.1.2.2.2.2 (by omega)
          obtain ⟨gP, cp, hvP, _⟩ := q1.1.2.1.at hx
          have Q1 := hid q1
          clear q1 q2 q3 q4 hLq
          obtain ⟨wC, rfl⟩ : ∃ wC, wC = wr := ⟨_, rfl⟩
          go_wp2_with fail
          go_loopw [9] (fun i wq => ∃ (q : Nat) (G' : Nat → Prop) (lv' : Value) (g' : Nat), q ≤ xs.length ∧ i = .int .i64 q ∧ Hid (StL w wq F G' w.heap.size v xs (3 + l.length + q) lv' g')) (fun i _ => xs.length - (intOf i).toNat)
          case atStart => exact ⟨0, G, lv, g, Nat.zero_le _, rfl, by unfold Hid; rw [show 3 + l.length + 0 = 3 + l.length by omega]; exact Q1.out.up (Below.refl _ _) (by omega)⟩
          case round =>
            obtain ⟨q, G', lv', g', hq, rfl, hS⟩ := hrel
            subst hvP
            obtain ⟨c0, _⟩ := hS.out.1.2.1.cell
            by_cases hql : q < xs.length
            · obtain ⟨gB, cB, hvB, cq⟩ := hS.out.1.2.1.at hql
              obtain ⟨eB, _, rfl⟩ := Value.slice.inj hvB
              cases eB
              obtain ⟨p1, p2, p3, p4, p5, _⟩ := hS.out.1.2.2.1.2.2.2 _ (List.getElem_mem hql)
              have hFl := hid hS.out.1.2.2.1.2.2.1
              have C1 := hid (counted_any F wr _ _ _ _ _ _ p1 p3 p4 hFl.out p5 p5.short (HV.out.2.1.up hS.out.1.1))
              have HP := hid (And.intro p1 (And.intro p3 (And.intro p4 p5)))
              clear p1 p2 p3 p4 p5
              generalize xs[q] = x at cq C1 HP
              go_wp2_with fail
              go_at_call 18
              refine C1.out.mono ?_
              rintro e w4 ⟨rfl, u4⟩
              have d0 := (u4.cell (World.block_lt_of_cell? _ _ c0)).trans c0
              have dq := (u4.cell (World.block_lt_of_cell? _ _ cq)).trans cq
              have U4 := hid u4
              clear u4 C1 c0 cq
              go_wp2_with fail
              go_region_with (first
                | (go_at_call 55
                   refine (all_any _).mono ?_
                   rintro e w5 ⟨sA, rfl, hsA, u5⟩
                   have U5 := hid (show Below wr.heap.size wr w5 from U4.out.drew.trans (u5.mono U4.out.drew.size))
                   have e0 := (Below.cell u5 (World.block_lt_of_cell? _ _ d0)).trans d0
                   have eq := (Below.cell u5 (World.block_lt_of_cell? _ _ dq)).trans dq
                   have SU := hid (hS.out.up U5.out (Nat.le_refl _))
                   have C5 := hid (lfound_any w5 F G' w.heap.size _ lv' g' _ _ _ _ _ _ sA (HP.out.1.keep (U5.out.block _ HP.out.1.lt)) (HP.out.2.1.up U5.out) (RefA.up HP.out.2.2.1 U5.out) (fun j hj => Nat.lt_of_lt_of_le (hFl.out j hj) U5.out.size) HP.out.2.2.2 (HV.out.2.1.up SU.out.1.1) (HV.out.2.2.1.up SU.out.1.1) (HV.out.2.2.2.up SU.out.1.1) (HV.out.1.up SU.out.1.1) SU.out.own_lt.2 SU.out.2.1 (by have := hS.out.2.2.2; omega))
                   clear u5)
                | (go_at_call 52
                   refine C5.out.mono ?_
                   rintro e w6 hfe
                   obtain ⟨lv6, G6, rfl, f1, _⟩ := found_step hS.out U5.out hfe
                   have F1 := hid f1
                   clear hfe f1))
              all_goals
                go_wp2
                go_roundw
                case rel => exact ⟨q + 1, G6, lv6, g' + 2, by omega, by go_num, F1⟩
                case measure => simp [intOf]; omega
            · have C7 := hid (lwhole_any wr G' w.heap.size lv' g' hS.out.2.1 (by have := hS.out.2.2.2; omega))
              go_wp2_with fail
              go_at_call 56
              refine C7.out.mono ?_
              rintro e w7 ⟨rfl, u7⟩
              have U7 := hid (hS.out.1.1.trans (u7.mono hS.out.1.1.size))
              clear u7 C7
              go_wp2
              go_ret
              exact ⟨rfl, U7.out⟩
theorem All_any (w : World) (v : Value) (l : List Opn) (h : Scr w v l) (hl2 : l.length ≤ 100000000000) (hV : VarsL w) :
    Calls Tryz.prog 5 #[v] w fun e w' => e = .returned (.bool true) ∧ Below w.heap.size w w' := by
  have C := hid (UpTo_any w v l h hl2 hV)
  clear h hV
  go_enter Tryz.func5, Tryz.ntmps5
  go_wp2_with fail
  go_at_call 19
  refine C.out.mono ?_
  rintro e w1 ⟨rfl, u1⟩
  have U1 := hid u1
  clear u1 C
  go_wp2
  go_ret
  exact ⟨rfl, U1.out⟩
end Go.Proofs.YtaokifbpakbgdaaGreatDoor

/- What the frames of All, Told, Filtered, Counts share: the words of the levels and the rows that are counted, from the listed variables; a short script. -/
namespace Go.Proofs.YtaokifbpakbgdaaGreatDoor
open Go.ChangeShapes Go.WideShapes Go.ChangeAt Go.RowKit

theorem g_levels : Tryz.prog.globalNamed "folio/archive.levels" = some 0 := by kernel_rfl
theorem t_levels : (Tryz.prog.globals[0]?).map (·.type) = some 58 := by kernel_rfl
theorem cellsA_levels : Tryz.prog.cellsOf 58 = 4 := by kernel_rfl
theorem g_counts : Tryz.prog.globalNamed "folio/archive.counts" = some 2 := by kernel_rfl
theorem t_counts : (Tryz.prog.globals[2]?).map (·.type) = some 217 := by kernel_rfl
theorem cellsA_counts : Tryz.prog.cellsOf 217 = 3 := by kernel_rfl
theorem levels_trod {W : World} {cs : Array Value} {fuel : Nat} {p : List MemPlace} (hv : W.var? Tryz.prog "folio/archive.levels" = some cs) (hd : DataW.trod (fun _ => ()) Tryz.prog W 0 (fun _ => true) false fuel 58 cs.toList = some (Rows.laid_folio_archive_levels, p)) : LevelsV W := by
  obtain ⟨l⟩ := cs
  have hl : l.length = 4 := by
    obtain ⟨_, _, _, _, hcl, _⟩ := DataW.trod_array Tryz.underlying58 hd
    rw [cellsA_levels] at hcl
    exact hcl
  obtain ⟨c0, c1, c2, c3, rfl⟩ := list4A hl
  obtain ⟨y0, y1, y2, y3, n, hx, f0, f1, f2, f3⟩ := trod_array4 Tryz.underlying58 cellsA_str hd
  obtain ⟨z0, e0, rfl, _⟩ := DataW.trod_string Tryz.underlying9 f0
  obtain ⟨z1, e1, rfl, _⟩ := DataW.trod_string Tryz.underlying9 f1
  obtain ⟨z2, e2, rfl, _⟩ := DataW.trod_string Tryz.underlying9 f2
  obtain ⟨z3, e3, rfl, _⟩ := DataW.trod_string Tryz.underlying9 f3
  obtain ⟨⟨z0⟩⟩ := z0
  obtain ⟨⟨z1⟩⟩ := z1
  obtain ⟨⟨z2⟩⟩ := z2
  obtain ⟨⟨z3⟩⟩ := z3
  simp [Rows.laid_folio_archive_levels] at hx
  obtain ⟨⟨rfl, rfl, rfl, rfl⟩, _⟩ := hx
  simp at e0 e1 e2 e3
  subst e0; subst e1; subst e2; subst e3
  intro i hi
  have h := World.var?_cell g_levels hv i
  rcases (show i = 0 ∨ i = 1 ∨ i = 2 ∨ i = 3 by omega) with rfl | rfl | rfl | rfl <;> simpa [wordL, bs] using h
theorem counts_trod {W : World} {cs : Array Value} {fuel : Nat} {p : List MemPlace} (hv : W.var? Tryz.prog "folio/archive.counts" = some cs) (hd : DataW.trod (fun _ => ()) Tryz.prog W 0 (fun _ => true) false fuel 217 cs.toList = some (Rows.laid_folio_archive_counts, p)) : CountsV W := by
  obtain ⟨l⟩ := cs
  have hl : l.length = 3 := by
    obtain ⟨_, _, _, _, hcl, _⟩ := DataW.trod_array Tryz.underlying217 hd
    rw [cellsA_counts] at hcl
    exact hcl
  obtain ⟨c0, c1, c2, rfl⟩ := list3A hl
  obtain ⟨y0, y1, y2, n, hx, f0, f1, f2⟩ := trod_array3 Tryz.underlying217 cellsA_int hd
  obtain ⟨z0, e0, rfl, _⟩ := DataW.trod_int Tryz.underlying3 f0
  obtain ⟨z1, e1, rfl, _⟩ := DataW.trod_int Tryz.underlying3 f1
  obtain ⟨z2, e2, rfl, _⟩ := DataW.trod_int Tryz.underlying3 f2
  simp [Rows.laid_folio_archive_counts] at hx
  obtain ⟨⟨rfl, rfl, rfl⟩, _⟩ := hx
  simp at e0 e1 e2
  subst e0; subst e1; subst e2
  intro i hi
  have h := World.var?_cell g_counts hv i
  rcases (show i = 0 ∨ i = 1 ∨ i = 2 by omega) with rfl | rfl | rfl <;> simpa [cntT] using h
theorem levelsA_of {W : World} (h : laidMetH Tryz.prog Rows.shelvesRow.laid W) : LevelsV W := by
  rw [MakeChecks.laidMetH_plain _ _ _ (by kernel_rfl)] at h
  obtain ⟨ps, ⟨_, _, _, _, _, _, _, _, _, _, ⟨_, _, _, _, _, _, _, _, _, _, ⟨_, _, _, _, _, _, _, _, _, _, ⟨_, _, _, _, _, _, _, _, _, _, ⟨_, _, _, _, _, _, _, _, _, _, ⟨_, _, _, _, _, _, _, _, _, _, ⟨g, t, cs, fuel, p, q, hg, ht, hv, hd, _, _⟩, _⟩, _⟩, _⟩, _⟩, _⟩, _⟩, _, _⟩ := h
  obtain rfl := Option.some.inj (g_levels.symm.trans hg)
  obtain rfl := Option.some.inj (t_levels.symm.trans ht)
  exact levels_trod hv hd
theorem countsA_of {W : World} (h : laidMetH Tryz.prog Rows.shelvesRow.laid W) : CountsV W := by
  rw [MakeChecks.laidMetH_plain _ _ _ (by kernel_rfl)] at h
  obtain ⟨ps, ⟨_, _, _, _, _, _, _, _, _, _, ⟨_, _, _, _, _, _, _, _, _, _, ⟨_, _, _, _, _, _, _, _, _, _, ⟨_, _, _, _, _, _, _, _, _, _, ⟨_, _, _, _, _, _, _, _, _, _, ⟨_, _, _, _, _, _, _, _, _, _, ⟨_, _, _, _, _, _, _, _, _, _, ⟨_, _, _, _, _, _, _, _, _, _, ⟨g, t, cs, fuel, p, q, hg, ht, hv, hd, _, _⟩, _⟩, _⟩, _⟩, _⟩, _⟩, _⟩, _⟩, _⟩, _, _⟩ := h
  obtain rfl := Option.some.inj (g_counts.symm.trans hg)
  obtain rfl := Option.some.inj (t_counts.symm.trans ht)
  exact counts_trod hv hd
theorem varsL_of {W : World} (h : laidMetH Tryz.prog Rows.shelvesRow.laid W) (hsh : W.ShapedOpen Tryz.prog) : VarsL W := ⟨varsA_of h hsh, namesA_of h, levelsA_of h, countsA_of h⟩
theorem bulkA_one {H : Type} (d : DataW H) : 1 ≤ Rows.uptoBulk d := by
  cases d with
  | lit x => cases x <;> simp [Rows.uptoBulk]
  | _ => simp [Rows.uptoBulk]
theorem bulkA_all {H : Type} : ∀ l : List (DataW H), l.length ≤ Rows.uptoBulkAll l
  | [] => by simp
  | d :: r => by
    have := bulkA_all r
    have := bulkA_one d
    simp only [List.length_cons, Rows.uptoBulkAll]
    omega
set_option maxRecDepth 20000 in
theorem script_short {H : Type} {enc : TypeId × Value → H} {W : World} {fuel n c : Nat} {ad : Option Addr} {d : DataW H} {q : List MemPlace} (h : DataW.trod enc Tryz.prog W 0 (fun _ => true) true fuel 27 [.slice ad n c] = some (d, q)) : n ≤ Rows.uptoBulk d := by
  rcases DataW.trod_slice Tryz.underlying27 h with ⟨hcs, hx⟩ | ⟨a, len, cap, elems, rest, m, rfl, hcs, hx, _, hlc, hcm, hlen, hel, _, _⟩
  · simp only [List.cons.injEq, and_true, Value.slice.injEq] at hcs
    obtain ⟨_, rfl, _⟩ := hcs
    exact Nat.zero_le _
  · simp only [Prod.mk.injEq] at hx
    obtain ⟨rfl, _⟩ := hx
    simp only [List.cons.injEq, and_true, Value.slice.injEq] at hcs
    obtain ⟨_, rfl, _⟩ := hcs
    have := bulkA_all (elems.map (·.1))
    simp only [List.length_map] at this
    simp only [Rows.uptoBulk]
    omega
end Go.Proofs.YtaokifbpakbgdaaGreatDoor

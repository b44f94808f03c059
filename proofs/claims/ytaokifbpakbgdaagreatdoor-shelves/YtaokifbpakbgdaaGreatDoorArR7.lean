/-
  Package folioref on archives: under, Count.
-/
import Derived.Test.YtaokifbpakbgdaaGreatDoorArR6
namespace Go.Proofs.YtaokifbpakbgdaaGreatDoor
open Go.RowKit

/-- Below something of a level, or at all (a level below 0). -/
def selO {n : Nat} (av : Int) (name : By) (o : List (El (n + 1))) : Bool := decide (av < 0) || (nm av.toNat o == name)
def selA {n : Nat} (ab : Int) (name : By) (A : List (List (El (n + 1)))) : List (List (El (n + 1))) := A.filter (selO ab name)
theorem seenA_snoc {n : Nat} (i : Nat) (o : List (El (n + 1))) : ∀ (A : List (List (El (n + 1)))) (s : List By), seenA i (A ++ [o]) s = if (seenA i A s).contains (nm i o) then seenA i A s else seenA i A s ++ [nm i o]
  | [], s => by rw [List.nil_append, seenA, seenA, seenA]
  | p :: A, s => by rw [List.cons_append, seenA, seenA, seenA_snoc i o A]
theorem selA_take {n : Nat} {ab : Int} {name : By} {A : List (List (El (n + 1)))} {k : Nat} (h : k < A.length) : selA ab name (A.take (k + 1)) = if selO ab name A[k] = true then selA ab name (A.take k) ++ [A[k]] else selA ab name (A.take k) := by
  unfold selA
  rw [List.take_succ_eq_append_getElem h, List.filter_append]
  by_cases e : selO ab name A[k] = true
  · rw [if_pos e, List.filter_cons_of_pos e, List.filter_nil]
  · rw [if_neg e, List.filter_cons_of_neg e, List.filter_nil, List.append_nil]
theorem seenA_len {n : Nat} (i : Nat) : ∀ (A : List (List (El (n + 1)))) (s : List By), (seenA i A s).length ≤ s.length + A.length
  | [], s => by rw [seenA]; simp
  | o :: A, s => by
    rw [seenA]
    have := seenA_len i A (if s.contains (nm i o) then s else s ++ [nm i o])
    have h2 : (if s.contains (nm i o) then s else s ++ [nm i o]).length ≤ s.length + 1 := by split <;> simp
    rw [List.length_cons]
    omega
abbrev stV (s : By) : Value := .string (bs s)
theorem row_at {w : World} {base : Nat} {v : Value} {S : List By} (h : w.ownsRow base 9 1 v S.length (S.map stV)) {q : Nat} (hq : q < S.length) : ∃ g cap, v = .slice (some ⟨g, 0, none⟩) S.length cap ∧ w.cell? ⟨g, q, none⟩ = some (.string (bs S[q])) := by
  rcases id h.2 with ⟨_, h1⟩ | ⟨g, cap, cur, rfl, _⟩
  · omega
  · refine ⟨g, cap, rfl, ?_⟩
    rw [h.cellAt q (by omega), List.getElem?_map, List.getElem?_eq_getElem hq]; rfl
theorem row_slice {w : World} {base : Nat} {e : TypeId} {k : Nat} {v : Value} {n : Nat} {xs : List Value} (h : w.ownsRow base e k v n xs) : ∃ ad cap, v = .slice ad n cap := by
  rcases h.2 with ⟨rfl, h1⟩ | ⟨g, cap, cur, rfl, _⟩
  · exact ⟨_, _, by rw [h1]⟩
  · exact ⟨_, _, rfl⟩
theorem cont_take {S : List By} {m : Nat} (h : m < S.length) (x : By) : (S.take (m + 1)).contains x = ((S.take m).contains x || (S[m] == x)) := by
  rw [List.take_succ_eq_append_getElem h, Bool.eq_iff_iff, List.contains_iff_mem, List.mem_append, List.mem_singleton, Bool.or_eq_true, List.contains_iff_mem, beq_iff_eq]
  exact ⟨fun h => h.imp id Eq.symm, fun h => h.imp id Eq.symm⟩
set_option maxRecDepth 20000 in
set_option maxHeartbeats 4000000 in
theorem runder_any (n : Nat) (F : Nat → Prop) (w : World) (b : Nat) (A : List (List (El (n + 1)))) (lvl : Nat) (ab : Int) (name : By) (h : RefA w F n b A) (hl : A.length ≤ 48) (hs : ∀ l ∈ A, l.length ≤ 24) (hlv : lvl < 4) (hab : -1 ≤ ab ∧ ab < 4) :
    Calls Tryz.prog 105 #[ptr b, .int .i64 lvl, .int .i64 ab, .string (bs name)] w fun e w' => e = .returned (.int .i64 (seenA lvl (selA ab name A) []).length) ∧ Below w.heap.size w w' := by
  obtain ⟨v, hb, hr⟩ := h
  obtain ⟨ad, cap, rfl⟩ := hr.slice
  obtain ⟨i0, hi0, hz0, hz1, hz2⟩ := info_parts info_str
  have HI := hid hi0
  have H := hid hr
  have HS := hid hs
  have HB := hid hb
  clear hi0 hr hs hb
  have hb0 := HB.out.cell
  go_enter Tryz.func105, Tryz.ntmps105
  go_wp2_with fail
  clear hb0
  go_loopw [9, 10] (fun o i wr => ∃ k : Nat, k ≤ A.length ∧ i = .int .i64 k ∧ Hid (wr.ownsRow w.heap.size 9 1 o (seenA lvl (selA ab name (A.take k)) []).length ((seenA lvl (selA ab name (A.take k)) []).map stV)) ∧ Hid (Below w.heap.size w wr)) (fun _ i _ => A.length - (intOf i).toNat)
  case atStart => exact ⟨0, Nat.zero_le _, rfl, World.ownsRow_nil _ _ _ _, Below.refl _ _⟩
  case round =>
    obtain ⟨k, hk, rfl, hown, hU⟩ := hrel
    have hb1 := (HB.out.up hU.out).cell
    by_cases hkl : k < A.length
    · have hat := hid (H.out.at (List.getElem?_eq_getElem hkl))
      obtain ⟨a, ad2, cap2, rfl, _, d0, hrd⟩ := hat.out
      have c0 := hU.out.cell (World.block_lt_of_cell? _ _ d0) |>.trans d0
      have hsl := HS.out _ (List.getElem_mem hkl)
      have hst := hid (selA_take (ab := ab) (name := name) hkl)
      have hrd2 := hid hrd
      have hlen := hid (show (seenA lvl (selA ab name (A.take k)) []).length ≤ 48 from Nat.le_trans (seenA_len _ _ _) (by have : (selA ab name (A.take k)).length ≤ _ := List.length_filter_le _ _; rw [List.length_take] at this; simp; omega))
      clear hrd hat d0
      have hsn := hid (seenA_snoc lvl A[k] (selA ab name (A.take k)) [])
      generalize A[k] = l at c0 hrd2 hst hsl hsn
      generalize hT : selA ab name (A.take k) = T at hown hst hlen hsn
      generalize hS : seenA lvl T [] = S at hown hlen hsn
      have hS' := hid hS
      have hst2 := hid (show seenA lvl (selA ab name (A.take (k + 1))) [] = if selO ab name l = true then (if S.contains (nm lvl l) then S else S ++ [nm lvl l]) else S by
        rw [hst.out]
        by_cases e : selO ab name l = true
        · rw [if_pos e, if_pos e, hsn.out]
        · rw [if_neg e, if_neg e, hS])
      clear hS hT hst hsn
      go_wp2_with fail
      go_at_call 100
      refine (rnames_any n F wr _ l (hrd2.out.up hU.out) hsl).mono ?_
      rintro e w2 ⟨g, capg, rfl, _, hN, u2⟩
      have U2 := hid (hU.out.trans (u2.mono hU.out.size))
      have O2 := hid (ownsRow_keep hown.out (w' := w2) (fun j hj => u2.block j (ownsRow_lt hown.out j hj)))
      have N2 := hid hN
      clear u2 hN hb1 c0
      have nx := N2.out lvl hlv
      have hcase : Hid (∃ ob0 : Bool, selO ab name l = !ob0 ∧ ((decide (0 ≤ ab) = false ∧ ob0 = false) ∨ (decide (0 ≤ ab) = true ∧ w2.cell? ⟨g, ab.toNat, none⟩ = some (.string (bs (nm ab.toNat l))) ∧ (nm ab.toNat l == name) = !ob0))) := by
        by_cases h0 : 0 ≤ ab
        · refine ⟨!(nm ab.toNat l == name), ?_, Or.inr ⟨decide_eq_true h0, N2.out ab.toNat (by omega), ?_⟩⟩
          · unfold selO; rw [decide_eq_false (by omega)]; simp
          · simp
        · refine ⟨false, ?_, Or.inl ⟨decide_eq_false h0, rfl⟩⟩
          unfold selO; rw [decide_eq_true (by omega)]; rfl
      obtain ⟨ob0, hsel, hab0⟩ := hcase.out
      have hSel := hid hsel
      have hX := hid (rfl : nm lvl l = nm lvl l)
      have ex := bs_toList (nm lvl l)
      have en := bs_toList name
      obtain ⟨adS, capS, rfl⟩ := row_slice O2.out
      clear hcase hsel hX
      generalize nm lvl l = x at nx hst2 ex
      generalize selO ab name l = sv at hst2 hSel
      have NX := hid nx
      rcases hab0 with ⟨hge, rfl⟩ | ⟨hge, na, hna⟩
      case' inl => go_wp2_with fail
      case' inr =>
        have ea := bs_toList (nm ab.toNat l)
        generalize nm ab.toNat l = xa at na hna ea
        have hge2 : 0 ≤ ab := of_decide_eq_true hge
        cases ob0 <;> go_wp2_with fail
      all_goals
        clear nx
        have hl48 := hlen.out
        go_loopw [12, 13] (fun o q wq => ∃ (m : Nat) (ob : Bool), m ≤ S.length ∧ q = .int .i64 m ∧ o = .bool ob ∧ Hid (ob = ((!sv) || (S.take m).contains x)) ∧ Hid (Below w2.heap.size w2 wq)) (fun _ q _ => S.length - (intOf q).toNat)
        case atStart => exact ⟨0, _, Nat.zero_le _, rfl, rfl, by unfold Hid; rw [hSel.out]; rfl, Below.refl _ _⟩
        case round =>
          obtain ⟨m, ob, hm, rfl, rfl, hob, hV⟩ := hrel
          by_cases hml : m < S.length
          · obtain ⟨gS, capS', hv', cS⟩ := row_at (ownsRow_keep O2.out (w' := wr) (fun j hj => hV.out.block j (ownsRow_lt O2.out j hj))) hml
            obtain ⟨rfl, _, rfl⟩ := Value.slice.inj hv'
            have nx := (hV.out.cell (World.block_lt_of_cell? _ _ NX.out)).trans NX.out
            have hct := hid (cont_take hml x)
            have eS := bs_toList S[m]
            generalize S[m] = y at cS hct eS
            cases ob
            · generalize hyx : (y == x) = r at hct
              go_wp2_with fail
              cases r
              · go_quiet (fail)
                go_wp2
                go_roundw
                case rel => exact ⟨m + 1, false, by omega, by go_num, rfl, by unfold Hid; rw [hct.out, Bool.or_false]; exact hob.out, below_drewN hV.out _⟩
                case measure => simp [intOf]; omega
              · go_quiet (fail)
                go_wp2
                go_roundw
                case rel => exact ⟨m + 1, true, by omega, by go_num, rfl, by unfold Hid; rw [hct.out, Bool.or_true, Bool.or_true], below_drewN hV.out _⟩
                case measure => simp [intOf]; omega
            · go_wp2_with fail
              go_quiet (fail)
              go_wp2
              go_roundw
              case rel => exact ⟨m + 1, true, by omega, by go_num, rfl, by unfold Hid; rw [hct.out, ← Bool.or_assoc, ← hob.out, Bool.true_or], below_drewN hV.out _⟩
              case measure => simp [intOf]; omega
          · have hob2 := hid (show ob = ((!sv) || S.contains x) by rw [hob.out, List.take_of_length_le (by omega)])
            have U3 := hid (U2.out.trans (hV.out.mono U2.out.size))
            have O3 := hid (ownsRow_keep O2.out (w' := wr) (fun j hj => hV.out.block j (ownsRow_lt O2.out j hj)))
            have nx := (hV.out.cell (World.block_lt_of_cell? _ _ NX.out)).trans NX.out
            clear hob
            cases ob
            · have hst3 := hid (show seenA lvl (selA ab name (A.take (k + 1))) [] = S ++ [x] by
                have h1 := hob2.out.symm
                rw [Bool.or_eq_false_iff] at h1
                rw [hst2.out, if_pos (by simpa using h1.1), if_neg (by rw [h1.2]; decide)])
              clear hst2 hob2
              go_wp2_with (at_builtin; refine wpList_append_own _ rfl _ _ 70 rfl w.heap.size 9 i0 (.string ByteArray.empty) 1 16 Tryz.underlying70 HI.out hz0 hz1 hz2 rfl (by decide) _ _ _ rfl (O3.out.alloc _) ⟨wr.heap.size, 0, none⟩ 1 1 [stV x] rfl rfl (one_at _ _ _) (by intro u hu; simp at hu; subst hu; rfl) (by have := hlen.out; unfold maxLen; omega) (by have := hlen.out; omega) (by have := U3.out.size; simp only [World.size_alloc]; omega) ?_)
              intro v' w4 hown' hg hne
              have U4 := hid (up_grow U3.out O3.out _ hg)
              have O4 := hid hown'
              clear hown' hg
              go_wp2
              go_roundw
              case rel =>
                refine ⟨k + 1, by omega, by go_num, ?_, U4⟩
                unfold Hid
                rw [hst3.out, List.length_append, List.map_append]
                exact O4.out
              case measure => simp [intOf]; omega
            · have hst3 := hid (show seenA lvl (selA ab name (A.take (k + 1))) [] = S by
                have h1 := hob2.out.symm
                rw [hst2.out]
                cases sv
                · rfl
                · rw [if_pos rfl, if_pos (by simpa using h1)])
              clear hst2 hob2
              go_wp2
              go_roundw
              case rel =>
                refine ⟨k + 1, by omega, by go_num, ?_, U3⟩
                unfold Hid
                rw [hst3.out]
                exact O3.out
              case measure => simp [intOf]; omega
    · have hall : A.take k = A := List.take_of_length_le (by omega)
      have O := hid hown.out
      rw [hall] at O
      obtain ⟨adS, capS, rfl⟩ := row_slice O.out
      clear hown hall
      go_wp2
      go_ret
      exact ⟨rfl, hU.out⟩
/-- Four numbers. -/
def arr4 (f : Nat → Int) : Value := .agg #[.int .i64 (f 0), .int .i64 (f 1), .int .i64 (f 2), .int .i64 (f 3)]
/-- A variable of four numbers. -/
def F4 (w : World) (b : Nat) (f : Nat → Int) : Prop := w.heap[b]? = some (.cells #[.int .i64 (f 0), .int .i64 (f 1), .int .i64 (f 2), .int .i64 (f 3)] 66 (0, 0))
theorem F4.cell {w : World} {b : Nat} {f : Nat → Int} (h : F4 w b f) {k : Nat} (hk : k < 4) : w.cell? ⟨b, k, none⟩ = some (.int .i64 (f k)) ∧ w.frozen? ⟨b, k, none⟩ = false := by
  unfold F4 at h
  rcases (show k = 0 ∨ k = 1 ∨ k = 2 ∨ k = 3 by omega) with rfl | rfl | rfl | rfl <;> simp [World.cell?, World.frozen?, h]
theorem F4.set {w : World} {b : Nat} {f : Nat → Int} (h : F4 w b f) {k : Nat} (hk : k < 4) (c : Int) : F4 (w.setCell ⟨b, k, none⟩ (.int .i64 c)) b (fun i => if i = k then c else f i) := by
  unfold F4 at h ⊢
  have hlt := lt_of_block h
  have h' : w.heap[b] = .cells #[.int .i64 (f 0), .int .i64 (f 1), .int .i64 (f 2), .int .i64 (f 3)] 66 (0, 0) := by simpa [Array.getElem?_eq_getElem hlt] using h
  show (w.heap.modify b _)[b]? = _
  rw [Array.getElem?_eq_getElem (by simpa using hlt), Array.getElem_modify_self, h']
  rcases (show k = 0 ∨ k = 1 ∨ k = 2 ∨ k = 3 by omega) with rfl | rfl | rfl | rfl <;> rfl
theorem F4.keep {w w' : World} {b : Nat} {f : Nat → Int} (h : F4 w b f) (k : w'.heap[b]? = w.heap[b]?) : F4 w' b f := k.trans h
theorem F4.lt {w : World} {b : Nat} {f : Nat → Int} (h : F4 w b f) : b < w.heap.size := lt_of_block h
theorem F4.congr {w : World} {b : Nat} {f g : Nat → Int} (h : F4 w b f) (e : ∀ i, i < 4 → f i = g i) : F4 w b g := by
  unfold F4 at h ⊢
  rw [← e 0 (by omega), ← e 1 (by omega), ← e 2 (by omega), ← e 3 (by omega)]
  exact h
theorem selA_all {n : Nat} (name : By) (A : List (List (El (n + 1)))) : selA (-1) name A = A := by
  unfold selA
  rw [List.filter_eq_self]
  intro o _
  rfl
theorem cntA_le {n : Nat} (A : List (List (El (n + 1)))) (i : Nat) : cntA A i ≤ A.length := by
  have := seenA_len i A []
  unfold cntA
  simpa using this
/-- The first k of four numbers. -/
def upTo (f : Nat → Int) (k i : Nat) : Int := if i < k then f i else 0
set_option maxRecDepth 20000 in
set_option maxHeartbeats 2000000 in
theorem rCount_any (n : Nat) (F : Nat → Prop) (w : World) (b : Nat) (A : List (List (El (n + 1)))) (h : RefA w F n b A) (hF : ∀ j, F j → j < w.heap.size) (hl : A.length ≤ 48) (hs : ∀ l ∈ A, l.length ≤ 24) :
    Calls Tryz.prog 54 #[ptr b] w fun e w' => e = .returned (arr4 (fun i => (cntA A i : Int))) ∧ Below w.heap.size w w' := by
  have H := hid h
  have HF := hid hF
  have HS := hid hs
  clear h hF hs
  go_enter Tryz.func54, Tryz.ntmps54
  go_wp2_with fail
  go_loopw [4] (fun i wr => ∃ k : Nat, k ≤ 4 ∧ i = .int .i64 k ∧ Hid (F4 wr w.heap.size (fun _ => 0)) ∧ Hid (F4 wr (w.heap.size + 1) (upTo (fun i => (cntA A i : Int)) k)) ∧ Hid (Below w.heap.size w wr)) (fun i _ => 4 - (intOf i).toNat)
  case atStart =>
    refine ⟨0, by omega, rfl, ?_, ?_, Below.alloc (Below.alloc (Below.refl _ _) (Nat.le_refl _) _) (by simp) _⟩
    · exact (Below.heap_alloc _ _ _ (by simp)).trans (heap_alloc_new _ _)
    · have := heap_alloc_new (w.alloc (.cells #[.int .i64 0, .int .i64 0, .int .i64 0, .int .i64 0] 66)) (.cells #[.int .i64 0, .int .i64 0, .int .i64 0, .int .i64 0] 66)
      rw [World.size_alloc] at this
      exact this
  case round =>
    obtain ⟨k, hk, rfl, hR, hO, hU⟩ := hrel
    by_cases hkl : k < 4
    · have hlt := hO.out.lt
      go_wp2_with fail
      go_at_call 105
      refine (runder_any n F wr b A k (-1) [] (H.out.keep (hU.out.block _ H.out.lt) (fun _ h => h) (fun j hj hj2 => hU.out.block j hj2)) hl HS.out hkl (by omega)).mono ?_
      rintro e w2 ⟨rfl, u2⟩
      have hR2 := hid (hR.out.keep (u2.block _ hR.out.lt))
      have hO2 := hid (hO.out.keep (u2.block _ hO.out.lt))
      have U2 := hid (hU.out.trans (u2.mono hU.out.size))
      obtain ⟨c0, f0⟩ := hO2.out.cell hkl
      have hc : (seenA k (selA (-1) [] A) []).length = cntA A k := by rw [selA_all]; rfl
      rw [hc]
      have O3 := hid ((hO2.out.set hkl (cntA A k : Int)).congr (g := upTo (fun i => (cntA A i : Int)) (k + 1)) (fun i _ => by
        unfold upTo
        by_cases e : i = k
        · subst e; rw [if_pos rfl, if_pos (Nat.lt_succ_self _)]
        · rw [if_neg e]
          by_cases e2 : i < k
          · rw [if_pos e2, if_pos (by omega)]
          · rw [if_neg e2, if_neg (by omega)]))
      have R3 := hid (show F4 (w2.setCell ⟨w.heap.size + 1, k, none⟩ (.int .i64 (cntA A k : Int))) w.heap.size (fun _ => 0) from hR2.out.keep (Below.heap_setCell _ _ _ _ (by simp)))
      have U3 := hid (U2.out.setCell (p := ⟨w.heap.size + 1, k, none⟩) (by simp) (.int .i64 (cntA A k : Int)))
      clear u2 hc
      go_wp2
      go_roundw
      case rel => exact ⟨k + 1, by omega, by go_num, R3, O3, U3⟩
      case measure => simp [intOf]; omega
    · obtain rfl : k = 4 := by omega
      have hO4 := hO.out.congr (g := fun i => (cntA A i : Int)) (fun i hi => by unfold upTo; rw [if_pos hi])
      obtain ⟨c0, f0⟩ := hO4.cell (k := 0) (by omega)
      obtain ⟨c1, f1⟩ := hO4.cell (k := 1) (by omega)
      obtain ⟨c2, f2⟩ := hO4.cell (k := 2) (by omega)
      obtain ⟨c3, f3⟩ := hO4.cell (k := 3) (by omega)
      obtain ⟨r0, s0⟩ := hR.out.cell (k := 0) (by omega)
      obtain ⟨r1, s1⟩ := hR.out.cell (k := 1) (by omega)
      obtain ⟨r2, s2⟩ := hR.out.cell (k := 2) (by omega)
      obtain ⟨r3, s3⟩ := hR.out.cell (k := 3) (by omega)
      clear hO4
      go_wp2
      (try simp only [Exit.inBlock, Exit.then])
      refine bodyPost_ret (v := arr4 (fun i => (cntA A i : Int))) (by simp [results, Tryz.results54, go_sem, r0, r1, r2, r3, arr4]) rfl ?_
      exact ⟨rfl, (((hU.out.setCell (Nat.le_refl _) _).setCell (Nat.le_refl _) _).setCell (Nat.le_refl _) _).setCell (Nat.le_refl _) _⟩
end Go.Proofs.YtaokifbpakbgdaaGreatDoor

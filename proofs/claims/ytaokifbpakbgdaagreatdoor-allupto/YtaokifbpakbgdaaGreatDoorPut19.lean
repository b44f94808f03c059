/-
  Several texts in one; what each one has stands at its head.
-/
import Derived.Test.YtaokifbpakbgdaaGreatDoorArB0
import Derived.Shelf.RegionOpen
import Derived.Sort.QuietIn
import Derived.Test.YtaokifbpakbgdaaGreatDoorPut17
import Derived.Test.YtaokifbpakbgdaaGreatDoorPut8
import Derived.Laws.IdiomStrings
/- Package archive: byName, over whatever iterator of pictures; on. -/
namespace Go.Proofs.YtaokifbpakbgdaaGreatDoor
open Go.RowKit Go.Maps Go.Shelf
attribute [local go_sem] Oper.semAt_some

theorem mapsValues_any (w : World) (mb : Option Nat) : Calls Tryz.prog 172 #[.map mb] w fun e w' => e = .returned (.func (.func 226) #[] #[.pointer (some ⟨w.heap.size, 0, none⟩)]) ∧ w' = w.alloc (.cells #[.map mb] 122) := by
  go_enter Tryz.func172, Tryz.ntmps172
  go_wp2
  go_ret
  exact ⟨rfl, rfl⟩
/-- What lies between two rounds. -/
def ByI {n : Nat} {A : List (List (El (n + 2)))} (w : World) (lvl : Nat) (pd : List (El (n + 2)) → Nat × Int) (pre : List (Of A)) (W : World) : Prop :=
  (Boxed W w.heap.size 3 (.int .i64 lvl) ∧ Boxed W (w.heap.size + 1 + 1) 136 (.map (some (w.heap.size + 1))) ∧ ∃ f vs, Grps W (w.heap.size + 3) (w.heap.size + 1) lvl pd pre f vs) ∧ Below w.heap.size w W
theorem ByI.own {n : Nat} {A : List (List (El (n + 2)))} (w : World) (lvl : Nat) (pd : List (El (n + 2)) → Nat × Int) : OwnFrom (w.heap.size + 3) (ByI (A := A) w lvl pd) := by
  intro s W W' row hs hg hr
  obtain ⟨⟨h1, h2, f, vs, h3⟩, h4⟩ := hs
  have hne : ∀ (j : Nat) (o : Obj), W.heap[j]? = some o → o.isCells = true → W'.heap[j]? = some o := fun j o ho hc => by
    rw [hg.block j (Array.getElem?_eq_some_iff.1 ho).1 (fun e => ?_), ho]
    obtain ⟨_, o2, h5, h6⟩ := hr j e.symm
    rw [ho] at h5
    cases h5
    rw [hc] at h6
    cases h6
  have hlow : ∀ j, j < w.heap.size + 3 → j < W.heap.size → W'.heap[j]? = W.heap[j]? := fun j hj hl => hg.block j hl (fun e => by have := (hr j e.symm).1; omega)
  refine ⟨⟨hne _ _ h1 rfl, hne _ _ h2 rfl, f, vs, h3.keep (hlow _ (by omega) h3.1.lt) (fun j o _ => hne j o)⟩, ⟨hg.os.trans h4.os, hg.tape.trans h4.tape, hg.output.trans h4.output, Nat.le_trans h4.size hg.size, fun j hj => (hlow j (by omega) (Nat.lt_of_lt_of_le hj h4.size)).trans (h4.block j hj)⟩⟩
/-- A picture's variable. -/
def Pic2 (W : World) (B d : Nat) (t : Int) : Prop := W.heap[B]? = some (.cells #[.map (some d), .int .i64 t] 131 (0, 0))
theorem Pic2.cells {W : World} {B d : Nat} {t : Int} (h : Pic2 W B d t) : W.cell? ⟨B, 0, none⟩ = some (.map (some d)) ∧ W.cell? ⟨B, 1, none⟩ = some (.int .i64 t) := by
  unfold Pic2 at h
  simp [World.cell?, h]
set_option maxRecDepth 100000 in
set_option maxHeartbeats 4000000 in
theorem byName_any {n : Nat} (A : List (List (El (n + 2)))) (pd : List (El (n + 2)) → Nat × Int) (F : Nat → Prop) (w : World) (gf : Nat) (lb : Array Value) (lvl : Nat) (hlv : lvl < 4) (S : List (Of A) → Prop) (N : Nat) (hN : N ≤ 48)
    (eg : ∀ args w, (callFunc gf args).run Tryz.prog w = .ok (.enter gf args) w)
    (hseq : ∀ W0, Below w.heap.size w W0 → W0.heap.size = w.heap.size + 3 → SeqStopsK Fence.wide 8 Tryz.prog gf lb (encP (A := A) pd) (KeepsBut (w.heap.size + 1) w.heap.size) S (fun _ => True) N W0)
    (hD : ∀ l ∈ A, DMk w F (n + 1) (pd l).1 24 (descG l)) (hs : ∀ l ∈ A, (nm lvl l).length ≤ 64) (hV : NamesV w) :
    Calls Tryz.prog 171 #[.func (.func gf) #[] lb, .int .i64 lvl] w fun e W' => e = .returned (.map (some (w.heap.size + 1))) ∧ Below w.heap.size w W' ∧ ∃ xs f vs, S xs ∧ Grps W' (w.heap.size + 3) (w.heap.size + 1) lvl pd xs f vs := by
  refine (callsIn_wide (n := 9)).1 ?_
  have hmm := @run_makeMap Tryz.prog
  have h1 : 1 ≤ 9 := by omega
  refine callsIn_of_wp_marks Tryz.func171 rfl trivial ?_ rfl
  simp only [Tryz.ntmps171, List.size_toArray, List.length_cons, List.length_nil, Nat.reduceAdd, Nat.reduceSub, Array.replicate_succ, Array.replicate_zero, List.push_toArray, List.append_toArray, List.nil_append, List.cons_append]
  gi_wp2
  have hB0 : Below w.heap.size w (((w.alloc (.cells #[.int .i64 lvl] 3)).alloc (.map #[] 0)).alloc (.cells #[.map (some (w.heap.size + 1))] 136)) := (((Below.refl _ w).alloc (Nat.le_refl _) _).alloc (by simp) _).alloc (by simp; omega) _
  have hsz : (((w.alloc (.cells #[.int .i64 lvl] 3)).alloc (.map #[] 0)).alloc (.cells #[.map (some (w.heap.size + 1))] 136)).heap.size = w.heap.size + 3 := by simp
  have hI0 : ByI (A := A) w lvl pd [] (((w.alloc (.cells #[.int .i64 lvl] 3)).alloc (.map #[] 0)).alloc (.cells #[.map (some (w.heap.size + 1))] 136)) := by
    have hm := MapF.made (w.alloc (.cells #[.int .i64 lvl] 3)) Tryz.prog 9
    rw [World.size_alloc] at hm
    refine ⟨⟨?_, ?_, fun _ => none, fun _ => .slice none 0 0, hm.kept (Below.heap_alloc _ _ _ (by simp)), fun s _ => rfl, fun s hs => absurd rfl hs, fun s t hs _ _ => absurd rfl hs, fun k hk => by cases hk⟩, hB0⟩
    · exact (Below.heap_alloc _ _ _ (by simp; omega)).trans ((Below.heap_alloc _ _ _ (by simp)).trans (heap_alloc_new _ _))
    · have := heap_alloc_new ((w.alloc (.cells #[.int .i64 lvl] 3)).alloc (.map #[] 0)) (.cells #[.map (some (w.heap.size + 1))] 136)
      simp only [World.size_alloc] at this
      exact this
  obtain ⟨W0, hW0⟩ : ∃ W0, ((w.alloc (.cells #[.int .i64 lvl] 3)).alloc (.map #[] 0)).alloc (.cells #[.map (some (w.heap.size + 1))] 136) = W0 := ⟨_, rfl⟩
  rw [hW0] at hB0 hsz hI0 ⊢
  clear hW0
  refine wpIn_rangeFunc_ownH rfl h1 (gf := gf) (lb := lb) rfl trivial eg (hseq W0 hB0 hsz) KeepsBut.trans (KeepsBut.book (by rw [hsz]; omega)) (Below.refl _ _) (fun _ => rfl)
    (ByI w lvl pd) (fun _ _ _ => False) (by rw [hsz]; exact ByI.own w lvl pd) (fun _ _ _ _ _ hs _ _ => hs) hI0
    (fun x a' W => ∃ Bx, w.heap.size + 3 ≤ Bx ∧ Pic2 W Bx (pd x.1).1 (pd x.1).2 ∧ a' = { tmps := #[.func (.func gf) #[] lb, .int .i64 lvl, undef, .pointer (some ⟨w.heap.size, 0, none⟩), .map none, .pointer (some ⟨w.heap.size + 1 + 1, 0, none⟩), .pointer (some ⟨Bx, 0, none⟩), undef, .map (some (w.heap.size + 1)), .func (.func gf) #[] lb, picV (pd x.1).1 (pd x.1).2, undef, undef, undef, undef, undef, undef, undef, undef, undef, undef, undef, undef, undef, undef, undef], defers := [] })
    (fun x a' _ X Y row hs hg hr => by
      obtain ⟨Bx, h1, h2, h3⟩ := hs
      refine ⟨Bx, h1, ?_, h3⟩
      unfold Pic2 at h2 ⊢
      rw [hg.block Bx (Array.getElem?_eq_some_iff.1 h2).1 (fun e => ?_), h2]
      obtain ⟨_, o2, h5, h6⟩ := hr Bx e.symm
      rw [h2] at h5
      cases h5
      cases h6)
    ?assign ?body ?done ?stop
  case assign =>
    rintro l pre x W K ⟨⟨b1, b2, f, vs, hG⟩, hB⟩ hK
    have hsW := hB.size
    gi_wp2
    have ho : ∀ j o, W.heap[j]? = some o → (W.alloc (.cells #[.map (some (pd x.1).1), .int .i64 (pd x.1).2] 131)).heap[j]? = some o := fun j o h => (Below.heap_alloc _ _ _ (Array.getElem?_eq_some_iff.1 h).1).trans h
    have hnb := hG.1.lt
    exact hK _ _ ((KeepsOthers.alloc _ _).from _) ⟨by simp, fun k o _ h _ => ho k o h, fun k hk => Below.heap_alloc _ _ _ (by omega)⟩ ⟨⟨ho _ _ b1, ho _ _ b2, f, vs, hG.keep (Below.heap_alloc _ _ _ hnb) (fun j o _ h _ => ho j o h)⟩, hB.alloc hB.size _⟩ ⟨W.heap.size, by have := (Array.getElem?_eq_some_iff.1 b2).1; omega, heap_alloc_new _ _, rfl⟩
  case body =>
    rintro l pre x a' W hl ⟨r, hr⟩ ⟨⟨b1, b2, f, vs, hG⟩, hB⟩ ⟨Bx, hBx, bX, rfl⟩ hlt
    have c1 := b1.cell
    have c2 := b2.cell
    obtain ⟨c3, c4⟩ := bX.cells
    have c5 := (hV.up hB) lvl hlv
    have hDW := hid ((hD x.1 x.2).up hB)
    have hvv := hid (valG_desc x.1 lvl)
    have hsx := hs x.1 x.2
    have hlv2 : ((lvl : Nat) : Int) < 4 := by omega
    have hmx : Tryz.prog.follows .mixedOrders = true := by kernel_rfl
    gi_wp2
    have hw97 : Fence.wide.fn 97 := trivial
    have cv : ∀ k, CallsIn Fence.wide k Tryz.prog 97 #[.map (some (pd x.1).1), .int .i64 (nameT lvl)] W.drew fun e w' => e = .returned (.string (bs (nm lvl x.1))) ∧ w' = W.drew := fun k => callsIn_wide.2 (by
      have := dvalue_any W.drew F (n + 1) (pd x.1).1 24 (descG x.1) (nameT lvl) (hDW.out.keep rfl (fun _ h => h) (fun _ _ _ => rfl)) (nameT_bd lvl)
      rw [hvv.out] at this
      exact this)
    refine wpIn_mono (Q := fun e a w' => e = Exit.normal ∧ a = { tmps := #[.func (.func gf) #[] lb, .int .i64 lvl, undef, .pointer (some ⟨w.heap.size, 0, none⟩), .map none, .pointer (some ⟨w.heap.size + 1 + 1, 0, none⟩), .pointer (some ⟨Bx, 0, none⟩), .string (bs (nm lvl x.1)), .map (some (w.heap.size + 1)), .func (.func gf) #[] lb, picV (pd x.1).1 (pd x.1).2, .pointer (some ⟨Bx, 0, none⟩), .map (some (pd x.1).1), .int .i64 lvl, .pointer (some ⟨1, lvl, none⟩), .int .i64 (nameT lvl), .string (bs (nm lvl x.1)), undef, undef, undef, undef, undef, undef, undef, undef, undef], defers := [] } ∧ w' = W.drew) ?_ ?_
    · gi_region_with_o (gi_at_call 97; refine (CallsIn.inRound l (cv _)).mono ?_; rintro e w' ⟨rfl, rfl⟩)
      all_goals exact ⟨rfl, rfl, rfl⟩
    rintro e a2 w2 ⟨rfl, rfl, rfl⟩
    clear cv hmx hw97
    have d1 : W.drew.cell? ⟨w.heap.size + 1 + 1, 0, none⟩ = some (.map (some (w.heap.size + 1))) := c2
    have d2 : W.drew.cell? ⟨Bx, 0, none⟩ = some (.map (some (pd x.1).1)) := c3
    have d3 : W.drew.cell? ⟨Bx, 1, none⟩ = some (.int .i64 (pd x.1).2) := c4
    have hGa : Grps W.drew (w.heap.size + 3) (w.heap.size + 1) lvl pd pre f vs := hG.keep rfl (fun _ _ _ h _ => h)
    have hEq : W.drew.heap = W.heap ∧ W.drew.os = W.os ∧ W.drew.tape = W.tape ∧ W.drew.output = W.output := ⟨rfl, rfl, rfl, rfl⟩
    have HEq := hid hEq
    have hBl := (Array.getElem?_eq_some_iff.1 bX).1
    have hzz : W.drew.heap.size = W.heap.size := rfl
    clear hEq c1 c2 c3 c4 c5
    generalize W.drew = Wa at d1 d2 d3 hGa HEq hzz ⊢
    have HZ := hid hzz
    clear hzz
    have hG1 := hid (hGa.keep (W' := Wa.drew) rfl (fun _ _ _ h _ => h))
    have hsW := hB.size
    have hB2 := (Array.getElem?_eq_some_iff.1 b2).1
    obtain ⟨v, v', W2, W3, r1, r2, r3, r4, hG3, hos3, hz3, hlow3, hnc3, hW2⟩ := hG1.out.step x (by omega) hsx (by omega) (show w.heap.size + 3 ≤ Wa.heap.size by have := HZ.out; omega)
    have r2' : (Instr.lookup 136 (.map (some (w.heap.size + 1))) (.string (bs (nm lvl x.1))) false).run Tryz.prog (Wa.alloc (.cells #[.map (some (pd x.1).1), .int .i64 (pd x.1).2] 131)).drew = .ok v (Wa.alloc (.cells #[.map (some (pd x.1).1), .int .i64 (pd x.1).2] 131)).drew := r2
    have r3' : (Builtin.append_ #[144, 144] 144 #[v, .slice (some ⟨Wa.heap.size, 0, none⟩) 1 1]).run Tryz.prog (Wa.alloc (.cells #[.map (some (pd x.1).1), .int .i64 (pd x.1).2] 131)).drew = .ok v' W2 := r3
    have d1' : (Wa.alloc (.cells #[.map (some (pd x.1).1), .int .i64 (pd x.1).2] 131)).cell? ⟨w.heap.size + 1 + 1, 0, none⟩ = some (.map (some (w.heap.size + 1))) := cell_keep (Below.heap_alloc _ _ _ (World.block_lt_of_cell? _ _ d1)) d1
    clear r2 r3
    have G3 := hid hG3
    have O3 := hid hos3
    have L3 := hid hlow3
    have N3 := hid hnc3
    clear hG3 hos3 hlow3 hnc3
    have hmx : Tryz.prog.follows .mixedOrders = true := by kernel_rfl
    gi_wp2
    have d5 : W2.cell? ⟨w.heap.size + 1 + 1, 0, none⟩ = some (.map (some (w.heap.size + 1))) := cell_keep (hW2 (w.heap.size + 1 + 1) (by omega)) d1
    refine wpIn_mono (region_append l Wa W2 W3 (w.heap.size + 1 + 1) (w.heap.size + 1) Bx (pd x.1).1 (pd x.1).2 (bs (nm lvl x.1)) v v' _ _ _ _ _ _ _ _ _ _ _ _ _ _ d1 d2 d3 d1' d5 r1 r2' r3' r4 hmx) ?_
    rintro e a2 w2 ⟨rfl, rfl⟩
    have hEq := HEq.out
    have hh : ∀ j : Nat, Wa.heap[j]? = W.heap[j]? := fun j => by rw [hEq.1]
    have hnc : ∀ (j : Nat) (o : Obj), j ≠ w.heap.size + 1 → W.heap[j]? = some o → o.isCells = false → w2.heap[j]? = some o := fun j o h ho hc => N3.out j o h ((hh j).trans ho) hc
    have hlo : ∀ j : Nat, j < w.heap.size + 3 → j ≠ w.heap.size + 1 → w2.heap[j]? = W.heap[j]? := fun j hj h => (L3.out j hj h).trans (hh j)
    have hzw : W.heap.size ≤ w2.heap.size := by have q1 := HZ.out; have q2 : Wa.heap.size ≤ w2.heap.size := hz3; omega
    refine ⟨⟨hzw, fun k o hk ho hc => hnc k o (by have q3 := hsz; omega) ho hc⟩, ⟨hzw, fun k o hk ho hw => hnc k o hk ho (Obj.not_cells_of_walk hw), fun k hk => hlo k (by omega) (by omega)⟩, ⟨(hlo _ (by omega) (by omega)).trans b1, (hlo _ (by omega) (by omega)).trans b2, G3.out⟩, ?_⟩
    exact ⟨O3.out.1.trans (hEq.2.1.trans hB.os), O3.out.2.1.trans (hEq.2.2.1.trans hB.tape), O3.out.2.2.trans (hEq.2.2.2.trans hB.output), Nat.le_trans hB.size hzw, fun j hj => (hlo j (by omega) (by omega)).trans (hB.block j hj)⟩
  case done =>
    rintro D xs W hD2 hS ⟨⟨b1, b2, f, vs, hG⟩, hB⟩ hK
    have c2 := b2.cell
    have hnb := hG.1.lt
    gi_wp2
    refine ⟨by simp, .inl ⟨_, _, rfl, run_takeDeferred hK, ?_⟩⟩
    have hne : ∀ j : Nat, j ≠ D → (W.putObj D (.deferred none)).heap[j]? = W.heap[j]? := fun j hj => World.putObj_heap_other (fun e => hj e)
    refine ⟨_, results_tmp rfl _ _ _, rfl, hB.trans (belowK_b (w := w) (Nat.le_refl _) W D _ _ (by omega) hK rfl rfl), xs, f, vs, hS, hG.keep (hne _ (by omega)) (fun j o _ h hc => ?_)⟩
    rw [hne j (fun e => ?_), h]
    subst e
    rw [hK] at h
    cases h
    cases hc
  case stop =>
    rintro D c pre W _ _ h _
    exact h.elim
theorem Pics.pd {w : World} {F : Nat → Prop} {n : Nat} {f : Lit → Option Value} {A : List (List (El (n + 2)))} {ps : List (Nat × Int)} (h : Pics w F n f A ps) : ∃ pd : List (El (n + 2)) → Nat × Int, ∀ l ∈ A, pd l ∈ ps ∧ f (keyS (nm 3 l)) = some (picV (pd l).1 (pd l).2) ∧ DMk w F (n + 1) (pd l).1 24 (descG l) := by
  have : ∀ l : List (El (n + 2)), ∃ p : Nat × Int, l ∈ A → p ∈ ps ∧ f (keyS (nm 3 l)) = some (picV p.1 p.2) ∧ DMk w F (n + 1) p.1 24 (descG l) := fun l => by
    by_cases hl : l ∈ A
    · obtain ⟨p, h1, h2, _, h3⟩ := h.find l hl
      exact ⟨p, fun _ => ⟨h1, h2, h3⟩⟩
    · exact ⟨(0, 0), fun h => absurd h hl⟩
  obtain ⟨pd, hpd⟩ := Classical.axiomOfChoice this
  exact ⟨pd, hpd⟩
/-- All that is there on a level. -/
def OnEnd {n : Nat} (w : World) (lvl : Nat) (A : List (List (El (n + 2)))) (ps : List (Nat × Int)) (e : Ending) (W' : World) : Prop := Below w.heap.size w W' ∧
  ∃ (nb B0 : Nat) (pd : List (El (n + 2)) → Nat × Int) (xs : List (Of A)) (f : Lit → Option Value) (vs : By → Value), e = .returned (.map (some nb)) ∧ w.heap.size ≤ nb ∧ nb < B0 ∧ (∀ l ∈ A, pd l ∈ ps) ∧ (xs.map (·.1)).Perm A ∧ Grps W' B0 nb lvl pd xs f vs
set_option maxRecDepth 20000 in
theorem on_any (n : Nat) (F : Nat → Prop) (w : World) (a m lvl : Nat) (T : Int) (A : List (List (El (n + 2)))) (f : Lit → Option Value) (ps : List (Nat × Int)) (h1 : Arc2 w a m T) (hM : MapF w Tryz.prog 9 m A.length f) (hP : Pics w F n f A ps) (hK : ∀ k, (f k).isSome = true ↔ ∃ l ∈ A, k = keyS (nm 3 l)) (hG : Good A) (hlv : lvl < 4) (hV : NamesV w) :
    Calls Tryz.prog 104 #[ptr a, .int .i64 lvl] w (OnEnd w lvl A ps) := by
  obtain ⟨pd, hpd⟩ := hP.pd
  obtain ⟨⟨a0, _⟩, _⟩ := h1.cells
  have u1 : Below w.heap.size w (w.alloc (.cells #[.map (some m)] 122)) := Below.alloc (Below.refl _ _) (Nat.le_refl _) _
  have c1 := byName_any A pd F (w.alloc (.cells #[.map (some m)] 122)) 226 #[.pointer (some ⟨w.heap.size, 0, none⟩)] lvl hlv (fun xs => (xs.map (·.1)).Perm A) A.length hG.1 (enters_of Tryz.func226 (by kernel_rfl) rfl)
    (fun W0 hB0 hsz => fun l J Jx W hW hJ _ hY h0 => by
      have hWz := hW.size
      have hu : Below (w.alloc (.cells #[.map (some m)] 122)).heap.size (w.alloc (.cells #[.map (some m)] 122)) W := hB0.trans (hW.mono hB0.size)
      have hml := hM.lt
      rw [World.size_alloc] at hsz
      exact values1_in Fence.wide 8 trivial rfl (by omega) l w.heap.size m _ _ A f pd J Jx hY W hJ ((hu.cell (by simp)).trans (by simp)) (hM.kept ((hu.block m (by simp; omega)).trans (Below.heap_alloc _ _ _ hml))) hK (fun l hl => (hpd l hl).2.1) hG.2.1 (by rw [World.size_alloc]; omega) (by rw [World.size_alloc]; omega) h0)
    (fun l hl => ((hpd l hl).2.2).up u1) (fun l hl => nm_short (n := n + 1) (hG.2.2 l hl).1 lvl) (hV.up u1)
  have C1 := hid c1
  have HP := hid (fun l hl => (hpd l hl).1)
  have U1 := hid u1
  clear c1 hpd u1 hP hM hK hG hV h1
  go_enter Tryz.func104, Tryz.ntmps104
  go_wp2_with fail
  go_at_call 172
  refine (mapsValues_any w (some m)).mono ?_
  rintro e w1 ⟨rfl, rfl⟩
  go_wp2_with fail
  go_at_call 171
  refine C1.out.mono ?_
  rintro e w2 ⟨rfl, u2, xs, f', vs, hS, hGr⟩
  have U2 := hid (U1.out.trans (u2.mono U1.out.size))
  have HS := hid hS
  rw [World.size_alloc] at hGr
  have HGr := hid hGr
  clear u2 hS hGr C1
  go_wp2
  go_ret
  exact ⟨U2.out, _, _, pd, xs, f', vs, rfl, by omega, by omega, HP.out, HS.out, HGr.out⟩
end Go.Proofs.YtaokifbpakbgdaaGreatDoor

/- Package folioref on archives: under, Count. -/
namespace Go.Proofs.YtaokifbpakbgdaaGreatDoor
open Go.RowKit

/-- Below something of a level, or at all (a level below 0). -/
def selO {n : Nat} (av : Int) (name : By) (o : List (El (n + 1))) : Bool := decide (av < 0) || (nm av.toNat o == name)
def selA {n : Nat} (ab : Int) (name : By) (A : List (List (El (n + 1)))) : List (List (El (n + 1))) := A.filter (selO ab name)
theorem seenA_snoc {n : Nat} (i : Nat) (o : List (El (n + 1))) : ∀ (A : List (List (El (n + 1)))) (s : List By), seenA i (A ++ [o]) s = if (seenA i A s).contains (nm i o) then seenA i A s else seenA i A s ++ [nm i o]
  | [], s => by rw [List.nil_append, seenA, seenA, seenA]
  | p :: A, s => by rw [List.cons_append, seenA, seenA, seenA_snoc i o A]
theorem selA_take {n : Nat} {ab : Int} {name : By} {A : List (List (El (n + 1)))} {k : Nat} (h : k < A.length) : selA ab name (A.take (k + 1)) = if selO ab name A[k] = true then selA ab name (A.take k) ++ [A[k]] else selA ab name (A.take k) := by
  unfold selA
  rw [List.take_succ_eq_append_getElem h, List.filter_append]
  by_cases e : selO ab name A[k] = true
  · rw [if_pos e, List.filter_cons_of_pos e, List.filter_nil]
  · rw [if_neg e, List.filter_cons_of_neg e, List.filter_nil, List.append_nil]
theorem seenA_len {n : Nat} (i : Nat) : ∀ (A : List (List (El (n + 1)))) (s : List By), (seenA i A s).length ≤ s.length + A.length
  | [], s => by rw [seenA]; simp
  | o :: A, s => by
    rw [seenA]
    have := seenA_len i A (if s.contains (nm i o) then s else s ++ [nm i o])
    have h2 : (if s.contains (nm i o) then s else s ++ [nm i o]).length ≤ s.length + 1 := by split <;> simp
    rw [List.length_cons]
    omega
abbrev stV (s : By) : Value := .string (bs s)
theorem row_at {w : World} {base : Nat} {v : Value} {S : List By} (h : w.ownsRow base 9 1 v S.length (S.map stV)) {q : Nat} (hq : q < S.length) : ∃ g cap, v = .slice (some ⟨g, 0, none⟩) S.length cap ∧ w.cell? ⟨g, q, none⟩ = some (.string (bs S[q])) := by
  rcases id h.2 with ⟨_, h1⟩ | ⟨g, cap, cur, rfl, _⟩
  · omega
  · refine ⟨g, cap, rfl, ?_⟩
    rw [h.cellAt q (by omega), List.getElem?_map, List.getElem?_eq_getElem hq]; rfl
theorem row_slice {w : World} {base : Nat} {e : TypeId} {k : Nat} {v : Value} {n : Nat} {xs : List Value} (h : w.ownsRow base e k v n xs) : ∃ ad cap, v = .slice ad n cap := by
  rcases h.2 with ⟨rfl, h1⟩ | ⟨g, cap, cur, rfl, _⟩
  · exact ⟨_, _, by rw [h1]⟩
  · exact ⟨_, _, rfl⟩
theorem cont_take {S : List By} {m : Nat} (h : m < S.length) (x : By) : (S.take (m + 1)).contains x = ((S.take m).contains x || (S[m] == x)) := by
  rw [List.take_succ_eq_append_getElem h, Bool.eq_iff_iff, List.contains_iff_mem, List.mem_append, List.mem_singleton, Bool.or_eq_true, List.contains_iff_mem, beq_iff_eq]
  exact ⟨fun h => h.imp id Eq.symm, fun h => h.imp id Eq.symm⟩
set_option maxRecDepth 20000 in
set_option maxHeartbeats 4000000 in
theorem runder_any (n : Nat) (F : Nat → Prop) (w : World) (b : Nat) (A : List (List (El (n + 1)))) (lvl : Nat) (ab : Int) (name : By) (h : RefA w F n b A) (hl : A.length ≤ 48) (hs : ∀ l ∈ A, l.length ≤ 24) (hlv : lvl < 4) (hab : -1 ≤ ab ∧ ab < 4) :
    Calls Tryz.prog 105 #[ptr b, .int .i64 lvl, .int .i64 ab, .string (bs name)] w fun e w' => e = .returned (.int .i64 (seenA lvl (selA ab name A) []).length) ∧ Below w.heap.size w w' := by
  obtain ⟨v, hb, hr⟩ := h
  obtain ⟨ad, cap, rfl⟩ := hr.slice
  obtain ⟨i0, hi0, hz0, hz1, hz2⟩ := info_parts info_str
  have HI := hid hi0
  have H := hid hr
  have HS := hid hs
  have HB := hid hb
  clear hi0 hr hs hb
  have hb0 := HB.out.cell
  go_enter Tryz.func105, Tryz.ntmps105
  go_wp2_with fail
  clear hb0
  go_loopw [9, 10] (fun o i wr => ∃ k : Nat, k ≤ A.length ∧ i = .int .i64 k ∧ Hid (wr.ownsRow w.heap.size 9 1 o (seenA lvl (selA ab name (A.take k)) []).length ((seenA lvl (selA ab name (A.take k)) []).map stV)) ∧ Hid (Below w.heap.size w wr)) (fun _ i _ => A.length - (intOf i).toNat)
  case atStart => exact ⟨0, Nat.zero_le _, rfl, World.ownsRow_nil _ _ _ _, Below.refl _ _⟩
  case round =>
    obtain ⟨k, hk, rfl, hown, hU⟩ := hrel
    have hb1 := (HB.out.up hU.out).cell
    by_cases hkl : k < A.length
    · have hat := hid (H.out.at (List.getElem?_eq_getElem hkl))
      obtain ⟨a, ad2, cap2, rfl, _, d0, hrd⟩ := hat.out
      have c0 := hU.out.cell (World.block_lt_of_cell? _ _ d0) |>.trans d0
      have hsl := HS.out _ (List.getElem_mem hkl)
      have hst := hid (selA_take (ab := ab) (name := name) hkl)
      have hrd2 := hid hrd
      have hlen := hid (show (seenA lvl (selA ab name (A.take k)) []).length ≤ 48 from Nat.le_trans (seenA_len _ _ _) (by have : (selA ab name (A.take k)).length ≤ _ := List.length_filter_le _ _; rw [List.length_take] at this; simp; omega))
      clear hrd hat d0
      have hsn := hid (seenA_snoc lvl A[k] (selA ab name (A.take k)) [])
      generalize A[k] = l at c0 hrd2 hst hsl hsn
      generalize hT : selA ab name (A.take k) = T at hown hst hlen hsn
      generalize hS : seenA lvl T [] = S at hown hlen hsn
      have hS' := hid hS
      have hst2 := hid (show seenA lvl (selA ab name (A.take (k + 1))) [] = if selO ab name l = true then (if S.contains (nm lvl l) then S else S ++ [nm lvl l]) else S by
        rw [hst.out]
        by_cases e : selO ab name l = true
        · rw [if_pos e, if_pos e, hsn.out]
        · rw [if_neg e, if_neg e, hS])
      clear hS hT hst hsn
      go_wp2_with fail
      go_at_call 100
      refine (rnames_any n F wr _ l (hrd2.out.up hU.out) hsl).mono ?_
      rintro e w2 ⟨g, capg, rfl, _, hN, u2⟩
      have U2 := hid (hU.out.trans (u2.mono hU.out.size))
      have O2 := hid (ownsRow_keep hown.out (w' := w2) (fun j hj => u2.block j (ownsRow_lt hown.out j hj)))
      have N2 := hid hN
      clear u2 hN hb1 c0
      have nx := N2.out lvl hlv
      have hcase : Hid (∃ ob0 : Bool, selO ab name l = !ob0 ∧ ((decide (0 ≤ ab) = false ∧ ob0 = false) ∨ (decide (0 ≤ ab) = true ∧ w2.cell? ⟨g, ab.toNat, none⟩ = some (.string (bs (nm ab.toNat l))) ∧ (nm ab.toNat l == name) = !ob0))) := by
        by_cases h0 : 0 ≤ ab
        · refine ⟨!(nm ab.toNat l == name), ?_, Or.inr ⟨decide_eq_true h0, N2.out ab.toNat (by omega), ?_⟩⟩
          · unfold selO; rw [decide_eq_false (by omega)]; simp
          · simp
        · refine ⟨false, ?_, Or.inl ⟨decide_eq_false h0, rfl⟩⟩
          unfold selO; rw [decide_eq_true (by omega)]; rfl
      obtain ⟨ob0, hsel, hab0⟩ := hcase.out
      have hSel := hid hsel
      have hX := hid (rfl : nm lvl l = nm lvl l)
      have ex := bs_toList (nm lvl l)
      have en := bs_toList name
      obtain ⟨adS, capS, rfl⟩ := row_slice O2.out
      clear hcase hsel hX
      generalize nm lvl l = x at nx hst2 ex
      generalize selO ab name l = sv at hst2 hSel
      have NX := hid nx
      rcases hab0 with ⟨hge, rfl⟩ | ⟨hge, na, hna⟩
      case' inl => go_wp2_with fail
      case' inr =>
        have ea := bs_toList (nm ab.toNat l)
        generalize nm ab.toNat l = xa at na hna ea
        have hge2 : 0 ≤ ab := of_decide_eq_true hge
        cases ob0 <;> go_wp2_with fail
      all_goals
        clear nx
        have hl48 := hlen.out
        go_loopw [12, 13] (fun o q wq => ∃ (m : Nat) (ob : Bool), m ≤ S.length ∧ q = .int .i64 m ∧ o = .bool ob ∧ Hid (ob = ((!sv) || (S.take m).contains x)) ∧ Hid (Below w2.heap.size w2 wq)) (fun _ q _ => S.length - (intOf q).toNat)
        case atStart => exact ⟨0, _, Nat.zero_le _, rfl, rfl, by unfold Hid; rw [hSel.out]; rfl, Below.refl _ _⟩
        case round =>
          obtain ⟨m, ob, hm, rfl, rfl, hob, hV⟩ := hrel
          by_cases hml : m < S.length
          · obtain ⟨gS, capS', hv', cS⟩ := row_at (ownsRow_keep O2.out (w' := wr) (fun j hj => hV.out.block j (ownsRow_lt O2.out j hj))) hml
            obtain ⟨rfl, _, rfl⟩ := Value.slice.inj hv'
            have nx := (hV.out.cell (World.block_lt_of_cell? _ _ NX.out)).trans NX.out
            have hct := hid (cont_take hml x)
            have eS := bs_toList S[m]
            generalize S[m] = y at cS hct eS
            cases ob
            · generalize hyx : (y == x) = r at hct
              go_wp2_with fail
              cases r
              · go_quiet (fail)
                go_wp2
                go_roundw
                case rel => exact ⟨m + 1, false, by omega, by go_num, rfl, by unfold Hid; rw [hct.out, Bool.or_false]; exact hob.out, below_drewN hV.out _⟩
                case measure => simp [intOf]; omega
              · go_quiet (fail)
                go_wp2
                go_roundw
                case rel => exact ⟨m + 1, true, by omega, by go_num, rfl, by unfold Hid; rw [hct.out, Bool.or_true, Bool.or_true], below_drewN hV.out _⟩
                case measure => simp [intOf]; omega
            · go_wp2_with fail
              go_quiet (fail)
              go_wp2
              go_roundw
              case rel => exact ⟨m + 1, true, by omega, by go_num, rfl, by unfold Hid; rw [hct.out, ← Bool.or_assoc, ← hob.out, Bool.true_or], below_drewN hV.out _⟩
              case measure => simp [intOf]; omega
          · have hob2 := hid (show ob = ((!sv) || S.contains x) by rw [hob.out, List.take_of_length_le (by omega)])
            have U3 := hid (U2.out.trans (hV.out.mono U2.out.size))
            have O3 := hid (ownsRow_keep O2.out (w' := wr) (fun j hj => hV.out.block j (ownsRow_lt O2.out j hj)))
            have nx := (hV.out.cell (World.block_lt_of_cell? _ _ NX.out)).trans NX.out
            clear hob
            cases ob
            · have hst3 := hid (show seenA lvl (selA ab name (A.take (k + 1))) [] = S ++ [x] by
                have h1 := hob2.out.symm
                rw [Bool.or_eq_false_iff] at h1
                rw [hst2.out, if_pos (by simpa using h1.1), if_neg (by rw [h1.2]; decide)])
              clear hst2 hob2
              go_wp2_with (at_builtin; refine wpList_append_own _ rfl _ _ 70 rfl w.heap.size 9 i0 (.string ByteArray.empty) 1 16 Tryz.underlying70 HI.out hz0 hz1 hz2 rfl (by decide) _ _ _ rfl (O3.out.alloc _) ⟨wr.heap.size, 0, none⟩ 1 1 [stV x] rfl rfl (one_at _ _ _) (by intro u hu; simp at hu; subst hu; rfl) (by have := hlen.out; unfold maxLen; omega) (by have := hlen.out; omega) (by have := U3.out.size; simp only [World.size_alloc]; omega) ?_)
              intro v' w4 hown' hg hne
              have U4 := hid (up_grow U3.out O3.out _ hg)
              have O4 := hid hown'
              clear hown' hg
              go_wp2
              go_roundw
              case rel =>
                refine ⟨k + 1, by omega, by go_num, ?_, U4⟩
                unfold Hid
                rw [hst3.out, List.length_append, List.map_append]
                exact O4.out
              case measure => simp [intOf]; omega
            · have hst3 := hid (show seenA lvl (selA ab name (A.take (k + 1))) [] = S by
                have h1 := hob2.out.symm
                rw [hst2.out]
                cases sv
                · rfl
                · rw [if_pos rfl, if_pos (by simpa using h1)])
              clear hst2 hob2
              go_wp2
              go_roundw
              case rel =>
                refine ⟨k + 1, by omega, by go_num, ?_, U3⟩
                unfold Hid
                rw [hst3.out]
                exact O3.out
              case measure => simp [intOf]; omega
    · have hall : A.take k = A := List.take_of_length_le (by omega)
      have O := hid hown.out
      rw [hall] at O
      obtain ⟨adS, capS, rfl⟩ := row_slice O.out
      clear hown hall
      go_wp2
      go_ret
      exact ⟨rfl, hU.out⟩
/-- Four numbers. -/
def arr4 (f : Nat → Int) : Value := .agg #[.int .i64 (f 0), .int .i64 (f 1), .int .i64 (f 2), .int .i64 (f 3)]
/-- A variable of four numbers. -/
def F4 (w : World) (b : Nat) (f : Nat → Int) : Prop := w.heap[b]? = some (.cells #[.int .i64 (f 0), .int .i64 (f 1), .int .i64 (f 2), .int .i64 (f 3)] 66 (0, 0))
theorem F4.cell {w : World} {b : Nat} {f : Nat → Int} (h : F4 w b f) {k : Nat} (hk : k < 4) : w.cell? ⟨b, k, none⟩ = some (.int .i64 (f k)) ∧ w.frozen? ⟨b, k, none⟩ = false := by
  unfold F4 at h
  rcases (show k = 0 ∨ k = 1 ∨ k = 2 ∨ k = 3 by omega) with rfl | rfl | rfl | rfl <;> simp [World.cell?, World.frozen?, h]
theorem F4.set {w : World} {b : Nat} {f : Nat → Int} (h : F4 w b f) {k : Nat} (hk : k < 4) (c : Int) : F4 (w.setCell ⟨b, k, none⟩ (.int .i64 c)) b (fun i => if i = k then c else f i) := by
  unfold F4 at h ⊢
  have hlt := lt_of_block h
  have h' : w.heap[b] = .cells #[.int .i64 (f 0), .int .i64 (f 1), .int .i64 (f 2), .int .i64 (f 3)] 66 (0, 0) := by simpa [Array.getElem?_eq_getElem hlt] using h
  show (w.heap.modify b _)[b]? = _
  rw [Array.getElem?_eq_getElem (by simpa using hlt), Array.getElem_modify_self, h']
  rcases (show k = 0 ∨ k = 1 ∨ k = 2 ∨ k = 3 by omega) with rfl | rfl | rfl | rfl <;> rfl
theorem F4.keep {w w' : World} {b : Nat} {f : Nat → Int} (h : F4 w b f) (k : w'.heap[b]? = w.heap[b]?) : F4 w' b f := k.trans h
theorem F4.lt {w : World} {b : Nat} {f : Nat → Int} (h : F4 w b f) : b < w.heap.size := lt_of_block h
theorem F4.congr {w : World} {b : Nat} {f g : Nat → Int} (h : F4 w b f) (e : ∀ i, i < 4 → f i = g i) : F4 w b g := by
  unfold F4 at h ⊢
  rw [← e 0 (by omega), ← e 1 (by omega), ← e 2 (by omega), ← e 3 (by omega)]
  exact h
theorem selA_all {n : Nat} (name : By) (A : List (List (El (n + 1)))) : selA (-1) name A = A := by
  unfold selA
  rw [List.filter_eq_self]
  intro o _
  rfl
theorem cntA_le {n : Nat} (A : List (List (El (n + 1)))) (i : Nat) : cntA A i ≤ A.length := by
  have := seenA_len i A []
  unfold cntA
  simpa using this
/-- The first k of four numbers. -/
def upTo (f : Nat → Int) (k i : Nat) : Int := if i < k then f i else 0
set_option maxRecDepth 20000 in
set_option maxHeartbeats 2000000 in
theorem rCount_any (n : Nat) (F : Nat → Prop) (w : World) (b : Nat) (A : List (List (El (n + 1)))) (h : RefA w F n b A) (hF : ∀ j, F j → j < w.heap.size) (hl : A.length ≤ 48) (hs : ∀ l ∈ A, l.length ≤ 24) :
    Calls Tryz.prog 54 #[ptr b] w fun e w' => e = .returned (arr4 (fun i => (cntA A i : Int))) ∧ Below w.heap.size w w' := by
  have H := hid h
  have HF := hid hF
  have HS := hid hs
  clear h hF hs
  go_enter Tryz.func54, Tryz.ntmps54
  go_wp2_with fail
  go_loopw [4] (fun i wr => ∃ k : Nat, k ≤ 4 ∧ i = .int .i64 k ∧ Hid (F4 wr w.heap.size (fun _ => 0)) ∧ Hid (F4 wr (w.heap.size + 1) (upTo (fun i => (cntA A i : Int)) k)) ∧ Hid (Below w.heap.size w wr)) (fun i _ => 4 - (intOf i).toNat)
  case atStart =>
    refine ⟨0, by omega, rfl, ?_, ?_, Below.alloc (Below.alloc (Below.refl _ _) (Nat.le_refl _) _) (by simp) _⟩
    · exact (Below.heap_alloc _ _ _ (by simp)).trans (heap_alloc_new _ _)
    · have := heap_alloc_new (w.alloc (.cells #[.int .i64 0, .int .i64 0, .int .i64 0, .int .i64 0] 66)) (.cells #[.int .i64 0, .int .i64 0, .int .i64 0, .int .i64 0] 66)
      rw [World.size_alloc] at this
      exact this
  case round =>
    obtain ⟨k, hk, rfl, hR, hO, hU⟩ := hrel
    by_cases hkl : k < 4
    · have hlt := hO.out.lt
      go_wp2_with fail
      go_at_call 105
      refine (runder_any n F wr b A k (-1) [] (H.out.keep (hU.out.block _ H.out.lt) (fun _ h => h) (fun j hj hj2 => hU.out.block j hj2)) hl HS.out hkl (by omega)).mono ?_
      rintro e w2 ⟨rfl, u2⟩
      have hR2 := hid (hR.out.keep (u2.block _ hR.out.lt))
      have hO2 := hid (hO.out.keep (u2.block _ hO.out.lt))
      have U2 := hid (hU.out.trans (u2.mono hU.out.size))
      obtain ⟨c0, f0⟩ := hO2.out.cell hkl
      have hc : (seenA k (selA (-1) [] A) []).length = cntA A k := by rw [selA_all]; rfl
      rw [hc]
      have O3 := hid ((hO2.out.set hkl (cntA A k : Int)).congr (g := upTo (fun i => (cntA A i : Int)) (k + 1)) (fun i _ => by
        unfold upTo
        by_cases e : i = k
        · subst e; rw [if_pos rfl, if_pos (Nat.lt_succ_self _)]
        · rw [if_neg e]
          by_cases e2 : i < k
          · rw [if_pos e2, if_pos (by omega)]
          · rw [if_neg e2, if_neg (by omega)]))
      have R3 := hid (show F4 (w2.setCell ⟨w.heap.size + 1, k, none⟩ (.int .i64 (cntA A k : Int))) w.heap.size (fun _ => 0) from hR2.out.keep (Below.heap_setCell _ _ _ _ (by simp)))
      have U3 := hid (U2.out.setCell (p := ⟨w.heap.size + 1, k, none⟩) (by simp) (.int .i64 (cntA A k : Int)))
      clear u2 hc
      go_wp2
      go_roundw
      case rel => exact ⟨k + 1, by omega, by go_num, R3, O3, U3⟩
      case measure => simp [intOf]; omega
    · obtain rfl : k = 4 := by omega
      have hO4 := hO.out.congr (g := fun i => (cntA A i : Int)) (fun i hi => by unfold upTo; rw [if_pos hi])
      obtain ⟨c0, f0⟩ := hO4.cell (k := 0) (by omega)
      obtain ⟨c1, f1⟩ := hO4.cell (k := 1) (by omega)
      obtain ⟨c2, f2⟩ := hO4.cell (k := 2) (by omega)
      obtain ⟨c3, f3⟩ := hO4.cell (k := 3) (by omega)
      obtain ⟨r0, s0⟩ := hR.out.cell (k := 0) (by omega)
      obtain ⟨r1, s1⟩ := hR.out.cell (k := 1) (by omega)
      obtain ⟨r2, s2⟩ := hR.out.cell (k := 2) (by omega)
      obtain ⟨r3, s3⟩ := hR.out.cell (k := 3) (by omega)
      clear hO4
      go_wp2
      (try simp only [Exit.inBlock, Exit.then])
      refine bodyPost_ret (v := arr4 (fun i => (cntA A i : Int))) (by simp [results, Tryz.results54, go_sem, r0, r1, r2, r3, arr4]) rfl ?_
      exact ⟨rfl, (((hU.out.setCell (Nat.le_refl _) _).setCell (Nat.le_refl _) _).setCell (Nat.le_refl _) _).setCell (Nat.le_refl _) _⟩
end Go.Proofs.YtaokifbpakbgdaaGreatDoor

/- Package archive: Count. -/
namespace Go.Proofs.YtaokifbpakbgdaaGreatDoor
open Go.RowKit Go.Maps

theorem grp_ne {n : Nat} {A : List (List (El (n + 2)))} {lvl : Nat} {s : By} {xs : List (Of A)} : grp lvl s xs ≠ [] ↔ ∃ x ∈ xs, nm lvl x.1 = s := by
  unfold grp
  rw [Ne, List.filter_eq_nil_iff]
  simp
theorem Grps.keys {n : Nat} {A : List (List (El (n + 2)))} {W : World} {B0 nb lvl : Nat} {pd : List (El (n + 2)) → Nat × Int} {xs : List (Of A)} {f : Lit → Option Value} {vs : By → Value} (h : Grps W B0 nb lvl pd xs f vs) (hp : (xs.map (·.1)).Perm A) : ∀ kl, kl ∈ (seenA lvl A []).map keyS ↔ (f kl).isSome = true := by
  obtain ⟨_, h2, h3, _, h5⟩ := h
  have hg : ∀ s, grp lvl s xs ≠ [] ↔ s ∈ seenA lvl A [] := fun s => by
    rw [grp_ne, seenA_mem]
    constructor
    · rintro ⟨x, hx, e⟩
      exact .inr ⟨x.1, hp.subset (List.mem_map.2 ⟨x, hx, rfl⟩), e⟩
    · rintro (h | ⟨o, ho, e⟩)
      · cases h
      · obtain ⟨x, hx, rfl⟩ := List.mem_map.1 (hp.symm.subset ho)
        exact ⟨x, hx, e⟩
  intro kl
  rw [List.mem_map]
  constructor
  · rintro ⟨s, hs, rfl⟩
    rw [(h3 s ((hg s).2 hs)).1]; rfl
  · intro hs
    obtain ⟨s, rfl⟩ := h5 kl hs
    refine ⟨s, (hg s).1 (fun e => ?_), rfl⟩
    rw [h2 s e] at hs
    cases hs
theorem keyS_nodup {S : List By} (h : S.Nodup) : (S.map keyS).Nodup := by
  rw [List.Nodup, List.pairwise_map]
  exact h.imp (fun h e => h (by injection e))
set_option maxRecDepth 20000 in
set_option maxHeartbeats 2000000 in
theorem Count_any (n : Nat) (F : Nat → Prop) (w : World) (a m : Nat) (T : Int) (A : List (List (El (n + 2)))) (h : ProA w F n a m T A) (hG : Good A) (hV : NamesV w) :
    Calls Tryz.prog 53 #[ptr a] w fun e w' => e = .returned (arr4 (fun i => (cntA A i : Int))) ∧ Below w.heap.size w w' := by
  have H := hid h
  have HG := hid hG
  have HV := hid hV
  have HL := hid hG.1
  clear h hG hV
  go_enter Tryz.func53, Tryz.ntmps53
  go_wp2_with fail
  go_loopw [5] (fun i wr => ∃ k : Nat, k ≤ 4 ∧ i = .int .i64 k ∧ Hid (F4 wr w.heap.size (fun _ => 0)) ∧ Hid (F4 wr (w.heap.size + 1) (upTo (fun i => (cntA A i : Int)) k)) ∧ Hid (Below w.heap.size w wr)) (fun i _ => 4 - (intOf i).toNat)
  case atStart =>
    refine ⟨0, by omega, rfl, ?_, ?_, Below.alloc (Below.alloc (Below.refl _ _) (Nat.le_refl _) _) (by simp) _⟩
    · exact (Below.heap_alloc _ _ _ (by simp)).trans (heap_alloc_new _ _)
    · have := heap_alloc_new (w.alloc (.cells #[.int .i64 0, .int .i64 0, .int .i64 0, .int .i64 0] 66)) (.cells #[.int .i64 0, .int .i64 0, .int .i64 0, .int .i64 0] 66)
      rw [World.size_alloc] at this
      exact this
  case round =>
    obtain ⟨k, hk, rfl, hR, hO, hU⟩ := hrel
    by_cases hkl : k < 4
    · have hlt := hO.out.lt
      go_wp2_with fail
      go_at_call 104
      obtain ⟨h1, f, ps, hM, hP, _, _, hK⟩ := H.out.up hU.out
      refine (on_any n F wr a m k T A f ps h1 hM hP hK HG.out hkl (HV.out.up hU.out)).mono ?_
      rintro e w2 ⟨u2, nb, B0, pd, xs, f', vs, rfl, _, _, _, hp, hGr⟩
      have hR2 := hid (hR.out.keep (u2.block _ hR.out.lt))
      have hO2 := hid (hO.out.keep (u2.block _ hO.out.lt))
      have U2 := hid (hU.out.trans (u2.mono hU.out.size))
      obtain ⟨c0, f0⟩ := hO2.out.cell hkl
      have hle : ∀ ty, (Builtin.len_ #[136] ty #[.map (some nb)]).run Tryz.prog w2 = .ok (.int .i64 (cntA A k)) w2 := fun ty => by
        have := hGr.1.len (Maps.string_keyed Tryz.underlying9) Tryz.underlying136 (keyS_nodup (seenA_nodup k A [] List.nodup_nil)) (hGr.keys hp) ty
        rw [List.length_map] at this
        exact this
      have O3 := hid ((hO2.out.set hkl (cntA A k : Int)).congr (g := upTo (fun i => (cntA A i : Int)) (k + 1)) (fun i _ => by
        unfold upTo
        by_cases e : i = k
        · subst e; rw [if_pos rfl, if_pos (Nat.lt_succ_self _)]
        · rw [if_neg e]
          by_cases e2 : i < k
          · rw [if_pos e2, if_pos (by omega)]
          · rw [if_neg e2, if_neg (by omega)]))
      have R3 := hid (show F4 (w2.setCell ⟨w.heap.size + 1, k, none⟩ (.int .i64 (cntA A k : Int))) w.heap.size (fun _ => 0) from hR2.out.keep (Below.heap_setCell _ _ _ _ (by simp)))
      have U3 := hid (U2.out.setCell (p := ⟨w.heap.size + 1, k, none⟩) (by simp) (.int .i64 (cntA A k : Int)))
      clear u2 hp hGr h1 hM hP hK
      go_wp2
      go_roundw
      case rel => exact ⟨k + 1, by omega, by go_num, R3, O3, U3⟩
      case measure => simp [intOf]; omega
    · obtain rfl : k = 4 := by omega
      have hO4 := hO.out.congr (g := fun i => (cntA A i : Int)) (fun i hi => by unfold upTo; rw [if_pos hi])
      obtain ⟨c0, f0⟩ := hO4.cell (k := 0) (by omega)
      obtain ⟨c1, f1⟩ := hO4.cell (k := 1) (by omega)
      obtain ⟨c2, f2⟩ := hO4.cell (k := 2) (by omega)
      obtain ⟨c3, f3⟩ := hO4.cell (k := 3) (by omega)
      obtain ⟨r0, s0⟩ := hR.out.cell (k := 0) (by omega)
      obtain ⟨r1, s1⟩ := hR.out.cell (k := 1) (by omega)
      obtain ⟨r2, s2⟩ := hR.out.cell (k := 2) (by omega)
      obtain ⟨r3, s3⟩ := hR.out.cell (k := 3) (by omega)
      clear hO4
      go_wp2
      (try simp only [Exit.inBlock, Exit.then])
      refine bodyPost_ret (v := arr4 (fun i => (cntA A i : Int))) (by simp [results, Tryz.results53, go_sem, r0, r1, r2, r3, arr4]) rfl ?_
      exact ⟨rfl, (((hU.out.setCell (Nat.le_refl _) _).setCell (Nat.le_refl _) _).setCell (Nat.le_refl _) _).setCell (Nat.le_refl _) _⟩
end Go.Proofs.YtaokifbpakbgdaaGreatDoor

/- What the texts on bytes lean on: one byte as a text, numbers as bytes, regions whose callees lay new memory. -/
namespace Go.Proofs.YtaokifbpakbgdaaGreatDoor
open Go.RowKit

/-- string([]byte{z}). -/
theorem conv1 (w : World) (z : Int) (h0 : 0 ≤ z) (h1 : z ≤ 255) :
    (convert 49 9 (.slice (some ⟨w.heap.size, 0, none⟩) 1 1)).run Tryz.prog (w.alloc (.cells #[.int .u8 z] 5)) = .ok (.string (bs [UInt8.ofNat z.toNat])) (w.alloc (.cells #[.int .u8 z] 5)) := by
  refine run_convert_bytes_back (P := Tryz.prog) _ 49 9 5 ⟨w.heap.size, 0, none⟩ 1 [UInt8.ofNat z.toNat] Tryz.underlying49 Tryz.underlying5 Tryz.underlying9 (fun j hj => ?_)
  obtain rfl : j = 0 := by simpa using hj
  have e : (UInt8.ofNat z.toNat).toNat = z.toNat := by rw [UInt8.toNat_ofNat']; omega
  have e2 : ((⟨w.heap.size, 0, none⟩ : Addr).add 0) = ⟨w.heap.size, 0, none⟩ := rfl
  rw [e2, World.cell?_alloc_new]
  simp [e]
  omega
theorem lows_snoc : ∀ (k n : Nat), lows (k + 1) n = lows k n ++ [UInt8.ofNat (n / 256 ^ k % 256)]
  | 0, n => by simp [lows]
  | k + 1, n => by
    rw [lows, lows_snoc k (n / 256), lows, List.cons_append, Nat.div_div_eq_div_mul, Nat.pow_succ, Nat.mul_comm 256]
/-- A world that has only grown. -/
def Later (w : World) : Type := { u : World // Below w.heap.size w u }
def Later.val {w : World} (u : Later w) : World := Subtype.val u
theorem Later.up {w : World} (u : Later w) : Below w.heap.size w u.val := Subtype.property u
def Later.of {w u : World} (h : Below w.heap.size w u) : Later w := ⟨u, h⟩
/-- A REGION THAT DRAWS ITS ORDER AND WHOSE CALLEES LAY NEW MEMORY: one walk in the order of the text. -/
theorem wp_region_below {P : Program} {id : Nat} {Q : Exit → Act → World → Prop} {a : Act} {w : World} {l : List Oper} (hm : P.follows .mixedOrders = true) (hB : Region.lexB .any l.toArray = true)
    (h : wpQuiet P l.toArray (fun w' => ∃ u : Later w, w' = u.val) (fun a' => ∀ w', (∃ u : Later w, w' = u.val) → Q .normal a' w') l a) : (Code.region id l.toArray true).wp P Q a w :=
  wp_region_quiet (C := fun w' => ∃ u : Later w, w' = u.val) hm hB ⟨Later.of (Below.drew (Below.refl _ _)), rfl⟩ (by simpa using h)
theorem calls_below {P : Program} {f : FuncId} {args : Array Value} {w : World} {v : Value} {u : Later w} (h : Calls P f args u.val fun e w' => e = .returned v ∧ Below u.val.heap.size u.val w') :
    Calls P f args u.val fun e w'' => e = .returned v ∧ ∃ u' : Later w, w'' = u'.val :=
  h.mono fun _ _ ⟨he, hb⟩ => ⟨he, Later.of (u.up.trans (hb.mono u.up.size)), rfl⟩
theorem cat (a b : By) : ∃ c, Hid (c = a ++ b) ∧ bs a ++ bs b = bs c ∧ (bs c).size = c.length ∧ c.length = a.length + b.length := ⟨a ++ b, rfl, bs_append a b, rfl, List.length_append⟩
end Go.Proofs.YtaokifbpakbgdaaGreatDoor

/-
  Several texts in one; what each one has stands at its head.
-/
import Derived.Test.YtaokifbpakbgdaaGreatDoorArB0
import Derived.Shelf.RegionOpen
import Derived.Sort.QuietIn
import Derived.Test.YtaokifbpakbgdaaGreatDoorPut10
import Derived.Test.YtaokifbpakbgdaaGreatDoorPut7
import Derived.Laws.IdiomStrings
import Derived.ChangeKeysEq
import Derived.Test.YtaokifbpakbgdaaGreatDoorPut3
import Derived.BigQuiet
import Derived.Laws.IdiomArrays
import Derived.Test.YtaokifbpakbgdaaGreatDoorPut2
import Derived.ChangeMaps5
import Derived.Test.YtaokifbpakbgdaaGreatDoorPut9
/- Package archive: byName, over whatever iterator of pictures; on. -/
namespace Go.Proofs.YtaokifbpakbgdaaGreatDoor
open Go.RowKit Go.Maps Go.Shelf
attribute [local go_sem] Oper.semAt_some

theorem mapsValues_any (w : World) (mb : Option Nat) : Calls Tryz.prog 172 #[.map mb] w fun e w' => e = .returned (.func (.func 226) #[] #[.pointer (some ⟨w.heap.size, 0, none⟩)]) ∧ w' = w.alloc (.cells #[.map mb] 122) := by
  go_enter Tryz.func172, Tryz.ntmps172
  go_wp2
  go_ret
  exact ⟨rfl, rfl⟩
/-- What lies between two rounds. -/
def ByI {n : Nat} {A : List (List (El (n + 2)))} (w : World) (lvl : Nat) (pd : List (El (n + 2)) → Nat × Int) (pre : List (Of A)) (W : World) : Prop :=
  (Boxed W w.heap.size 3 (.int .i64 lvl) ∧ Boxed W (w.heap.size + 1 + 1) 136 (.map (some (w.heap.size + 1))) ∧ ∃ f vs, Grps W (w.heap.size + 3) (w.heap.size + 1) lvl pd pre f vs) ∧ Below w.heap.size w W
theorem ByI.own {n : Nat} {A : List (List (El (n + 2)))} (w : World) (lvl : Nat) (pd : List (El (n + 2)) → Nat × Int) : OwnFrom (w.heap.size + 3) (ByI (A := A) w lvl pd) := by
  intro s W W' row hs hg hr
  obtain ⟨⟨h1, h2, f, vs, h3⟩, h4⟩ := hs
  have hne : ∀ (j : Nat) (o : Obj), W.heap[j]? = some o → o.isCells = true → W'.heap[j]? = some o := fun j o ho hc => by
    rw [hg.block j (Array.getElem?_eq_some_iff.1 ho).1 (fun e => ?_), ho]
    obtain ⟨_, o2, h5, h6⟩ := hr j e.symm
    rw [ho] at h5
    cases h5
    rw [hc] at h6
    cases h6
  have hlow : ∀ j, j < w.heap.size + 3 → j < W.heap.size → W'.heap[j]? = W.heap[j]? := fun j hj hl => hg.block j hl (fun e => by have := (hr j e.symm).1; omega)
  refine ⟨⟨hne _ _ h1 rfl, hne _ _ h2 rfl, f, vs, h3.keep (hlow _ (by omega) h3.1.lt) (fun j o _ => hne j o)⟩, ⟨hg.os.trans h4.os, hg.tape.trans h4.tape, hg.output.trans h4.output, Nat.le_trans h4.size hg.size, fun j hj => (hlow j (by omega) (Nat.lt_of_lt_of_le hj h4.size)).trans (h4.block j hj)⟩⟩
/-- A picture's variable. -/
def Pic2 (W : World) (B d : Nat) (t : Int) : Prop := W.heap[B]? = some (.cells #[.map (some d), .int .i64 t] 131 (0, 0))
theorem Pic2.cells {W : World} {B d : Nat} {t : Int} (h : Pic2 W B d t) : W.cell? ⟨B, 0, none⟩ = some (.map (some d)) ∧ W.cell? ⟨B, 1, none⟩ = some (.int .i64 t) := by
  unfold Pic2 at h
  simp [World.cell?, h]
set_option maxRecDepth 100000 in
set_option maxHeartbeats 4000000 in
theorem byName_any {n : Nat} (A : List (List (El (n + 2)))) (pd : List (El (n + 2)) → Nat × Int) (F : Nat → Prop) (w : World) (gf : Nat) (lb : Array Value) (lvl : Nat) (hlv : lvl < 4) (S : List (Of A) → Prop) (N : Nat) (hN : N ≤ 48)
    (eg : ∀ args w, (callFunc gf args).run Tryz.prog w = .ok (.enter gf args) w)
    (hseq : ∀ W0, Below w.heap.size w W0 → W0.heap.size = w.heap.size + 3 → SeqStopsK Fence.wide 8 Tryz.prog gf lb (encP (A := A) pd) (KeepsBut (w.heap.size + 1) w.heap.size) S (fun _ => True) N W0)
    (hD : ∀ l ∈ A, DMk w F (n + 1) (pd l).1 24 (descG l)) (hs : ∀ l ∈ A, (nm lvl l).length ≤ 64) (hV : NamesV w) :
    Calls Tryz.prog 171 #[.func (.func gf) #[] lb, .int .i64 lvl] w fun e W' => e = .returned (.map (some (w.heap.size + 1))) ∧ Below w.heap.size w W' ∧ ∃ xs f vs, S xs ∧ Grps W' (w.heap.size + 3) (w.heap.size + 1) lvl pd xs f vs := by
  refine (callsIn_wide (n := 9)).1 ?_
  have hmm := @run_makeMap Tryz.prog
  have h1 : 1 ≤ 9 := by omega
  refine callsIn_of_wp_marks Tryz.func171 rfl trivial ?_ rfl
  simp only [Tryz.ntmps171, List.size_toArray, List.length_cons, List.length_nil, Nat.reduceAdd, Nat.reduceSub, Array.replicate_succ, Array.replicate_zero, List.push_toArray, List.append_toArray, List.nil_append, List.cons_append]
  gi_wp2
  have hB0 : Below w.heap.size w (((w.alloc (.cells #[.int .i64 lvl] 3)).alloc (.map #[] 0)).alloc (.cells #[.map (some (w.heap.size + 1))] 136)) := (((Below.refl _ w).alloc (Nat.le_refl _) _).alloc (by simp) _).alloc (by simp; omega) _
  have hsz : (((w.alloc (.cells #[.int .i64 lvl] 3)).alloc (.map #[] 0)).alloc (.cells #[.map (some (w.heap.size + 1))] 136)).heap.size = w.heap.size + 3 := by simp
  have hI0 : ByI (A := A) w lvl pd [] (((w.alloc (.cells #[.int .i64 lvl] 3)).alloc (.map #[] 0)).alloc (.cells #[.map (some (w.heap.size + 1))] 136)) := by
    have hm := MapF.made (w.alloc (.cells #[.int .i64 lvl] 3)) Tryz.prog 9
    rw [World.size_alloc] at hm
    refine ⟨⟨?_, ?_, fun _ => none, fun _ => .slice none 0 0, hm.kept (Below.heap_alloc _ _ _ (by simp)), fun s _ => rfl, fun s hs => absurd rfl hs, fun s t hs _ _ => absurd rfl hs, fun k hk => by cases hk⟩, hB0⟩
    · exact (Below.heap_alloc _ _ _ (by simp; omega)).trans ((Below.heap_alloc _ _ _ (by simp)).trans (heap_alloc_new _ _))
    · have := heap_alloc_new ((w.alloc (.cells #[.int .i64 lvl] 3)).alloc (.map #[] 0)) (.cells #[.map (some (w.heap.size + 1))] 136)
      simp only [World.size_alloc] at this
      exact this
  obtain ⟨W0, hW0⟩ : ∃ W0, ((w.alloc (.cells #[.int .i64 lvl] 3)).alloc (.map #[] 0)).alloc (.cells #[.map (some (w.heap.size + 1))] 136) = W0 := ⟨_, rfl⟩
  rw [hW0] at hB0 hsz hI0 ⊢
  clear hW0
  refine wpIn_rangeFunc_ownH rfl h1 (gf := gf) (lb := lb) rfl trivial eg (hseq W0 hB0 hsz) KeepsBut.trans (KeepsBut.book (by rw [hsz]; omega)) (Below.refl _ _) (fun _ => rfl)
    (ByI w lvl pd) (fun _ _ _ => False) (by rw [hsz]; exact ByI.own w lvl pd) (fun _ _ _ _ _ hs _ _ => hs) hI0
    (fun x a' W => ∃ Bx, w.heap.size + 3 ≤ Bx ∧ Pic2 W Bx (pd x.1).1 (pd x.1).2 ∧ a' = { tmps := #[.func (.func gf) #[] lb, .int .i64 lvl, undef, .pointer (some ⟨w.heap.size, 0, none⟩), .map none, .pointer (some ⟨w.heap.size + 1 + 1, 0, none⟩), .pointer (some ⟨Bx, 0, none⟩), undef, .map (some (w.heap.size + 1)), .func (.func gf) #[] lb, picV (pd x.1).1 (pd x.1).2, undef, undef, undef, undef, undef, undef, undef, undef, undef, undef, undef, undef, undef, undef, undef], defers := [] })
    (fun x a' _ X Y row hs hg hr => by
      obtain ⟨Bx, h1, h2, h3⟩ := hs
      refine ⟨Bx, h1, ?_, h3⟩
      unfold Pic2 at h2 ⊢
      rw [hg.block Bx (Array.getElem?_eq_some_iff.1 h2).1 (fun e => ?_), h2]
      obtain ⟨_, o2, h5, h6⟩ := hr Bx e.symm
      rw [h2] at h5
      cases h5
      cases h6)
    ?assign ?body ?done ?stop
  case assign =>
    rintro l pre x W K ⟨⟨b1, b2, f, vs, hG⟩, hB⟩ hK
    have hsW := hB.size
    gi_wp2
    have ho : ∀ j o, W.heap[j]? = some o → (W.alloc (.cells #[.map (some (pd x.1).1), .int .i64 (pd x.1).2] 131)).heap[j]? = some o := fun j o h => (Below.heap_alloc _ _ _ (Array.getElem?_eq_some_iff.1 h).1).trans h
    have hnb := hG.1.lt
    exact hK _ _ ((KeepsOthers.alloc _ _).from _) ⟨by simp, fun k o _ h _ => ho k o h, fun k hk => Below.heap_alloc _ _ _ (by omega)⟩ ⟨⟨ho _ _ b1, ho _ _ b2, f, vs, hG.keep (Below.heap_alloc _ _ _ hnb) (fun j o _ h _ => ho j o h)⟩, hB.alloc hB.size _⟩ ⟨W.heap.size, by have := (Array.getElem?_eq_some_iff.1 b2).1; omega, heap_alloc_new _ _, rfl⟩
  case body =>
    rintro l pre x a' W hl ⟨r, hr⟩ ⟨⟨b1, b2, f, vs, hG⟩, hB⟩ ⟨Bx, hBx, bX, rfl⟩ hlt
    have c1 := b1.cell
    have c2 := b2.cell
    obtain ⟨c3, c4⟩ := bX.cells
    have c5 := (hV.up hB) lvl hlv
    have hDW := hid ((hD x.1 x.2).up hB)
    have hvv := hid (valG_desc x.1 lvl)
    have hsx := hs x.1 x.2
    have hlv2 : ((lvl : Nat) : Int) < 4 := by omega
    have hmx : Tryz.prog.follows .mixedOrders = true := by kernel_rfl
    gi_wp2
    have hw97 : Fence.wide.fn 97 := trivial
    have cv : ∀ k, CallsIn Fence.wide k Tryz.prog 97 #[.map (some (pd x.1).1), .int .i64 (nameT lvl)] W.drew fun e w' => e = .returned (.string (bs (nm lvl x.1))) ∧ w' = W.drew := fun k => callsIn_wide.2 (by
      have := dvalue_any W.drew F (n + 1) (pd x.1).1 24 (descG x.1) (nameT lvl) (hDW.out.keep rfl (fun _ h => h) (fun _ _ _ => rfl)) (nameT_bd lvl)
      rw [hvv.out] at this
      exact this)
    refine wpIn_mono (Q := fun e a w' => e = Exit.normal ∧ a = { tmps := #[.func (.func gf) #[] lb, .int .i64 lvl, undef, .pointer (some ⟨w.heap.size, 0, none⟩), .map none, .pointer (some ⟨w.heap.size + 1 + 1, 0, none⟩), .pointer (some ⟨Bx, 0, none⟩), .string (bs (nm lvl x.1)), .map (some (w.heap.size + 1)), .func (.func gf) #[] lb, picV (pd x.1).1 (pd x.1).2, .pointer (some ⟨Bx, 0, none⟩), .map (some (pd x.1).1), .int .i64 lvl, .pointer (some ⟨1, lvl, none⟩), .int .i64 (nameT lvl), .string (bs (nm lvl x.1)), undef, undef, undef, undef, undef, undef, undef, undef, undef], defers := [] } ∧ w' = W.drew) ?_ ?_
    · gi_region_with_o (gi_at_call 97; refine (CallsIn.inRound l (cv _)).mono ?_; rintro e w' ⟨rfl, rfl⟩)
      all_goals exact ⟨rfl, rfl, rfl⟩
    rintro e a2 w2 ⟨rfl, rfl, rfl⟩
    clear cv hmx hw97
    have d1 : W.drew.cell? ⟨w.heap.size + 1 + 1, 0, none⟩ = some (.map (some (w.heap.size + 1))) := c2
    have d2 : W.drew.cell? ⟨Bx, 0, none⟩ = some (.map (some (pd x.1).1)) := c3
    have d3 : W.drew.cell? ⟨Bx, 1, none⟩ = some (.int .i64 (pd x.1).2) := c4
    have hGa : Grps W.drew (w.heap.size + 3) (w.heap.size + 1) lvl pd pre f vs := hG.keep rfl (fun _ _ _ h _ => h)
    have hEq : W.drew.heap = W.heap ∧ W.drew.os = W.os ∧ W.drew.tape = W.tape ∧ W.drew.output = W.output := ⟨rfl, rfl, rfl, rfl⟩
    have HEq := hid hEq
    have hBl := (Array.getElem?_eq_some_iff.1 bX).1
    have hzz : W.drew.heap.size = W.heap.size := rfl
    clear hEq c1 c2 c3 c4 c5
    generalize W.drew = Wa at d1 d2 d3 hGa HEq hzz ⊢
    have HZ := hid hzz
    clear hzz
    have hG1 := hid (hGa.keep (W' := Wa.drew) rfl (fun _ _ _ h _ => h))
    have hsW := hB.size
    have hB2 := (Array.getElem?_eq_some_iff.1 b2).1
    obtain ⟨v, v', W2, W3, r1, r2, r3, r4, hG3, hos3, hz3, hlow3, hnc3, hW2⟩ := hG1.out.step x (by omega) hsx (by omega) (show w.heap.size + 3 ≤ Wa.heap.size by have := HZ.out; omega)
    have r2' : (Instr.lookup 136 (.map (some (w.heap.size + 1))) (.string (bs (nm lvl x.1))) false).run Tryz.prog (Wa.alloc (.cells #[.map (some (pd x.1).1), .int .i64 (pd x.1).2] 131)).drew = .ok v (Wa.alloc (.cells #[.map (some (pd x.1).1), .int .i64 (pd x.1).2] 131)).drew := r2
    have r3' : (Builtin.append_ #[144, 144] 144 #[v, .slice (some ⟨Wa.heap.size, 0, none⟩) 1 1]).run Tryz.prog (Wa.alloc (.cells #[.map (some (pd x.1).1), .int .i64 (pd x.1).2] 131)).drew = .ok v' W2 := r3
    have d1' : (Wa.alloc (.cells #[.map (some (pd x.1).1), .int .i64 (pd x.1).2] 131)).cell? ⟨w.heap.size + 1 + 1, 0, none⟩ = some (.map (some (w.heap.size + 1))) := cell_keep (Below.heap_alloc _ _ _ (World.block_lt_of_cell? _ _ d1)) d1
    clear r2 r3
    have G3 := hid hG3
    have O3 := hid hos3
    have L3 := hid hlow3
    have N3 := hid hnc3
    clear hG3 hos3 hlow3 hnc3
    have hmx : Tryz.prog.follows .mixedOrders = true := by kernel_rfl
    gi_wp2
    have d5 : W2.cell? ⟨w.heap.size + 1 + 1, 0, none⟩ = some (.map (some (w.heap.size + 1))) := cell_keep (hW2 (w.heap.size + 1 + 1) (by omega)) d1
    refine wpIn_mono (region_append l Wa W2 W3 (w.heap.size + 1 + 1) (w.heap.size + 1) Bx (pd x.1).1 (pd x.1).2 (bs (nm lvl x.1)) v v' _ _ _ _ _ _ _ _ _ _ _ _ _ _ d1 d2 d3 d1' d5 r1 r2' r3' r4 hmx) ?_
    rintro e a2 w2 ⟨rfl, rfl⟩
    have hEq := HEq.out
    have hh : ∀ j : Nat, Wa.heap[j]? = W.heap[j]? := fun j => by rw [hEq.1]
    have hnc : ∀ (j : Nat) (o : Obj), j ≠ w.heap.size + 1 → W.heap[j]? = some o → o.isCells = false → w2.heap[j]? = some o := fun j o h ho hc => N3.out j o h ((hh j).trans ho) hc
    have hlo : ∀ j : Nat, j < w.heap.size + 3 → j ≠ w.heap.size + 1 → w2.heap[j]? = W.heap[j]? := fun j hj h => (L3.out j hj h).trans (hh j)
    have hzw : W.heap.size ≤ w2.heap.size := by have q1 := HZ.out; have q2 : Wa.heap.size ≤ w2.heap.size := hz3; omega
    refine ⟨⟨hzw, fun k o hk ho hc => hnc k o (by have q3 := hsz; omega) ho hc⟩, ⟨hzw, fun k o hk ho hw => hnc k o hk ho (Obj.not_cells_of_walk hw), fun k hk => hlo k (by omega) (by omega)⟩, ⟨(hlo _ (by omega) (by omega)).trans b1, (hlo _ (by omega) (by omega)).trans b2, G3.out⟩, ?_⟩
    exact ⟨O3.out.1.trans (hEq.2.1.trans hB.os), O3.out.2.1.trans (hEq.2.2.1.trans hB.tape), O3.out.2.2.trans (hEq.2.2.2.trans hB.output), Nat.le_trans hB.size hzw, fun j hj => (hlo j (by omega) (by omega)).trans (hB.block j hj)⟩
  case done =>
    rintro D xs W hD2 hS ⟨⟨b1, b2, f, vs, hG⟩, hB⟩ hK
    have c2 := b2.cell
    have hnb := hG.1.lt
    gi_wp2
    refine ⟨by simp, .inl ⟨_, _, rfl, run_takeDeferred hK, ?_⟩⟩
    have hne : ∀ j : Nat, j ≠ D → (W.putObj D (.deferred none)).heap[j]? = W.heap[j]? := fun j hj => World.putObj_heap_other (fun e => hj e)
    refine ⟨_, results_tmp rfl _ _ _, rfl, hB.trans (belowK_b (w := w) (Nat.le_refl _) W D _ _ (by omega) hK rfl rfl), xs, f, vs, hS, hG.keep (hne _ (by omega)) (fun j o _ h hc => ?_)⟩
    rw [hne j (fun e => ?_), h]
    subst e
    rw [hK] at h
    cases h
    cases hc
  case stop =>
    rintro D c pre W _ _ h _
    exact h.elim
theorem Pics.pd {w : World} {F : Nat → Prop} {n : Nat} {f : Lit → Option Value} {A : List (List (El (n + 2)))} {ps : List (Nat × Int)} (h : Pics w F n f A ps) : ∃ pd : List (El (n + 2)) → Nat × Int, ∀ l ∈ A, pd l ∈ ps ∧ f (keyS (nm 3 l)) = some (picV (pd l).1 (pd l).2) ∧ DMk w F (n + 1) (pd l).1 24 (descG l) := by
  have : ∀ l : List (El (n + 2)), ∃ p : Nat × Int, l ∈ A → p ∈ ps ∧ f (keyS (nm 3 l)) = some (picV p.1 p.2) ∧ DMk w F (n + 1) p.1 24 (descG l) := fun l => by
    by_cases hl : l ∈ A
    · obtain ⟨p, h1, h2, _, h3⟩ := h.find l hl
      exact ⟨p, fun _ => ⟨h1, h2, h3⟩⟩
    · exact ⟨(0, 0), fun h => absurd h hl⟩
  obtain ⟨pd, hpd⟩ := Classical.axiomOfChoice this
  exact ⟨pd, hpd⟩
/-- All that is there on a level. -/
def OnEnd {n : Nat} (w : World) (lvl : Nat) (A : List (List (El (n + 2)))) (ps : List (Nat × Int)) (e : Ending) (W' : World) : Prop := Below w.heap.size w W' ∧
  ∃ (nb B0 : Nat) (pd : List (El (n + 2)) → Nat × Int) (xs : List (Of A)) (f : Lit → Option Value) (vs : By → Value), e = .returned (.map (some nb)) ∧ w.heap.size ≤ nb ∧ nb < B0 ∧ (∀ l ∈ A, pd l ∈ ps) ∧ (xs.map (·.1)).Perm A ∧ Grps W' B0 nb lvl pd xs f vs
set_option maxRecDepth 20000 in
theorem on_any (n : Nat) (F : Nat → Prop) (w : World) (a m lvl : Nat) (T : Int) (A : List (List (El (n + 2)))) (f : Lit → Option Value) (ps : List (Nat × Int)) (h1 : Arc2 w a m T) (hM : MapF w Tryz.prog 9 m A.length f) (hP : Pics w F n f A ps) (hK : ∀ k, (f k).isSome = true ↔ ∃ l ∈ A, k = keyS (nm 3 l)) (hG : Good A) (hlv : lvl < 4) (hV : NamesV w) :
    Calls Tryz.prog 104 #[ptr a, .int .i64 lvl] w (OnEnd w lvl A ps) := by
  obtain ⟨pd, hpd⟩ := hP.pd
  obtain ⟨⟨a0, _⟩, _⟩ := h1.cells
  have u1 : Below w.heap.size w (w.alloc (.cells #[.map (some m)] 122)) := Below.alloc (Below.refl _ _) (Nat.le_refl _) _
  have c1 := byName_any A pd F (w.alloc (.cells #[.map (some m)] 122)) 226 #[.pointer (some ⟨w.heap.size, 0, none⟩)] lvl hlv (fun xs => (xs.map (·.1)).Perm A) A.length hG.1 (enters_of Tryz.func226 (by kernel_rfl) rfl)
    (fun W0 hB0 hsz => fun l J Jx W hW hJ _ hY h0 => by
      have hWz := hW.size
      have hu : Below (w.alloc (.cells #[.map (some m)] 122)).heap.size (w.alloc (.cells #[.map (some m)] 122)) W := hB0.trans (hW.mono hB0.size)
      have hml := hM.lt
      rw [World.size_alloc] at hsz
      exact values1_in Fence.wide 8 trivial rfl (by omega) l w.heap.size m _ _ A f pd J Jx hY W hJ ((hu.cell (by simp)).trans (by simp)) (hM.kept ((hu.block m (by simp; omega)).trans (Below.heap_alloc _ _ _ hml))) hK (fun l hl => (hpd l hl).2.1) hG.2.1 (by rw [World.size_alloc]; omega) (by rw [World.size_alloc]; omega) h0)
    (fun l hl => ((hpd l hl).2.2).up u1) (fun l hl => nm_short (n := n + 1) (hG.2.2 l hl).1 lvl) (hV.up u1)
  have C1 := hid c1
  have HP := hid (fun l hl => (hpd l hl).1)
  have U1 := hid u1
  clear c1 hpd u1 hP hM hK hG hV h1
  go_enter Tryz.func104, Tryz.ntmps104
  go_wp2_with fail
  go_at_call 172
  refine (mapsValues_any w (some m)).mono ?_
  rintro e w1 ⟨rfl, rfl⟩
  go_wp2_with fail
  go_at_call 171
  refine C1.out.mono ?_
  rintro e w2 ⟨rfl, u2, xs, f', vs, hS, hGr⟩
  have U2 := hid (U1.out.trans (u2.mono U1.out.size))
  have HS := hid hS
  rw [World.size_alloc] at hGr
  have HGr := hid hGr
  clear u2 hS hGr C1
  go_wp2
  go_ret
  exact ⟨U2.out, _, _, pd, xs, f', vs, rfl, by omega, by omega, HP.out, HS.out, HGr.out⟩
end Go.Proofs.YtaokifbpakbgdaaGreatDoor

/- Package folioref on archives: under, Count. -/
namespace Go.Proofs.YtaokifbpakbgdaaGreatDoor
open Go.RowKit

theorem seenA_snoc {n : Nat} (i : Nat) (o : List (El (n + 1))) : ∀ (A : List (List (El (n + 1)))) (s : List By), seenA i (A ++ [o]) s = if (seenA i A s).contains (nm i o) then seenA i A s else seenA i A s ++ [nm i o]
  | [], s => by rw [List.nil_append, seenA, seenA, seenA]
  | p :: A, s => by rw [List.cons_append, seenA, seenA, seenA_snoc i o A]
theorem seenA_len {n : Nat} (i : Nat) : ∀ (A : List (List (El (n + 1)))) (s : List By), (seenA i A s).length ≤ s.length + A.length
  | [], s => by rw [seenA]; simp
  | o :: A, s => by
    rw [seenA]
    have := seenA_len i A (if s.contains (nm i o) then s else s ++ [nm i o])
    have h2 : (if s.contains (nm i o) then s else s ++ [nm i o]).length ≤ s.length + 1 := by split <;> simp
    rw [List.length_cons]
    omega
abbrev stV (s : By) : Value := .string (bs s)
theorem row_at {w : World} {base : Nat} {v : Value} {S : List By} (h : w.ownsRow base 9 1 v S.length (S.map stV)) {q : Nat} (hq : q < S.length) : ∃ g cap, v = .slice (some ⟨g, 0, none⟩) S.length cap ∧ w.cell? ⟨g, q, none⟩ = some (.string (bs S[q])) := by
  rcases id h.2 with ⟨_, h1⟩ | ⟨g, cap, cur, rfl, _⟩
  · omega
  · refine ⟨g, cap, rfl, ?_⟩
    rw [h.cellAt q (by omega), List.getElem?_map, List.getElem?_eq_getElem hq]; rfl
theorem row_slice {w : World} {base : Nat} {e : TypeId} {k : Nat} {v : Value} {n : Nat} {xs : List Value} (h : w.ownsRow base e k v n xs) : ∃ ad cap, v = .slice ad n cap := by
  rcases h.2 with ⟨rfl, h1⟩ | ⟨g, cap, cur, rfl, _⟩
  · exact ⟨_, _, by rw [h1]⟩
  · exact ⟨_, _, rfl⟩
theorem cont_take {S : List By} {m : Nat} (h : m < S.length) (x : By) : (S.take (m + 1)).contains x = ((S.take m).contains x || (S[m] == x)) := by
  rw [List.take_succ_eq_append_getElem h, Bool.eq_iff_iff, List.contains_iff_mem, List.mem_append, List.mem_singleton, Bool.or_eq_true, List.contains_iff_mem, beq_iff_eq]
  exact ⟨fun h => h.imp id Eq.symm, fun h => h.imp id Eq.symm⟩
/-- Four numbers. -/
def arr4 (f : Nat → Int) : Value := .agg #[.int .i64 (f 0), .int .i64 (f 1), .int .i64 (f 2), .int .i64 (f 3)]
/-- A variable of four numbers. -/
def F4 (w : World) (b : Nat) (f : Nat → Int) : Prop := w.heap[b]? = some (.cells #[.int .i64 (f 0), .int .i64 (f 1), .int .i64 (f 2), .int .i64 (f 3)] 66 (0, 0))
theorem F4.cell {w : World} {b : Nat} {f : Nat → Int} (h : F4 w b f) {k : Nat} (hk : k < 4) : w.cell? ⟨b, k, none⟩ = some (.int .i64 (f k)) ∧ w.frozen? ⟨b, k, none⟩ = false := by
  unfold F4 at h
  rcases (show k = 0 ∨ k = 1 ∨ k = 2 ∨ k = 3 by omega) with rfl | rfl | rfl | rfl <;> simp [World.cell?, World.frozen?, h]
theorem F4.set {w : World} {b : Nat} {f : Nat → Int} (h : F4 w b f) {k : Nat} (hk : k < 4) (c : Int) : F4 (w.setCell ⟨b, k, none⟩ (.int .i64 c)) b (fun i => if i = k then c else f i) := by
  unfold F4 at h ⊢
  have hlt := lt_of_block h
  have h' : w.heap[b] = .cells #[.int .i64 (f 0), .int .i64 (f 1), .int .i64 (f 2), .int .i64 (f 3)] 66 (0, 0) := by simpa [Array.getElem?_eq_getElem hlt] using h
  show (w.heap.modify b _)[b]? = _
  rw [Array.getElem?_eq_getElem (by simpa using hlt), Array.getElem_modify_self, h']
  rcases (show k = 0 ∨ k = 1 ∨ k = 2 ∨ k = 3 by omega) with rfl | rfl | rfl | rfl <;> rfl
theorem F4.keep {w w' : World} {b : Nat} {f : Nat → Int} (h : F4 w b f) (k : w'.heap[b]? = w.heap[b]?) : F4 w' b f := k.trans h
theorem F4.lt {w : World} {b : Nat} {f : Nat → Int} (h : F4 w b f) : b < w.heap.size := lt_of_block h
theorem F4.congr {w : World} {b : Nat} {f g : Nat → Int} (h : F4 w b f) (e : ∀ i, i < 4 → f i = g i) : F4 w b g := by
  unfold F4 at h ⊢
  rw [← e 0 (by omega), ← e 1 (by omega), ← e 2 (by omega), ← e 3 (by omega)]
  exact h
theorem cntA_le {n : Nat} (A : List (List (El (n + 1)))) (i : Nat) : cntA A i ≤ A.length := by
  have := seenA_len i A []
  unfold cntA
  simpa using this
/-- The first k of four numbers. -/
def upTo (f : Nat → Int) (k i : Nat) : Int := if i < k then f i else 0
end Go.Proofs.YtaokifbpakbgdaaGreatDoor

/- Package archive: Count. -/
namespace Go.Proofs.YtaokifbpakbgdaaGreatDoor
open Go.RowKit Go.Maps

theorem grp_ne {n : Nat} {A : List (List (El (n + 2)))} {lvl : Nat} {s : By} {xs : List (Of A)} : grp lvl s xs ≠ [] ↔ ∃ x ∈ xs, nm lvl x.1 = s := by
  unfold grp
  rw [Ne, List.filter_eq_nil_iff]
  simp
theorem Grps.keys {n : Nat} {A : List (List (El (n + 2)))} {W : World} {B0 nb lvl : Nat} {pd : List (El (n + 2)) → Nat × Int} {xs : List (Of A)} {f : Lit → Option Value} {vs : By → Value} (h : Grps W B0 nb lvl pd xs f vs) (hp : (xs.map (·.1)).Perm A) : ∀ kl, kl ∈ (seenA lvl A []).map keyS ↔ (f kl).isSome = true := by
  obtain ⟨_, h2, h3, _, h5⟩ := h
  have hg : ∀ s, grp lvl s xs ≠ [] ↔ s ∈ seenA lvl A [] := fun s => by
    rw [grp_ne, seenA_mem]
    constructor
    · rintro ⟨x, hx, e⟩
      exact .inr ⟨x.1, hp.subset (List.mem_map.2 ⟨x, hx, rfl⟩), e⟩
    · rintro (h | ⟨o, ho, e⟩)
      · cases h
      · obtain ⟨x, hx, rfl⟩ := List.mem_map.1 (hp.symm.subset ho)
        exact ⟨x, hx, e⟩
  intro kl
  rw [List.mem_map]
  constructor
  · rintro ⟨s, hs, rfl⟩
    rw [(h3 s ((hg s).2 hs)).1]; rfl
  · intro hs
    obtain ⟨s, rfl⟩ := h5 kl hs
    refine ⟨s, (hg s).1 (fun e => ?_), rfl⟩
    rw [h2 s e] at hs
    cases hs
theorem keyS_nodup {S : List By} (h : S.Nodup) : (S.map keyS).Nodup := by
  rw [List.Nodup, List.pairwise_map]
  exact h.imp (fun h e => h (by injection e))
set_option maxRecDepth 20000 in
set_option maxHeartbeats 2000000 in
theorem Count_any (n : Nat) (F : Nat → Prop) (w : World) (a m : Nat) (T : Int) (A : List (List (El (n + 2)))) (h : ProA w F n a m T A) (hG : Good A) (hV : NamesV w) :
    Calls Tryz.prog 53 #[ptr a] w fun e w' => e = .returned (arr4 (fun i => (cntA A i : Int))) ∧ Below w.heap.size w w' := by
  have H := hid h
  have HG := hid hG
  have HV := hid hV
  have HL := hid hG.1
  clear h hG hV
  go_enter Tryz.func53, Tryz.ntmps53
  go_wp2_with fail
  go_loopw [5] (fun i wr => ∃ k : Nat, k ≤ 4 ∧ i = .int .i64 k ∧ Hid (F4 wr w.heap.size (fun _ => 0)) ∧ Hid (F4 wr (w.heap.size + 1) (upTo (fun i => (cntA A i : Int)) k)) ∧ Hid (Below w.heap.size w wr)) (fun i _ => 4 - (intOf i).toNat)
  case atStart =>
    refine ⟨0, by omega, rfl, ?_, ?_, Below.alloc (Below.alloc (Below.refl _ _) (Nat.le_refl _) _) (by simp) _⟩
    · exact (Below.heap_alloc _ _ _ (by simp)).trans (heap_alloc_new _ _)
    · have := heap_alloc_new (w.alloc (.cells #[.int .i64 0, .int .i64 0, .int .i64 0, .int .i64 0] 66)) (.cells #[.int .i64 0, .int .i64 0, .int .i64 0, .int .i64 0] 66)
      rw [World.size_alloc] at this
      exact this
  case round =>
    obtain ⟨k, hk, rfl, hR, hO, hU⟩ := hrel
    by_cases hkl : k < 4
    · have hlt := hO.out.lt
      go_wp2_with fail
      go_at_call 104
      obtain ⟨h1, f, ps, hM, hP, _, _, hK⟩ := H.out.up hU.out
      refine (on_any n F wr a m k T A f ps h1 hM hP hK HG.out hkl (HV.out.up hU.out)).mono ?_
      rintro e w2 ⟨u2, nb, B0, pd, xs, f', vs, rfl, _, _, _, hp, hGr⟩
      have hR2 := hid (hR.out.keep (u2.block _ hR.out.lt))
      have hO2 := hid (hO.out.keep (u2.block _ hO.out.lt))
      have U2 := hid (hU.out.trans (u2.mono hU.out.size))
      obtain ⟨c0, f0⟩ := hO2.out.cell hkl
      have hle : ∀ ty, (Builtin.len_ #[136] ty #[.map (some nb)]).run Tryz.prog w2 = .ok (.int .i64 (cntA A k)) w2 := fun ty => by
        have := hGr.1.len (Maps.string_keyed Tryz.underlying9) Tryz.underlying136 (keyS_nodup (seenA_nodup k A [] List.nodup_nil)) (hGr.keys hp) ty
        rw [List.length_map] at this
        exact this
      have O3 := hid ((hO2.out.set hkl (cntA A k : Int)).congr (g := upTo (fun i => (cntA A i : Int)) (k + 1)) (fun i _ => by
        unfold upTo
        by_cases e : i = k
        · subst e; rw [if_pos rfl, if_pos (Nat.lt_succ_self _)]
        · rw [if_neg e]
          by_cases e2 : i < k
          · rw [if_pos e2, if_pos (by omega)]
          · rw [if_neg e2, if_neg (by omega)]))
      have R3 := hid (show F4 (w2.setCell ⟨w.heap.size + 1, k, none⟩ (.int .i64 (cntA A k : Int))) w.heap.size (fun _ => 0) from hR2.out.keep (Below.heap_setCell _ _ _ _ (by simp)))
      have U3 := hid (U2.out.setCell (p := ⟨w.heap.size + 1, k, none⟩) (by simp) (.int .i64 (cntA A k : Int)))
      clear u2 hp hGr h1 hM hP hK
      go_wp2
      go_roundw
      case rel => exact ⟨k + 1, by omega, by go_num, R3, O3, U3⟩
      case measure => simp [intOf]; omega
    · obtain rfl : k = 4 := by omega
      have hO4 := hO.out.congr (g := fun i => (cntA A i : Int)) (fun i hi => by unfold upTo; rw [if_pos hi])
      obtain ⟨c0, f0⟩ := hO4.cell (k := 0) (by omega)
      obtain ⟨c1, f1⟩ := hO4.cell (k := 1) (by omega)
      obtain ⟨c2, f2⟩ := hO4.cell (k := 2) (by omega)
      obtain ⟨c3, f3⟩ := hO4.cell (k := 3) (by omega)
      obtain ⟨r0, s0⟩ := hR.out.cell (k := 0) (by omega)
      obtain ⟨r1, s1⟩ := hR.out.cell (k := 1) (by omega)
      obtain ⟨r2, s2⟩ := hR.out.cell (k := 2) (by omega)
      obtain ⟨r3, s3⟩ := hR.out.cell (k := 3) (by omega)
      clear hO4
      go_wp2
      (try simp only [Exit.inBlock, Exit.then])
      refine bodyPost_ret (v := arr4 (fun i => (cntA A i : Int))) (by simp [results, Tryz.results53, go_sem, r0, r1, r2, r3, arr4]) rfl ?_
      exact ⟨rfl, (((hU.out.setCell (Nat.le_refl _) _).setCell (Nat.le_refl _) _).setCell (Nat.le_refl _) _).setCell (Nat.le_refl _) _⟩
end Go.Proofs.YtaokifbpakbgdaaGreatDoor

/- Package foliolaw on archives: pick, counted, simple. -/
namespace Go.Proofs.YtaokifbpakbgdaaGreatDoor
open Go.RowKit

theorem info_int : ∃ i, Tryz.prog.info? 3 = some i := by
  have h : (Tryz.prog.info? 3).isSome = true := by kernel_rfl
  exact Option.isSome_iff_exists.1 h
theorem same4 (c0 c1 c2 c3 : Int) (w : World) : (Op.equalIn 10000 66 (.agg #[.int .i64 c0, .int .i64 c1, .int .i64 c2, .int .i64 c3]) (.agg #[.int .i64 c0, .int .i64 c1, .int .i64 c2, .int .i64 c3])).run Tryz.prog w = .ok true w := by
  obtain ⟨i, hi⟩ := info_int
  have hc : Tryz.prog.cellsOf 3 = 1 := by kernel_rfl
  rw [show (10000 : Nat) = 9999 + 1 from rfl, run_equalIn_array w 9999 _ _ Tryz.underlying66 hi, hc, show List.range 4 = [0, 1, 2, 3] from rfl]
  simp only [Op.eqItems]
  go_simp
end Go.Proofs.YtaokifbpakbgdaaGreatDoor

/- Package foliolaw on archives: several archives and the document's beside them, in memory. -/
namespace Go.Proofs.YtaokifbpakbgdaaGreatDoor
open Go.RowKit

theorem Good.out {n : Nat} {A : List (List (El (n + 2)))} (h : Good A) (s : By) : Good (outA A s) :=
  ⟨Nat.le_trans (List.length_filter_le _ _) h.1, out_nodup h.2.1 s, fun l hl => h.2.2 l (List.mem_filter.1 hl).1⟩
theorem Good.lay {n : Nat} {A : List (List (El (n + 2)))} {l : List (El (n + 2))} (h : Good A) (hl : errS (n + 2) 0 l = 0) : Good (layA A l) := by
  unfold layA
  by_cases h0 : layE A l = 0
  · rw [if_pos h0]
    have hd : desE l = 0 := by
      unfold layE at h0
      by_cases e : desE l = 0
      · exact e
      · rw [if_pos e] at h0; exact absurd h0 e
    have h48 : (outA A (nm 3 l)).length < 48 := by
      unfold layE at h0
      rw [if_neg (by simp [hd])] at h0
      by_cases e : (outA A (nm 3 l)).any (clash l) = true
      · rw [if_pos e] at h0; cases h0
      · rw [if_neg e] at h0
        by_cases e2 : 48 ≤ (outA A (nm 3 l)).length
        · rw [if_pos e2] at h0; cases h0
        · omega
    have ho := h.out (nm 3 l)
    refine ⟨by rw [List.length_append]; simp; omega, ?_, fun x hx => ?_⟩
    · rw [List.map_append, List.nodup_append]
      refine ⟨ho.2.1, by simp, fun a ha b hb => ?_⟩
      rw [out_keys] at ha
      simp at ha hb
      rw [hb]
      exact ha.2
    · rcases List.mem_append.1 hx with hx | hx
      · exact ho.2.2 x hx
      · rw [List.mem_singleton] at hx
        subst hx
        exact ⟨hl, hd⟩
  · rw [if_neg h0]; exact h
end Go.Proofs.YtaokifbpakbgdaaGreatDoor

/- What the frames of the archives' statements share: the listed variables give what the walks ask; a script that came in. -/
namespace Go.Proofs.YtaokifbpakbgdaaGreatDoor
open Go.ChangeShapes Go.WideShapes Go.ChangeAt Go.RowKit

theorem g_names : Tryz.prog.globalNamed "folio/archive.names" = some 1 := by kernel_rfl
theorem t_names : (Tryz.prog.globals[1]?).map (·.type) = some 66 := by kernel_rfl
theorem cellsA_int : Tryz.prog.cellsOf 3 = 1 := by kernel_rfl
theorem cellsA_str : Tryz.prog.cellsOf 9 = 1 := by kernel_rfl
theorem cellsA_names : Tryz.prog.cellsOf 66 = 4 := by kernel_rfl
theorem list3A {α : Type} {l : List α} (h : l.length = 3) : ∃ a b c, l = [a, b, c] := by
  match l, h with
  | [a, b, c], _ => exact ⟨a, b, c, rfl⟩
theorem list4A {α : Type} {l : List α} (h : l.length = 4) : ∃ a b c d, l = [a, b, c, d] := by
  match l, h with
  | [a, b, c, d], _ => exact ⟨a, b, c, d, rfl⟩
/-- THE LISTED VARIABLES, AND THE WORLD's SHAPE: what the walks ask of the library's variables. -/
theorem varsA_of {W : World} (h : laidMetH Tryz.prog Rows.shelvesRow.laid W) (hsh : W.ShapedOpen Tryz.prog) : Vars W := by
  refine ⟨Tryz.laysM145.s1_3 W hsh, ?_, ?_⟩
  · rw [MakeChecks.laidMetH_plain _ _ _ (by kernel_rfl)] at h
    obtain ⟨ps, ⟨_, _, _, _, _, _, _, _, _, _, ⟨_, _, _, _, _, _, _, _, _, _, ⟨_, _, _, _, _, _, _, _, _, _, ⟨_, _, _, _, _, _, _, _, _, _, ⟨_, _, _, _, _, _, _, _, _, _, ⟨g, t, cs, fuel, p, q, hg, ht, hv, hd, _, _⟩, _⟩, _⟩, _⟩, _⟩, _⟩, _, _⟩ := h
    obtain rfl := Option.some.inj (g_syntax.symm.trans hg)
    obtain rfl := Option.some.inj (t_syntax.symm.trans ht)
    exact iface_cell g_syntax hv hd
  · rw [MakeChecks.laidMetH_plain _ _ _ (by kernel_rfl)] at h
    obtain ⟨ps, ⟨_, _, _, _, _, _, _, _, _, _, ⟨_, _, _, _, _, _, _, _, _, _, ⟨_, _, _, _, _, _, _, _, _, _, ⟨_, _, _, _, _, _, _, _, _, _, ⟨g, t, cs, fuel, p, q, hg, ht, hv, hd, _, _⟩, _⟩, _⟩, _⟩, _⟩, _, _⟩ := h
    obtain rfl := Option.some.inj (g_range.symm.trans hg)
    obtain rfl := Option.some.inj (t_range.symm.trans ht)
    exact iface_cell g_range hv hd
theorem names_trod {W : World} {cs : Array Value} {fuel : Nat} {p : List MemPlace} (hv : W.var? Tryz.prog "folio/archive.names" = some cs) (hd : DataW.trod (fun _ => ()) Tryz.prog W 0 (fun _ => true) false fuel 66 cs.toList = some (Rows.laid_folio_archive_names, p)) : NamesV W := by
  obtain ⟨l⟩ := cs
  have hl : l.length = 4 := by
    obtain ⟨_, _, _, _, hcl, _⟩ := DataW.trod_array Tryz.underlying66 hd
    rw [cellsA_names] at hcl
    exact hcl
  obtain ⟨c0, c1, c2, c3, rfl⟩ := list4A hl
  obtain ⟨y0, y1, y2, y3, n, hx, f0, f1, f2, f3⟩ := trod_array4 Tryz.underlying66 cellsA_int hd
  obtain ⟨z0, e0, rfl, _⟩ := DataW.trod_int Tryz.underlying3 f0
  obtain ⟨z1, e1, rfl, _⟩ := DataW.trod_int Tryz.underlying3 f1
  obtain ⟨z2, e2, rfl, _⟩ := DataW.trod_int Tryz.underlying3 f2
  obtain ⟨z3, e3, rfl, _⟩ := DataW.trod_int Tryz.underlying3 f3
  simp [Rows.laid_folio_archive_names] at hx
  obtain ⟨⟨rfl, rfl, rfl, rfl⟩, _⟩ := hx
  simp at e0 e1 e2 e3
  subst e0; subst e1; subst e2; subst e3
  intro i hi
  have h := World.var?_cell g_names hv i
  rcases (show i = 0 ∨ i = 1 ∨ i = 2 ∨ i = 3 by omega) with rfl | rfl | rfl | rfl <;> simpa [nameT] using h
theorem namesA_of {W : World} (h : laidMetH Tryz.prog Rows.shelvesRow.laid W) : NamesV W := by
  rw [MakeChecks.laidMetH_plain _ _ _ (by kernel_rfl)] at h
  obtain ⟨ps, ⟨_, _, _, _, _, _, _, _, _, _, ⟨_, _, _, _, _, _, _, _, _, _, ⟨_, _, _, _, _, _, _, _, _, _, ⟨_, _, _, _, _, _, _, _, _, _, ⟨_, _, _, _, _, _, _, _, _, _, ⟨_, _, _, _, _, _, _, _, _, _, ⟨_, _, _, _, _, _, _, _, _, _, ⟨g, t, cs, fuel, p, q, hg, ht, hv, hd, _, _⟩, _⟩, _⟩, _⟩, _⟩, _⟩, _⟩, _⟩, _, _⟩ := h
  obtain rfl := Option.some.inj (g_names.symm.trans hg)
  obtain rfl := Option.some.inj (t_names.symm.trans ht)
  exact names_trod hv hd
set_option maxRecDepth 100000 in
theorem laidA_met (os : Os) (args : Array Value) : laidMet Tryz.prog Rows.shelvesRow.laid ((World.laidAll Tryz.prog os Rows.shelvesRow.laid).forCall (fun _ _ => 0) ⟨#[], args, []⟩).memory :=
  laidMet_laidAll _ (by kernel_rfl) (by kernel_rfl)
set_option maxRecDepth 100000 in
theorem laidA_shaped (os : Os) (args : Array Value) : ((World.laidAll Tryz.prog os Rows.shelvesRow.laid).forCall (fun _ _ => 0) ⟨#[], args, []⟩).Shaped Tryz.checked.prog :=
  World.shaped_of_ZipB (by kernel_rfl) (by kernel_rfl)
end Go.Proofs.YtaokifbpakbgdaaGreatDoor

/- Package folioref on archives: plain. -/
namespace Go.Proofs.YtaokifbpakbgdaaGreatDoor
open Go.RowKit

/-- A byte that asks for more than one value. -/
def wildB (c : UInt8) : Bool := decide (c.toNat = 42) || decide (c.toNat = 63)
/-- A value, and no pattern. -/
def plainV (k s : By) : Bool := !s.any wildB && (decide (s ≠ []) && decide (chk k s = 0))
end Go.Proofs.YtaokifbpakbgdaaGreatDoor

/- Package folioref on archives: decimal (of what is below 100). -/
namespace Go.Proofs.YtaokifbpakbgdaaGreatDoor
open Go.RowKit

/-- A digit; a number of two digits at most. -/
def digB (n : Nat) : UInt8 := 48 + UInt8.ofNat (n % 10)
def decB (n : Nat) : By := if n < 10 then [digB n] else [digB (n / 10), digB n]
end Go.Proofs.YtaokifbpakbgdaaGreatDoor

/- Package folioref on archives: level. -/
namespace Go.Proofs.YtaokifbpakbgdaaGreatDoor
open Go.RowKit

/-- The first of these levels that has this word; -1: none. -/
def lvI (m : Bool) (s : By) : List Nat → Int
  | [] => -1
  | i :: r => if m = true ∧ s = wordL i then i else lvI m s r
def levO {n : Nat} (l : List (El (n + 1))) : Int := match findE l 524370 with
  | none => -1
  | some x => lvI (decide (x.2.1 = [67, 83])) x.2.2.1 [0, 1, 2, 3]
theorem lvI_false (s : By) : ∀ r, lvI false s r = -1
  | [] => rfl
  | _ :: r => by rw [lvI, if_neg (by simp), lvI_false s r]
theorem drop4 {k : Nat} (h : k < 4) : [0, 1, 2, 3].drop k = k :: [0, 1, 2, 3].drop (k + 1) := by
  rcases (show k = 0 ∨ k = 1 ∨ k = 2 ∨ k = 3 by omega) with rfl | rfl | rfl | rfl <;> rfl
end Go.Proofs.YtaokifbpakbgdaaGreatDoor

/- A pattern made of a text fits it, and not with a byte more behind it (no program). -/
namespace Go.Proofs.YtaokifbpakbgdaaGreatDoor
open Go.RowKit

def alphabet : Bs := [97, 98, 99, 65, 66, 67, 32, 120, 94, 49]
/-- Letters, and a z at the end. -/
def Lettered (l : Bs) : Prop := ∃ V : Bs, l = V ++ [122] ∧ V.length ≤ 40 ∧ ∀ c ∈ V, c ∈ alphabet
theorem of_fin (p : UInt8 → Bool) (h : ∀ n : Fin 256, p (UInt8.ofNat n.val) = true) (c : UInt8) : p c = true := by
  have := h ⟨c.toNat, UInt8.toNat_lt c⟩
  simpa using this
/- What Match answers of a pattern that is made of letters. -/
theorem alpha_text (c : UInt8) (h : c ∈ alphabet ∨ c = 122 ∨ c = 42 ∨ c = 63 ∨ c = 49) : textC c = true ∧ textC (Lib.lowerB c) = true := by
  have := of_fin (fun c => !decide (c ∈ alphabet ∨ c = 122 ∨ c = 42 ∨ c = 63 ∨ c = 49) || (textC c && textC (Lib.lowerB c))) (by decide +kernel) c
  simpa [h] using this
theorem lettered_mem {l : Bs} (h : Lettered l) : ∀ c ∈ l, c ∈ alphabet ∨ c = 122 := by
  obtain ⟨V, rfl, _, hV⟩ := h
  intro c hc
  rw [List.mem_append] at hc
  rcases hc with hc | hc
  · exact Or.inl (hV c hc)
  · exact Or.inr (by simpa using hc)
theorem lettered_len {l : Bs} (h : Lettered l) : 1 ≤ l.length ∧ l.length ≤ 41 := by
  obtain ⟨V, rfl, hl, _⟩ := h
  simp; omega
theorem lettered_last {l : Bs} (h : Lettered l) : l.getLast? = some 122 := by
  obtain ⟨V, rfl, _, _⟩ := h; simp
theorem lettered_txt {l : Bs} (h : Lettered l) : txtB l = true := by
  have hl := lettered_len h
  have hne : ¬ l = [] := fun e => by rw [e] at hl; simp at hl
  have ht : isTextB l = true := by
    unfold isTextB
    rw [decide_eq_true (by omega), Bool.true_and, List.all_eq_true]
    intro c hc
    exact (alpha_text c (by rcases lettered_mem h c hc with h | h <;> simp [h])).1
  unfold txtB
  rw [ht, lettered_last h]
  simp [hne]
theorem chk_LO {l : Bs} (h : Lettered l) : chk [76, 79] l = 0 := by
  have e : chkF [76, 79] l = 0 := by
    show (if txtB l then (0 : Int) else 6) = 0
    rw [lettered_txt h]; rfl
  unfold chk; rw [if_neg (by rw [e]; omega), e]
theorem chk_PN {l : Bs} (h : Lettered l) : chk [80, 78] l = if l.count 94 ≤ 4 then 0 else 6 := by
  have hl := lettered_len h
  have hne : ¬ l = [] := fun e => by rw [e] at hl; simp at hl
  have e : chkF [80, 78] l = if l.count 94 ≤ 4 then 0 else 6 := by
    show (if decide (l.count 94 ≤ 4) && txtB l then (0 : Int) else 6) = _
    rw [lettered_txt h, Bool.and_true]
    by_cases hc : l.count 94 ≤ 4 <;> simp [hc]
  unfold chk; rw [if_neg (fun c => hne c.2), e]
end Go.Proofs.YtaokifbpakbgdaaGreatDoor

/- Package archive, queries: rowOf, elementOf, checkPattern, checkKeyInParts. -/
namespace Go.Proofs.YtaokifbpakbgdaaGreatDoor
open Go.RowKit

/-- The highest level on which a tag can be asked for; 4: on none. -/
def rowT (t : Int) : Nat :=
  if t = 524370 ∨ t = 1048608 ∨ t = 1048592 ∨ t = 1048624 ∨ t = 2101760 then 0
  else if t = 2097165 ∨ t = 524320 ∨ t = 524336 ∨ t = 524368 ∨ t = 2101766 then 1
  else if t = 2097166 ∨ t = 524384 ∨ t = 2097169 ∨ t = 2101769 then 2
  else if t = 524312 ∨ t = 2097171 ∨ t = 533016 then 3
  else 4
theorem rowOf_any (w : World) (t : Int) : Calls Tryz.prog 175 #[.int .i64 t] w fun e w' => e = .returned (.int .i64 (rowT t)) ∧ w' = w := by
  go_enter Tryz.func175, Tryz.ntmps175
  go_wp2
  all_goals go_ret
  all_goals refine ⟨?_, rfl⟩
  all_goals simp_all [rowT]
/-- How the look for a tag ends, as the program has it. -/
def ElEnd (n : Nat) (F : Nat → Prop) (w : World) (l : List (El (n + 1))) (t : Int) (e : Ending) (w' : World) : Prop := Below w.heap.size w w' ∧
  ((findE l t = none ∧ e = .returned zeroE) ∨ ∃ x iv, findE l t = some x ∧ e = .returned (elV x iv) ∧ RdI w F n iv x.2.2.2)
set_option maxRecDepth 20000 in
theorem elementOf_any (n : Nat) (F : Nat → Prop) (w : World) (v : Value) (l : List (El (n + 1))) (t : Int) (h : Rd w F (n + 1) v l) (hl : l.length ≤ 24) :
    Calls Tryz.prog 109 #[v, .int .i64 t] w (ElEnd n F w l t) := by
  obtain ⟨ad, cap, rfl⟩ := h.slice
  go_enter Tryz.func109, Tryz.ntmps109
  go_wp2_with fail
  go_loopw [9] (fun i wr => ∃ k : Nat, k ≤ l.length ∧ i = .int .i64 k ∧ Hid (Four wr w.heap.size (.int .i64 0) (.string ⟨#[]⟩) (.string ⟨#[]⟩) (.slice none 0 0)) ∧ Hid (Below w.heap.size w wr) ∧ Hid (findE l t = findE (l.drop k) t)) (fun i _ => l.length - (intOf i).toNat)
  case atStart => exact ⟨0, Nat.zero_le _, rfl, Four.new w _ _ _ _, Below.alloc (Below.refl _ _) (Nat.le_refl _) _, rfl⟩
  case round =>
    obtain ⟨k, hk, rfl, hR, hU, hsp⟩ := hrel
    by_cases hkl : k < l.length
    · have hrd' := hid (h.at (List.getElem?_eq_getElem hkl))
      obtain ⟨a, ad2, cap2, rfl, _, d0, d1, d2, d3, hrd⟩ := hrd'.out
      have c0 := hU.out.cell (World.block_lt_of_cell? _ _ d0) |>.trans d0
      have c1 := hU.out.cell (World.block_lt_of_cell? _ _ d1) |>.trans d1
      have c2 := hU.out.cell (World.block_lt_of_cell? _ _ d2) |>.trans d2
      have c3 := hU.out.cell (World.block_lt_of_cell? _ _ d3) |>.trans d3
      have hrd2 := hid hrd
      have hst := hid (findE_drop hkl t)
      clear hrd hrd' d0 d1 d2 d3
      generalize l[k] = x at c0 c1 c2 c3 hrd2 hst
      have hX := (Four.new wr (.int .i64 x.1) (.string (bs x.2.1)) (.string (bs x.2.2.1)) (.slice ad2 x.2.2.2.length cap2)).cells
      obtain ⟨⟨x0, x1, x2, x3⟩, _⟩ := hX
      have U1 := hid (Below.alloc hU.out hU.out.size (.cells #[.int .i64 x.1, .string (bs x.2.1), .string (bs x.2.2.1), .slice ad2 x.2.2.2.length cap2] 73))
      have R1 := hid (hR.out.keep (Below.heap_alloc wr (.cells #[.int .i64 x.1, .string (bs x.2.1), .string (bs x.2.2.1), .slice ad2 x.2.2.2.length cap2] 73) _ (by have := hR.out.lt; omega)))
      obtain ⟨⟨r0, r1, r2, r3⟩, s0, s1, s2, s3⟩ := R1.out.cells
      by_cases ht : x.1 = t
      · have hd : (x.1 == t) = true := by simpa using ht
        have hF := hid (show findE l t = some x by rw [hsp.out, hst.out, if_pos ht])
        clear ht
        go_wp2
        (try simp only [Exit.inBlock, Exit.then])
        refine bodyPost_ret (v := elV x (.slice ad2 x.2.2.2.length cap2)) (by simp [results, Tryz.results109, go_sem, r0, r1, r2, r3, elV]) rfl ?_
        exact ⟨(((U1.out.setCell (Nat.le_refl _) _).setCell (Nat.le_refl _) _).setCell (Nat.le_refl _) _).setCell (Nat.le_refl _) _, Or.inr ⟨x, _, hF.out, rfl, hrd2.out⟩⟩
      · have hd : (x.1 == t) = false := by simpa using ht
        have hF := hid (show findE l t = findE (l.drop (k + 1)) t by rw [hsp.out, hst.out, if_neg ht])
        clear ht
        go_wp2
        go_roundw
        case rel => exact ⟨k + 1, by omega, by go_num, R1, U1, hF⟩
        case measure => simp [intOf]; omega
    · have hF := hid (show findE l t = none by rw [hsp.out, List.drop_eq_nil_of_le (by omega)]; rfl)
      obtain ⟨⟨r0, r1, r2, r3⟩, s0, s1, s2, s3⟩ := hR.out.cells
      go_wp2
      (try simp only [Exit.inBlock, Exit.then])
      refine bodyPost_ret (v := zeroE) (by simp [results, Tryz.results109, go_sem, r0, r1, r2, r3, zeroE]) rfl ?_
      exact ⟨(((hU.out.setCell (Nat.le_refl _) _).setCell (Nat.le_refl _) _).setCell (Nat.le_refl _) _).setCell (Nat.le_refl _) _, Or.inl ⟨hF.out, rfl⟩⟩
/-- What is wrong with a pattern of a kind. -/
def patE {n : Nat} (x : El (n + 1)) (k : By) : Int := if x.2.1 ≠ k then 2 else matchE k x.2.2.1 []
set_option maxRecDepth 20000 in
theorem checkPattern_any {n : Nat} (x : El (n + 1)) (ad : Option Addr) (m c : Nat) (k : By) (w : World) (hp : x.2.2.1.length ≤ 64) (hv : Vars w) :
    Calls Tryz.prog 177 #[.agg #[.int .i64 x.1, .string (bs x.2.1), .string (bs x.2.2.1), .slice ad m c], .string (bs k)] w fun e w' => e = .returned (.int .i64 (patE x k)) ∧ Below w.heap.size w w' := by
  have C := hid (fun (W : World) (hW : Vars W) => Match_any (bs k) (bs x.2.2.1) ⟨#[]⟩ W (by rw [bs_size]; omega) (by decide) hW)
  have V := hid hv
  have x1 := bs_toList x.2.1
  have x2 := bs_toList k
  have hE := hid (show matchE (bs k).data.toList (bs x.2.2.1).data.toList (⟨#[]⟩ : ByteArray).data.toList = matchE k x.2.2.1 [] from rfl)
  have hP := hid (show patE x k = if x.2.1 ≠ k then 2 else matchE k x.2.2.1 [] from rfl)
  clear hv
  generalize patE x k = pe at hP ⊢
  generalize hkd : x.2.1 = kd at x1 hP ⊢
  clear hkd
  by_cases hk : kd = k
  · subst hk
    have hF := hid (hP.out.trans (if_neg (fun h => h rfl)))
    clear hP
    go_enter Tryz.func177, Tryz.ntmps177
    go_wp2_with fail
    go_at_call 12
    refine (C.out _ (Vars.up V.out (Below.alloc (Below.refl _ _) (Nat.le_refl _) _))).mono ?_
    rintro e w1 ⟨rfl, u1⟩
    have U := hid ((Below.alloc (Below.refl _ _) (Nat.le_refl _) _).trans (Below.mono u1 (by simp)))
    clear u1 C
    rw [hE.out, ← hF.out]
    clear hF hE
    generalize matchV _ _ _ = vv
    go_wp2
    go_ret
    exact ⟨rfl, U.out⟩
  · have hF := hid (hP.out.trans (if_pos hk))
    have hb : (kd == k) = false := beq_eq_false_iff_ne.2 hk
    clear hP hk hE C
    go_enter Tryz.func177, Tryz.ntmps177
    go_wp2
    go_ret
    rw [hF.out]
    exact ⟨rfl, Below.alloc (Below.refl _ _) (Nat.le_refl _) _⟩
/-- What is wrong with a key in parts. -/
def kipE {n : Nat} (x : El (n + 1)) : Int := if isWord x.1 = true then patE x LO else 11
set_option maxRecDepth 20000 in
theorem checkKeyInParts_any {n : Nat} (x : El (n + 1)) (ad : Option Addr) (m c : Nat) (w : World) (hp : x.2.2.1.length ≤ 64) (hv : Vars w) :
    Calls Tryz.prog 229 #[.agg #[.int .i64 x.1, .string (bs x.2.1), .string (bs x.2.2.1), .slice ad m c]] w fun e w' => e = .returned (.int .i64 (kipE x)) ∧ Below w.heap.size w w' := by
  have C := hid (fun (W : World) (hW : Vars W) => checkPattern_any x ad m c LO W hp hW)
  have V := hid hv
  have hP := hid (show kipE x = if isWord x.1 = true then patE x LO else 11 from rfl)
  clear hv
  go_enter Tryz.func229, Tryz.ntmps229
  go_wp2_with fail
  go_at_call 260
  refine (isInParts_any _ x.1).mono ?_
  rintro e w1 ⟨rfl, rfl⟩
  generalize hw : isWord x.1 = b at hP ⊢
  clear hw
  cases b
  · go_wp2
    go_ret
    rw [hP.out]
    exact ⟨rfl, Below.alloc (Below.refl _ _) (Nat.le_refl _) _⟩
  · go_wp2_with fail
    go_at_call 177
    refine (C.out _ (Vars.up V.out (Below.alloc (Below.refl _ _) (Nat.le_refl _) _))).mono ?_
    rintro e w1 ⟨rfl, u1⟩
    have U := hid ((Below.alloc (Below.refl _ _) (Nat.le_refl _) _).trans (Below.mono u1 (by simp)))
    clear u1 C
    have hF := hid (hP.out.trans (if_pos trivial))
    rw [← hF.out]
    go_wp2
    go_ret
    exact ⟨rfl, U.out⟩
end Go.Proofs.YtaokifbpakbgdaaGreatDoor

/- Package archive, queries: levelOf, checkAskedParts, checkKey. -/
namespace Go.Proofs.YtaokifbpakbgdaaGreatDoor
open Go.RowKit

/-- The words of the levels lie there. -/
def LevelsV (w : World) : Prop := ∀ i, i < 4 → w.cell? ⟨0, i, none⟩ = some (.string (bs (wordL i)))
theorem LevelsV.up {w w' : World} (h : LevelsV w) (k : Below w.heap.size w w') : LevelsV w' := fun i hi => (k.cell (World.block_lt_of_cell? _ _ (h i hi))).trans (h i hi)
abbrev levsV : Value := .agg #[.string ⟨#[80, 65, 84, 73, 69, 78, 84]⟩, .string ⟨#[83, 84, 85, 68, 89]⟩, .string ⟨#[83, 69, 82, 73, 69, 83]⟩, .string ⟨#[73, 77, 65, 71, 69]⟩]
set_option maxRecDepth 20000 in
set_option maxHeartbeats 2000000 in
theorem levelOf_any (n : Nat) (F : Nat → Prop) (w : World) (v : Value) (l : List (El (n + 1))) (h : Rd w F (n + 1) v l) (hl : l.length ≤ 24) (hL : LevelsV w) :
    Calls Tryz.prog 60 #[v] w fun e w' => e = .returned (.int .i64 (levO l)) ∧ Below w.heap.size w w' := by
  obtain ⟨ad, cap, rfl⟩ := h.slice
  have H := hid h
  have HL := hid hL
  clear h hL
  go_enter Tryz.func60, Tryz.ntmps60
  go_wp2_with fail
  go_at_call 109
  refine (elementOf_any n F w _ l 524370 H.out hl).mono ?_
  rintro e w1 ⟨u1, hf⟩
  have hx : ∃ (t : Int) (kd vl : By) (iv : Value), e = .returned (.agg #[.int .i64 t, .string (bs kd), .string (bs vl), iv]) ∧ Hid (levO l = lvI (decide (kd = [67, 83])) vl [0, 1, 2, 3]) ∧ ∃ ad2 n2 cap2, iv = .slice ad2 n2 cap2 := by
    rcases hf with ⟨h1, h2⟩ | ⟨x, iv, h1, h2, h3⟩
    · exact ⟨0, [], [], .slice none 0 0, h2, by unfold Hid levO; rw [h1, decide_eq_false (by decide), lvI_false], _, _, _, rfl⟩
    · obtain ⟨ad2, cap2, h4⟩ := h3.slice
      exact ⟨x.1, x.2.1, x.2.2.1, iv, h2, by unfold Hid levO; rw [h1], _, _, _, h4⟩
  obtain ⟨t, kd, vl, iv, rfl, hL, ad2, n2, cap2, rfl⟩ := hx
  have U1 := hid (Below.alloc u1 u1.size (.cells #[.int .i64 t, .string (bs kd), .string (bs vl), .slice ad2 n2 cap2] 73))
  have hX := (Four.new w1 (.int .i64 t) (.string (bs kd)) (.string (bs vl)) (.slice ad2 n2 cap2)).cells
  obtain ⟨⟨x0, x1, x2, x3⟩, _⟩ := hX
  have HG := HL.out.up U1.out
  have n0 : (w1.alloc (.cells #[.int .i64 t, .string (bs kd), .string (bs vl), .slice ad2 n2 cap2] 73)).cell? ⟨0, 0, none⟩ = some (.string ⟨#[80, 65, 84, 73, 69, 78, 84]⟩) := HG 0 (by omega)
  have n1 : (w1.alloc (.cells #[.int .i64 t, .string (bs kd), .string (bs vl), .slice ad2 n2 cap2] 73)).cell? ⟨0, 1, none⟩ = some (.string ⟨#[83, 84, 85, 68, 89]⟩) := HG 1 (by omega)
  have n2' : (w1.alloc (.cells #[.int .i64 t, .string (bs kd), .string (bs vl), .slice ad2 n2 cap2] 73)).cell? ⟨0, 2, none⟩ = some (.string ⟨#[83, 69, 82, 73, 69, 83]⟩) := HG 2 (by omega)
  have n3 : (w1.alloc (.cells #[.int .i64 t, .string (bs kd), .string (bs vl), .slice ad2 n2 cap2] 73)).cell? ⟨0, 3, none⟩ = some (.string ⟨#[73, 77, 65, 71, 69]⟩) := HG 3 (by omega)
  clear hf u1 H HL HG
  go_wp2_with fail
  generalize (w1.alloc (.cells #[.int .i64 t, .string (bs kd), .string (bs vl), .slice ad2 n2 cap2] 73)) = W at *
  go_loop [9] (fun i => ∃ k : Nat, k ≤ 4 ∧ i = .int .i64 k ∧ Hid (levO l = lvI (decide (kd = [67, 83])) vl ([0, 1, 2, 3].drop k))) (fun i => 4 - (intOf i).toNat)
  case atStart => exact ⟨0, by omega, rfl, hL⟩
  case round =>
    obtain ⟨k, hk, rfl, hE⟩ := hrel
    by_cases hkl : k < 4
    · have hix : (Instr.index 58 levsV (.int .i64 k)).run Tryz.prog W = .ok (.string (bs (wordL k))) W := by
        rcases (show k = 0 ∨ k = 1 ∨ k = 2 ∨ k = 3 by omega) with rfl | rfl | rfl | rfl <;> kernel_rfl
      have hE2 := hid (show levO l = if (decide (kd = [67, 83])) = true ∧ vl = wordL k then (k : Int) else lvI (decide (kd = [67, 83])) vl ([0, 1, 2, 3].drop (k + 1)) by rw [hE.out, drop4 hkl, lvI])
      clear hE
      have y1 := bs_toList kd
      have y2 := bs_toList vl
      have y3 := bs_toList (wordL k)
      generalize hw : wordL k = wd at hix y3 hE2
      clear hw
      by_cases hkd : kd = [67, 83]
      · by_cases hv : vl = wd
        · have hF := hid (hE2.out.trans (if_pos ⟨by simp [hkd], hv⟩))
          clear hE2
          subst hkd; subst hv
          go_wp2
          go_ret
          rw [hF.out]
          exact ⟨rfl, U1.out⟩
        · have hF := hid (hE2.out.trans (if_neg (fun h => hv h.2)))
          have hv2 : (vl == wd) = false := beq_eq_false_iff_ne.2 hv
          clear hE2
          subst hkd
          go_wp2
          go_round
          case rel => exact ⟨k + 1, by omega, by go_num, hF⟩
          case measure => simp [intOf]; omega
      · have hF := hid (hE2.out.trans (if_neg (fun h => hkd (by simpa using h.1))))
        have hk2 : (kd == [67, 83]) = false := beq_eq_false_iff_ne.2 hkd
        clear hE2
        go_wp2
        go_round
        case rel => exact ⟨k + 1, by omega, by go_num, hF⟩
        case measure => simp [intOf]; omega
    · obtain rfl : k = 4 := by omega
      have hF := hid (show levO l = -1 from hE.out)
      clear hE
      go_wp2
      go_ret
      rw [hF.out]
      exact ⟨rfl, U1.out⟩
end Go.Proofs.YtaokifbpakbgdaaGreatDoor

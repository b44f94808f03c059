/-
  Package archive: byName, over whatever iterator of pictures; on.
-/
import Derived.Test.YtaokifbpakbgdaaGreatDoorArB0
import Derived.Shelf.RegionOpen
import Derived.Sort.QuietIn
namespace Go.Proofs.YtaokifbpakbgdaaGreatDoor
open Go.RowKit Go.Maps Go.Shelf
attribute [local go_sem] Oper.semAt_some

theorem mapsValues_any (w : World) (mb : Option Nat) : Calls Tryz.prog 172 #[.map mb] w fun e w' => e = .returned (.func (.func 226) #[] #[.pointer (some ⟨w.heap.size, 0, none⟩)]) ∧ w' = w.alloc (.cells #[.map mb] 122) := by
  go_enter Tryz.func172, Tryz.ntmps172
  go_wp2
  go_ret
  exact ⟨rfl, rfl⟩
/-- What lies between two rounds. -/
def ByI {n : Nat} {A : List (List (El (n + 2)))} (w : World) (lvl : Nat) (pd : List (El (n + 2)) → Nat × Int) (pre : List (Of A)) (W : World) : Prop :=
  (Boxed W w.heap.size 3 (.int .i64 lvl) ∧ Boxed W (w.heap.size + 1 + 1) 136 (.map (some (w.heap.size + 1))) ∧ ∃ f vs, Grps W (w.heap.size + 3) (w.heap.size + 1) lvl pd pre f vs) ∧ Below w.heap.size w W
theorem ByI.own {n : Nat} {A : List (List (El (n + 2)))} (w : World) (lvl : Nat) (pd : List (El (n + 2)) → Nat × Int) : OwnFrom (w.heap.size + 3) (ByI (A := A) w lvl pd) := by
  intro s W W' row hs hg hr
  obtain ⟨⟨h1, h2, f, vs, h3⟩, h4⟩ := hs
  have hne : ∀ (j : Nat) (o : Obj), W.heap[j]? = some o → o.isCells = true → W'.heap[j]? = some o := fun j o ho hc => by
    rw [hg.block j (Array.getElem?_eq_some_iff.1 ho).1 (fun e => ?_), ho]
    obtain ⟨_, o2, h5, h6⟩ := hr j e.symm
    rw [ho] at h5
    cases h5
    rw [hc] at h6
    cases h6
  have hlow : ∀ j, j < w.heap.size + 3 → j < W.heap.size → W'.heap[j]? = W.heap[j]? := fun j hj hl => hg.block j hl (fun e => by have := (hr j e.symm).1; omega)
  refine ⟨⟨hne _ _ h1 rfl, hne _ _ h2 rfl, f, vs, h3.keep (hlow _ (by omega) h3.1.lt) (fun j o _ => hne j o)⟩, ⟨hg.os.trans h4.os, hg.tape.trans h4.tape, hg.output.trans h4.output, Nat.le_trans h4.size hg.size, fun j hj => (hlow j (by omega) (Nat.lt_of_lt_of_le hj h4.size)).trans (h4.block j hj)⟩⟩
/-- A picture's variable. -/
def Pic2 (W : World) (B d : Nat) (t : Int) : Prop := W.heap[B]? = some (.cells #[.map (some d), .int .i64 t] 131 (0, 0))
theorem Pic2.cells {W : World} {B d : Nat} {t : Int} (h : Pic2 W B d t) : W.cell? ⟨B, 0, none⟩ = some (.map (some d)) ∧ W.cell? ⟨B, 1, none⟩ = some (.int .i64 t) := by
  unfold Pic2 at h
  simp [World.cell?, h]
set_option maxRecDepth 100000 in
set_option maxHeartbeats 4000000 in
theorem byName_any {n : Nat} (A : List (List (El (n + 2)))) (pd : List (El (n + 2)) → Nat × Int) (F : Nat → Prop) (w : World) (gf : Nat) (lb : Array Value) (lvl : Nat) (hlv : lvl < 4) (S : List (Of A) → Prop) (N : Nat) (hN : N ≤ 48)
    (eg : ∀ args w, (callFunc gf args).run Tryz.prog w = .ok (.enter gf args) w)
    (hseq : ∀ W0, Below w.heap.size w W0 → W0.heap.size = w.heap.size + 3 → SeqStopsK Fence.wide 8 Tryz.prog gf lb (encP (A := A) pd) (KeepsBut (w.heap.size + 1)) S (fun _ => True) N W0)
    (hD : ∀ l ∈ A, DMk w F (n + 1) (pd l).1 24 (descG l)) (hs : ∀ l ∈ A, (nm lvl l).length ≤ 64) (hV : NamesV w) :
    Calls Tryz.prog 171 #[.func (.func gf) #[] lb, .int .i64 lvl] w fun e W' => e = .returned (.map (some (w.heap.size + 1))) ∧ Below w.heap.size w W' ∧ ∃ xs f vs, S xs ∧ Grps W' (w.heap.size + 3) (w.heap.size + 1) lvl pd xs f vs := by
  refine (callsIn_wide (n := 9)).1 ?_
  have hmm := @run_makeMap Tryz.prog
  have h1 : 1 ≤ 9 := by omega
  refine callsIn_of_wp_marks Tryz.func171 rfl trivial ?_ rfl
  simp only [Tryz.ntmps171, List.size_toArray, List.length_cons, List.length_nil, Nat.reduceAdd, Nat.reduceSub, Array.replicate_succ, Array.replicate_zero, List.push_toArray, List.append_toArray, List.nil_append, List.cons_append]
  gi_wp2
  have hB0 : Below w.heap.size w (((w.alloc (.cells #[.int .i64 lvl] 3)).alloc (.map #[] 0)).alloc (.cells #[.map (some (w.heap.size + 1))] 136)) := (((Below.refl _ w).alloc (Nat.le_refl _) _).alloc (by simp) _).alloc (by simp; omega) _
  have hsz : (((w.alloc (.cells #[.int .i64 lvl] 3)).alloc (.map #[] 0)).alloc (.cells #[.map (some (w.heap.size + 1))] 136)).heap.size = w.heap.size + 3 := by simp
  have hI0 : ByI (A := A) w lvl pd [] (((w.alloc (.cells #[.int .i64 lvl] 3)).alloc (.map #[] 0)).alloc (.cells #[.map (some (w.heap.size + 1))] 136)) := by
    have hm := MapF.made (w.alloc (.cells #[.int .i64 lvl] 3)) Tryz.prog 9
    rw [World.size_alloc] at hm
    refine ⟨⟨?_, ?_, fun _ => none, fun _ => .slice none 0 0, hm.kept (Below.heap_alloc _ _ _ (by simp)), fun s _ => rfl, fun s hs => absurd rfl hs, fun s t hs _ _ => absurd rfl hs, fun k hk => by cases hk⟩, hB0⟩
    · exact (Below.heap_alloc _ _ _ (by simp; omega)).trans ((Below.heap_alloc _ _ _ (by simp)).trans (heap_alloc_new _ _))
    · have := heap_alloc_new ((w.alloc (.cells #[.int .i64 lvl] 3)).alloc (.map #[] 0)) (.cells #[.map (some (w.heap.size + 1))] 136)
      simp only [World.size_alloc] at this
      exact this
  obtain ⟨W0, hW0⟩ : ∃ W0, ((w.alloc (.cells #[.int .i64 lvl] 3)).alloc (.map #[] 0)).alloc (.cells #[.map (some (w.heap.size + 1))] 136) = W0 := ⟨_, rfl⟩
  rw [hW0] at hB0 hsz hI0 ⊢
  clear hW0
  refine wpIn_rangeFunc_ownH rfl h1 (gf := gf) (lb := lb) rfl trivial eg (hseq W0 hB0 hsz) KeepsBut.trans KeepsBut.book (Below.refl _ _) (fun _ => rfl)
    (ByI w lvl pd) (fun _ _ _ => False) (by rw [hsz]; exact ByI.own w lvl pd) (fun _ _ _ _ _ hs _ _ => hs) hI0
    (fun x a' W => ∃ Bx, w.heap.size + 3 ≤ Bx ∧ Pic2 W Bx (pd x.1).1 (pd x.1).2 ∧ a' = { tmps := #[.func (.func gf) #[] lb, .int .i64 lvl, undef, .pointer (some ⟨w.heap.size, 0, none⟩), .map none, .pointer (some ⟨w.heap.size + 1 + 1, 0, none⟩), .pointer (some ⟨Bx, 0, none⟩), undef, .map (some (w.heap.size + 1)), .func (.func gf) #[] lb, picV (pd x.1).1 (pd x.1).2, undef, undef, undef, undef, undef, undef, undef, undef, undef, undef, undef, undef, undef, undef, undef], defers := [] })
    (fun x a' _ X Y row hs hg hr => by
      obtain ⟨Bx, h1, h2, h3⟩ := hs
      refine ⟨Bx, h1, ?_, h3⟩
      unfold Pic2 at h2 ⊢
      rw [hg.block Bx (Array.getElem?_eq_some_iff.1 h2).1 (fun e => ?_), h2]
      obtain ⟨_, o2, h5, h6⟩ := hr Bx e.symm
      rw [h2] at h5
      cases h5
      cases h6)
    ?assign ?body ?done ?stop
  case assign =>
    rintro l pre x W K ⟨⟨b1, b2, f, vs, hG⟩, hB⟩ hK
    have hsW := hB.size
    gi_wp2
    have ho : ∀ j o, W.heap[j]? = some o → (W.alloc (.cells #[.map (some (pd x.1).1), .int .i64 (pd x.1).2] 131)).heap[j]? = some o := fun j o h => (Below.heap_alloc _ _ _ (Array.getElem?_eq_some_iff.1 h).1).trans h
    have hnb := hG.1.lt
    exact hK _ _ ((KeepsOthers.alloc _ _).from _) ⟨by simp, fun k o _ h _ => ho k o h⟩ ⟨⟨ho _ _ b1, ho _ _ b2, f, vs, hG.keep (Below.heap_alloc _ _ _ hnb) (fun j o _ h _ => ho j o h)⟩, hB.alloc hB.size _⟩ ⟨W.heap.size, by have := (Array.getElem?_eq_some_iff.1 b2).1; omega, heap_alloc_new _ _, rfl⟩
  case body =>
    rintro l pre x a' W hl ⟨r, hr⟩ ⟨⟨b1, b2, f, vs, hG⟩, hB⟩ ⟨Bx, hBx, bX, rfl⟩ hlt
    have c1 := b1.cell
    have c2 := b2.cell
    obtain ⟨c3, c4⟩ := bX.cells
    have c5 := (hV.up hB) lvl hlv
    have hDW := hid ((hD x.1 x.2).up hB)
    have hvv := hid (valG_desc x.1 lvl)
    have hsx := hs x.1 x.2
    have hlv2 : ((lvl : Nat) : Int) < 4 := by omega
    have hmx : Tryz.prog.follows .mixedOrders = true := by kernel_rfl
    gi_wp2
    have hw97 : Fence.wide.fn 97 := trivial
    have cv : ∀ k, CallsIn Fence.wide k Tryz.prog 97 #[.map (some (pd x.1).1), .int .i64 (nameT lvl)] W.drew fun e w' => e = .returned (.string (bs (nm lvl x.1))) ∧ w' = W.drew := fun k => callsIn_wide.2 (by
      have := dvalue_any W.drew F (n + 1) (pd x.1).1 24 (descG x.1) (nameT lvl) (hDW.out.keep rfl (fun _ h => h) (fun _ _ _ => rfl)) (nameT_bd lvl)
      rw [hvv.out] at this
      exact this)
    refine wpIn_mono (Q := fun e a w' => e = Exit.normal ∧ a = { tmps := #[.func (.func gf) #[] lb, .int .i64 lvl, undef, .pointer (some ⟨w.heap.size, 0, none⟩), .map none, .pointer (some ⟨w.heap.size + 1 + 1, 0, none⟩), .pointer (some ⟨Bx, 0, none⟩), .string (bs (nm lvl x.1)), .map (some (w.heap.size + 1)), .func (.func gf) #[] lb, picV (pd x.1).1 (pd x.1).2, .pointer (some ⟨Bx, 0, none⟩), .map (some (pd x.1).1), .int .i64 lvl, .pointer (some ⟨1, lvl, none⟩), .int .i64 (nameT lvl), .string (bs (nm lvl x.1)), undef, undef, undef, undef, undef, undef, undef, undef, undef], defers := [] } ∧ w' = W.drew) ?_ ?_
    · gi_region_with_o (gi_at_call 97; refine (CallsIn.inRound l (cv _)).mono ?_; rintro e w' ⟨rfl, rfl⟩)
      all_goals exact ⟨rfl, rfl, rfl⟩
    rintro e a2 w2 ⟨rfl, rfl, rfl⟩
    clear cv hmx hw97
    have d1 : W.drew.cell? ⟨w.heap.size + 1 + 1, 0, none⟩ = some (.map (some (w.heap.size + 1))) := c2
    have d2 : W.drew.cell? ⟨Bx, 0, none⟩ = some (.map (some (pd x.1).1)) := c3
    have d3 : W.drew.cell? ⟨Bx, 1, none⟩ = some (.int .i64 (pd x.1).2) := c4
    have hGa : Grps W.drew (w.heap.size + 3) (w.heap.size + 1) lvl pd pre f vs := hG.keep rfl (fun _ _ _ h _ => h)
    have hEq : W.drew.heap = W.heap ∧ W.drew.os = W.os ∧ W.drew.tape = W.tape ∧ W.drew.output = W.output := ⟨rfl, rfl, rfl, rfl⟩
    have HEq := hid hEq
    have hBl := (Array.getElem?_eq_some_iff.1 bX).1
    have hzz : W.drew.heap.size = W.heap.size := rfl
    clear hEq c1 c2 c3 c4 c5
    generalize W.drew = Wa at d1 d2 d3 hGa HEq hzz ⊢
    have HZ := hid hzz
    clear hzz
    have hG1 := hid (hGa.keep (W' := Wa.drew) rfl (fun _ _ _ h _ => h))
    have hsW := hB.size
    have hB2 := (Array.getElem?_eq_some_iff.1 b2).1
    obtain ⟨v, v', W2, W3, r1, r2, r3, r4, hG3, hos3, hz3, hlow3, hnc3, hW2⟩ := hG1.out.step x (by omega) hsx (by omega) (show w.heap.size + 3 ≤ Wa.heap.size by have := HZ.out; omega)
    have r2' : (Instr.lookup 136 (.map (some (w.heap.size + 1))) (.string (bs (nm lvl x.1))) false).run Tryz.prog (Wa.alloc (.cells #[.map (some (pd x.1).1), .int .i64 (pd x.1).2] 131)).drew = .ok v (Wa.alloc (.cells #[.map (some (pd x.1).1), .int .i64 (pd x.1).2] 131)).drew := r2
    have r3' : (Builtin.append_ #[144, 144] 144 #[v, .slice (some ⟨Wa.heap.size, 0, none⟩) 1 1]).run Tryz.prog (Wa.alloc (.cells #[.map (some (pd x.1).1), .int .i64 (pd x.1).2] 131)).drew = .ok v' W2 := r3
    have d1' : (Wa.alloc (.cells #[.map (some (pd x.1).1), .int .i64 (pd x.1).2] 131)).cell? ⟨w.heap.size + 1 + 1, 0, none⟩ = some (.map (some (w.heap.size + 1))) := cell_keep (Below.heap_alloc _ _ _ (World.block_lt_of_cell? _ _ d1)) d1
    clear r2 r3
    have G3 := hid hG3
    have O3 := hid hos3
    have L3 := hid hlow3
    have N3 := hid hnc3
    clear hG3 hos3 hlow3 hnc3
    have hmx : Tryz.prog.follows .mixedOrders = true := by kernel_rfl
    gi_wp2
    have d5 : W2.cell? ⟨w.heap.size + 1 + 1, 0, none⟩ = some (.map (some (w.heap.size + 1))) := cell_keep (hW2 (w.heap.size + 1 + 1) (by omega)) d1
    refine wpIn_mono (region_append l Wa W2 W3 (w.heap.size + 1 + 1) (w.heap.size + 1) Bx (pd x.1).1 (pd x.1).2 (bs (nm lvl x.1)) v v' _ _ _ _ _ _ _ _ _ _ _ _ _ _ d1 d2 d3 d1' d5 r1 r2' r3' r4 hmx) ?_
    rintro e a2 w2 ⟨rfl, rfl⟩
    have hEq := HEq.out
    have hh : ∀ j : Nat, Wa.heap[j]? = W.heap[j]? := fun j => by rw [hEq.1]
    have hnc : ∀ (j : Nat) (o : Obj), j ≠ w.heap.size + 1 → W.heap[j]? = some o → o.isCells = false → w2.heap[j]? = some o := fun j o h ho hc => N3.out j o h ((hh j).trans ho) hc
    have hlo : ∀ j : Nat, j < w.heap.size + 3 → j ≠ w.heap.size + 1 → w2.heap[j]? = W.heap[j]? := fun j hj h => (L3.out j hj h).trans (hh j)
    have hzw : W.heap.size ≤ w2.heap.size := by have q1 := HZ.out; have q2 : Wa.heap.size ≤ w2.heap.size := hz3; omega
    refine ⟨⟨hzw, fun k o hk ho hc => hnc k o (by have q3 := hsz; omega) ho hc⟩, ⟨hzw, fun k o hk ho hw => hnc k o hk ho (Obj.not_cells_of_walk hw)⟩, ⟨(hlo _ (by omega) (by omega)).trans b1, (hlo _ (by omega) (by omega)).trans b2, G3.out⟩, ?_⟩
    exact ⟨O3.out.1.trans (hEq.2.1.trans hB.os), O3.out.2.1.trans (hEq.2.2.1.trans hB.tape), O3.out.2.2.trans (hEq.2.2.2.trans hB.output), Nat.le_trans hB.size hzw, fun j hj => (hlo j (by omega) (by omega)).trans (hB.block j hj)⟩
  case done =>
    rintro D xs W hD2 hS ⟨⟨b1, b2, f, vs, hG⟩, hB⟩ hK
    have c2 := b2.cell
    have hnb := hG.1.lt
    gi_wp2
    refine ⟨by simp, .inl ⟨_, _, rfl, run_takeDeferred hK, ?_⟩⟩
    have hne : ∀ j : Nat, j ≠ D → (W.putObj D (.deferred none)).heap[j]? = W.heap[j]? := fun j hj => World.putObj_heap_other (fun e => hj e)
    refine ⟨_, results_tmp rfl _ _ _, rfl, hB.trans (belowK_b (w := w) (Nat.le_refl _) W D _ _ (by omega) hK rfl rfl), xs, f, vs, hS, hG.keep (hne _ (by omega)) (fun j o _ h hc => ?_)⟩
    rw [hne j (fun e => ?_), h]
    subst e
    rw [hK] at h
    cases h
    cases hc
  case stop =>
    rintro D c pre W _ _ h _
    exact h.elim
theorem Pics.pd {w : World} {F : Nat → Prop} {n : Nat} {f : Lit → Option Value} {A : List (List (El (n + 2)))} {ps : List (Nat × Int)} (h : Pics w F n f A ps) : ∃ pd : List (El (n + 2)) → Nat × Int, ∀ l ∈ A, pd l ∈ ps ∧ f (keyS (nm 3 l)) = some (picV (pd l).1 (pd l).2) ∧ DMk w F (n + 1) (pd l).1 24 (descG l) := by
  have : ∀ l : List (El (n + 2)), ∃ p : Nat × Int, l ∈ A → p ∈ ps ∧ f (keyS (nm 3 l)) = some (picV p.1 p.2) ∧ DMk w F (n + 1) p.1 24 (descG l) := fun l => by
    by_cases hl : l ∈ A
    · obtain ⟨p, h1, h2, _, h3⟩ := h.find l hl
      exact ⟨p, fun _ => ⟨h1, h2, h3⟩⟩
    · exact ⟨(0, 0), fun h => absurd h hl⟩
  obtain ⟨pd, hpd⟩ := Classical.axiomOfChoice this
  exact ⟨pd, hpd⟩
/-- All that is there on a level. -/
def OnEnd {n : Nat} (w : World) (lvl : Nat) (A : List (List (El (n + 2)))) (ps : List (Nat × Int)) (e : Ending) (W' : World) : Prop := Below w.heap.size w W' ∧
  ∃ (nb B0 : Nat) (pd : List (El (n + 2)) → Nat × Int) (xs : List (Of A)) (f : Lit → Option Value) (vs : By → Value), e = .returned (.map (some nb)) ∧ w.heap.size ≤ nb ∧ nb < B0 ∧ (∀ l ∈ A, pd l ∈ ps) ∧ (xs.map (·.1)).Perm A ∧ Grps W' B0 nb lvl pd xs f vs
set_option maxRecDepth 20000 in
theorem on_any (n : Nat) (F : Nat → Prop) (w : World) (a m lvl : Nat) (T : Int) (A : List (List (El (n + 2)))) (f : Lit → Option Value) (ps : List (Nat × Int)) (h1 : Arc2 w a m T) (hM : MapF w Tryz.prog 9 m A.length f) (hP : Pics w F n f A ps) (hK : ∀ k, (f k).isSome = true ↔ ∃ l ∈ A, k = keyS (nm 3 l)) (hG : Good A) (hlv : lvl < 4) (hV : NamesV w) :
    Calls Tryz.prog 104 #[ptr a, .int .i64 lvl] w (OnEnd w lvl A ps) := by
  obtain ⟨pd, hpd⟩ := hP.pd
  obtain ⟨⟨a0, _⟩, _⟩ := h1.cells
  have u1 : Below w.heap.size w (w.alloc (.cells #[.map (some m)] 122)) := Below.alloc (Below.refl _ _) (Nat.le_refl _) _
  have c1 := byName_any A pd F (w.alloc (.cells #[.map (some m)] 122)) 226 #[.pointer (some ⟨w.heap.size, 0, none⟩)] lvl hlv (fun xs => (xs.map (·.1)).Perm A) A.length hG.1 (enters_of Tryz.func226 (by kernel_rfl) rfl)
    (fun W0 hB0 hsz => fun l J Jx W hW hJ _ hY h0 => by
      have hWz := hW.size
      have hu : Below (w.alloc (.cells #[.map (some m)] 122)).heap.size (w.alloc (.cells #[.map (some m)] 122)) W := hB0.trans (hW.mono hB0.size)
      have hml := hM.lt
      rw [World.size_alloc] at hsz
      exact values1_in Fence.wide 8 trivial rfl (by omega) l w.heap.size m _ A f pd J Jx hY W hJ ((hu.cell (by simp)).trans (by simp)) (hM.kept ((hu.block m (by simp; omega)).trans (Below.heap_alloc _ _ _ hml))) hK (fun l hl => (hpd l hl).2.1) hG.2.1 (by rw [World.size_alloc]; omega) (by rw [World.size_alloc]; omega) h0)
    (fun l hl => ((hpd l hl).2.2).up u1) (fun l hl => nm_short (n := n + 1) (hG.2.2 l hl).1 lvl) (hV.up u1)
  have C1 := hid c1
  have HP := hid (fun l hl => (hpd l hl).1)
  have U1 := hid u1
  clear c1 hpd u1 hP hM hK hG hV h1
  go_enter Tryz.func104, Tryz.ntmps104
  go_wp2_with fail
  go_at_call 172
  refine (mapsValues_any w (some m)).mono ?_
  rintro e w1 ⟨rfl, rfl⟩
  go_wp2_with fail
  go_at_call 171
  refine C1.out.mono ?_
  rintro e w2 ⟨rfl, u2, xs, f', vs, hS, hGr⟩
  have U2 := hid (U1.out.trans (u2.mono U1.out.size))
  have HS := hid hS
  rw [World.size_alloc] at hGr
  have HGr := hid hGr
  clear u2 hS hGr C1
  go_wp2
  go_ret
  exact ⟨U2.out, _, _, pd, xs, f', vs, rfl, by omega, by omega, HP.out, HS.out, HGr.out⟩
end Go.Proofs.YtaokifbpakbgdaaGreatDoor

/-
  Several texts in one; what each one has stands at its head.
-/
import Derived.Test.YtaokifbpakbgdaaGreatDoorPut20
import Derived.BigQuiet
/- Package foliolaw on archives: step. -/
namespace Go.Proofs.YtaokifbpakbgdaaGreatDoor
open Go.RowKit

/-- What may turn. -/
def Ownd (wB : Nat) (v : Value) (xs : List Sh) (j : Nat) : Prop := j = wB ∨ v.ownBlock = some j ∨ j ∈ mutL xs
def St (w0 w : World) (F : Nat → Prop) (wB : Nat) (v : Value) (xs : List Sh) (k : Nat) : Prop := Below w0.heap.size w0 w ∧ Wld w F wB v xs ∧ Shs w F xs k ∧ (∀ j, Ownd wB v xs j → w0.heap.size ≤ j) ∧ xs.length ≤ k
def Stp (wB : Nat) (w : World) (v : Value) (xs : List Sh) (w' : World) (v' : Value) (xs' : List Sh) : Prop := w.heap.size ≤ w'.heap.size ∧ (∀ j, j < w.heap.size → ¬ Ownd wB v xs j → w'.heap[j]? = w.heap[j]?) ∧ (∀ j, Ownd wB v' xs' j → Ownd wB v xs j ∨ w.heap.size ≤ j) ∧ ∀ lv, w.cell? ⟨wB, 1, none⟩ = some lv → w'.cell? ⟨wB, 1, none⟩ = some lv
/-- A step's end. -/
def StepEnd (w0 w : World) (F : Nat → Prop) (wB : Nat) (v : Value) (xs : List Sh) (k : Nat) (e : Ending) (w' : World) : Prop := e = .returned (.bool true) ∧ ∃ F' v' xs', St w0 w' F' wB v' xs' (k + 1) ∧ Stp wB w v xs w' v' xs' ∧ 0 < xs'.length ∧ ∀ j, F' j → F j ∨ w.heap.size ≤ j
/-- Nothing has turned below. -/
theorem St.up {w0 w w' : World} {F : Nat → Prop} {wB : Nat} {v : Value} {xs : List Sh} {k k' : Nat} (h : St w0 w F wB v xs k) (u : Below w.heap.size w w') (hk : k ≤ k') : St w0 w' F wB v xs k' := by
  obtain ⟨h1, h2, h3, h4, h5⟩ := h
  exact ⟨h1.trans (u.mono h1.size), h2.keep (fun j hj _ => u.block j hj) (fun j hj => .inl hj) rfl rfl, h3.up u hk, h4, by omega⟩
theorem Stp.of {wB : Nat} {w w' : World} {v : Value} {xs : List Sh} (u : Below w.heap.size w w') : Stp wB w v xs w' v xs := ⟨u.size, fun j hj _ => u.block j hj, fun _ h => .inl h, fun _ h => (u.cell (World.block_lt_of_cell? _ _ h)).trans h⟩
theorem StepEnd.same {w0 w w' : World} {F : Nat → Prop} {wB : Nat} {v : Value} {xs : List Sh} {k : Nat} {e : Ending} (h : St w0 w F wB v xs k) (he : e = .returned (.bool true)) (u : Below w.heap.size w w') (hx : 0 < xs.length) : StepEnd w0 w F wB v xs k e w' :=
  ⟨he, F, v, xs, h.up u (Nat.le_succ _), Stp.of u, hx, fun _ h => .inl h⟩
/-- One archive has turned, and the document's. -/
theorem StepEnd.turn {w0 w w' : World} {F : Nat → Prop} {wB : Nat} {v : Value} {xs : List Sh} {k i : Nat} {e : Ending} (h : St w0 w F wB v xs k) (he : e = .returned (.bool true)) (hi : i < xs.length) {T' : Int} {A' : List (List (El 3))} (hz : w.heap.size ≤ w'.heap.size) (hos : w'.os = w.os ∧ w'.tape = w.tape ∧ w'.output = w.output)
    (hk : ∀ j, j < w.heap.size → j ≠ (xs[i]).a → j ≠ (xs[i]).m → j ≠ (xs[i]).b → w'.heap[j]? = w.heap[j]?) (hP : ProA w' (Nw F w w') 1 (xs[i]).a (xs[i]).m T' A') (hR : RefA w' (Nw F w w') 2 (xs[i]).b A') (hG : Good A') (hT : 0 ≤ T' ∧ T' ≤ k + 1) : StepEnd w0 w F wB v xs k e w' := by
  obtain ⟨h1, h2, h3, h4, h5⟩ := h
  have hm := mutL_set hi (y := { xs[i] with T := T', A := A' }) rfl
  have hk2 : ∀ j, j < w.heap.size → ¬ j ∈ mutL xs → w'.heap[j]? = w.heap[j]? := fun j hj hn => by
    refine hk j hj ?_ ?_ ?_ <;> (intro e; exact hn (mut_mem (List.getElem_mem hi) (by rw [e]; simp [Sh.mut])))
  have hp : (xs.set i { xs[i] with T := T', A := A' }).map (fun x => ptr x.p) = xs.map (fun x => ptr x.p) := by
    rw [List.map_set]
    apply List.ext_getElem
    · simp
    · intro j h1 h2
      rw [List.getElem_set]
      split
      · next e => subst e; simp
      · rfl
  refine ⟨he, Nw F w w', v, _, ⟨?_, h2.keep hk2 (fun j hj => hj.imp id (fun h => h.1)) hm hp, h3.turn hi hz hk hP hR hG hT, ?_, by rw [List.length_set]; omega⟩, ⟨hz, fun j hj hn => hk2 j hj (fun e => hn (.inr (.inr e))), ?_, fun _ hc => cell_keep (p := ⟨wB, 1, none⟩) (hk2 wB h2.lt h2.2.2.2.1) hc⟩, by rw [List.length_set]; omega, fun j hj => hj.imp id (fun h => h.1)⟩
  · refine ⟨hos.1.trans h1.os, hos.2.1.trans h1.tape, hos.2.2.trans h1.output, Nat.le_trans h1.size hz, fun j hj => ?_⟩
    have := h1.size
    exact (hk2 j (by omega) (fun e => by have := h4 j (.inr (.inr e)); omega)).trans (h1.block j hj)
  · unfold Ownd
    rw [hm]
    exact h4
  · unfold Ownd
    rw [hm]
    exact fun j h => .inl h
theorem mut_ne {w : World} {F : Nat → Prop} {xs : List Sh} {k i : Nat} (h : Shs w F xs k) (hi : i < xs.length) : (xs[i]).a ≠ (xs[i]).m ∧ (xs[i]).a ≠ (xs[i]).b ∧ (xs[i]).m ≠ (xs[i]).b := by
  have h1 := (List.pairwise_flatten.1 h.1).1 _ (List.mem_map.2 ⟨_, List.getElem_mem hi, rfl⟩)
  simp [Sh.mut] at h1
  exact ⟨h1.1.1, h1.1.2, h1.2⟩
/-- The archive has turned, then the document's. -/
theorem turn_two {w0 w W w2 w3 : World} {F : Nat → Prop} {wB : Nat} {v : Value} {xs : List Sh} {k i : Nat} {e : Ending} (h : St w0 w F wB v xs k) (he : e = .returned (.bool true)) (hi : i < xs.length) {x : Sh} (hx : xs[i] = x) {T' : Int} {A' : List (List (El 3))} (u1 : Below w.heap.size w W)
    (hlo : ∀ j, j < W.heap.size → j ≠ x.a → j ≠ x.m → w2.heap[j]? = W.heap[j]?) (hos : w2.os = W.os ∧ w2.tape = W.tape ∧ w2.output = W.output) (hz : W.heap.size ≤ w2.heap.size) (hP : ProA w2 (Nw F W w2) 1 x.a x.m T' A') (u3 : UpB x.b w2 w3) (hR : RefA w3 (Nw F w2 w3) 2 x.b A') (hG : Good A') (hT : 0 ≤ T' ∧ T' ≤ k + 1) : StepEnd w0 w F wB v xs k e w3 := by
  subst hx
  obtain ⟨m1, m2, m3⟩ := mut_ne h.2.2.1 hi
  have hb := h.2.2.1.2.1 (xs[i]).b (mut_mem (List.getElem_mem hi) (by simp [Sh.mut]))
  have hz1 := u1.size
  have hz3 := u3.size
  have ha2 := hP.1.lt
  have hm2 := hP.mlt
  refine StepEnd.turn h he hi (by omega) ⟨u3.1.1.trans (hos.1.trans u1.os), u3.1.2.1.trans (hos.2.1.trans u1.tape), u3.1.2.2.trans (hos.2.2.trans u1.output)⟩ (fun j hj e1 e2 e3 => ?_) (hP.keep (u3.block ha2 m2) (u3.block hm2 m3) (fun j hj => ?_) (fun j hj hj2 => u3.block hj2 (fun e => ?_))) (hR.keep rfl (fun j hj => ?_) (fun _ _ _ => rfl)) hG hT
  · rw [u3.block (by omega) e3, hlo j (by omega) e1 e2, u1.block j hj]
  · rcases hj with h | ⟨h1, h2⟩
    · exact .inl h
    · exact .inr ⟨by omega, by omega⟩
  · subst e
    rcases hj with h | ⟨h1, _⟩
    · exact hb.2 h
    · omega
  · rcases hj with h | ⟨h1, h2⟩
    · exact .inl h
    · exact .inr ⟨by omega, by omega⟩
abbrev opV (k a : Int) (s : By) : Value := .agg #[.int .i64 k, .int .i64 a, .string (bs s)]
set_option maxRecDepth 20000 in
set_option maxHeartbeats 4000000 in
theorem step_rest (w0 w : World) (F : Nat → Prop) (wB : Nat) (v : Value) (xs : List Sh) (k : Nat) (kd ar : Int) (s : By) (h : St w0 w F wB v xs k) (hkd : -9223372036854775808 ≤ kd ∧ kd ≤ 9223372036854775807) (k1 : kd ≠ 1) (kr : kd < 2 ∨ 5 < kd) (hx : 0 < xs.length) :
    Calls Tryz.prog 17 #[ptr wB, opV kd ar s] w (StepEnd w0 w F wB v xs k) := by
  have H := hid h
  clear h
  by_cases k2 : kd < 2
  · go_enter Tryz.func17, Tryz.ntmps17
    go_wp2
    go_ret
    exact H.out |> fun H => StepEnd.same H rfl (Below.alloc (Below.refl _ _) (Nat.le_refl _) _) hx
  · have k3 : 5 < kd := by omega
    go_enter Tryz.func17, Tryz.ntmps17
    go_wp2
    go_ret
    exact H.out |> fun H => StepEnd.same H rfl (Below.alloc (Below.refl _ _) (Nat.le_refl _) _) hx
set_option maxRecDepth 20000 in
set_option maxHeartbeats 4000000 in
theorem step_count (w0 w : World) (F : Nat → Prop) (wB : Nat) (v : Value) (xs : List Sh) (k : Nat) (ar : Int) (s : By) (h : St w0 w F wB v xs k) (hV : Vars w0) (hN : NamesV w0) (har : -9223372036854775808 ≤ ar ∧ ar ≤ 9223372036854775807) (hx : 0 < xs.length) (hkb : k ≤ 8796093022208) :
    Calls Tryz.prog 17 #[ptr wB, opV 4 ar s] w (StepEnd w0 w F wB v xs k) := by
  have H := hid h
  have HV := hid (hV.up h.1)
  have HN := hid (hN.up h.1)
  obtain ⟨c0, f0⟩ := h.2.1.cell
  have hlt := h.2.1.lt
  clear h hV hN
  have hl : xs.length ≤ 8796093022208 := Nat.le_trans H.out.2.2.2.2 hkb
  have hpb := pkL_bd (k := ar) (n := xs.length) (by omega)
  obtain ⟨q, hq⟩ : ∃ q : Nat, pkL ar xs.length = q := ⟨(pkL ar xs.length).toNat, (Int.toNat_of_nonneg hpb.1).symm⟩
  have hql : q < xs.length := by omega
  obtain ⟨g, cap, rfl, cq⟩ := H.out.2.1.at hql
  have hgl : g < w.heap.size := World.block_lt_of_cell? _ _ cq
  have c1 := fun W => lpick_any ar xs.length W har.1 har.2 (by omega) (by omega)
  rw [hq] at c1
  have C1 := hid c1
  have hO := H.out.2.2.1.2.2.2 _ (List.getElem_mem hql)
  have hF := H.out.2.2.1.2.2.1
  have hlow : ∀ j, F j → j < w.heap.size := hF
  generalize hX : xs[q] = x at cq hO
  have HX := hid hX
  have HO := hid hO
  have HF := hid hF
  clear hX hO hF hlow hpb hq c1
  go_enter Tryz.func17, Tryz.ntmps17
  go_wp2_with fail
  go_quiet ((go_at_call 47; exact Calls.quiet_of_same (C1.out _)))
  have u1 : Below w.heap.size w ((w.alloc (Obj.cells #[Value.int IntKind.i64 4, Value.int IntKind.i64 ar, Value.string (bs s)] 34)).drewN nq) := below_drewN (Below.alloc (Below.refl _ _) (Nat.le_refl _) _) _
  have U1 := hid u1
  clear u1
  go_wp2_with fail
  go_at_call 18
  obtain ⟨p1, p2, p3, p4, p5, _⟩ := HO.out.keep (F' := F) (k' := k) (fun _ h => h) (fun j hj => U1.out.block j (HF.out j hj)) (fun j hj => U1.out.block j (H.out.2.2.1.2.1 j (mut_mem (List.getElem_mem hql) (by rw [HX.out]; exact hj))).1) (Nat.le_refl _)
  refine (counted_any F _ _ _ _ _ _ _ p1 p3 p4 (fun j hj => Nat.lt_of_lt_of_le (HF.out j hj) U1.out.size) p5 p5.short (HN.out.up U1.out)).mono ?_
  rintro e w2 ⟨rfl, u2⟩
  have U2 := hid (U1.out.trans (u2.mono U1.out.size))
  clear u2 p1 p2 p3 p4 p5
  go_wp2
  go_ret
  exact StepEnd.same H.out rfl U2.out hx
end Go.Proofs.YtaokifbpakbgdaaGreatDoor

/- Package foliolaw on archives: step, Store. -/
namespace Go.Proofs.YtaokifbpakbgdaaGreatDoor
open Go.RowKit

set_option maxRecDepth 20000 in
set_option maxHeartbeats 4000000 in
theorem step_store (w0 w : World) (F : Nat → Prop) (wB : Nat) (v : Value) (xs : List Sh) (k : Nat) (ar : Int) (s : By) (h : St w0 w F wB v xs k) (hV : Vars w0) (hN : NamesV w0) (har : -9223372036854775808 ≤ ar ∧ ar ≤ 9223372036854775807) (hx : 0 < xs.length) (hkb : k ≤ 8796093022208) :
    Calls Tryz.prog 17 #[ptr wB, opV 2 ar s] w (StepEnd w0 w F wB v xs k) := by
  have H := hid h
  have HV := hid (hV.up h.1)
  have HN := hid (hN.up h.1)
  obtain ⟨c0, f0⟩ := h.2.1.cell
  have hlt := h.2.1.lt
  clear h hV hN
  have hl : xs.length ≤ 8796093022208 := Nat.le_trans H.out.2.2.2.2 hkb
  have hpb := pkL_bd (k := ar) (n := xs.length) (by omega)
  obtain ⟨q, hq⟩ : ∃ q : Nat, pkL ar xs.length = q := ⟨(pkL ar xs.length).toNat, (Int.toNat_of_nonneg hpb.1).symm⟩
  have hql : q < xs.length := by omega
  obtain ⟨g, cap, rfl, cq⟩ := H.out.2.1.at hql
  have hgl : g < w.heap.size := World.block_lt_of_cell? _ _ cq
  have c1 := fun W => lpick_any ar xs.length W har.1 har.2 (by omega) (by omega)
  rw [hq] at c1
  have C1 := hid c1
  have hO := H.out.2.2.1.2.2.2 _ (List.getElem_mem hql)
  have hF := H.out.2.2.1.2.2.1
  have hlow : ∀ j, F j → j < w.heap.size := hF
  generalize hX : xs[q] = x at cq hO
  have HX := hid hX
  have HO := hid hO
  have HF := hid hF
  clear hX hO hF hlow hpb hq c1
  go_enter Tryz.func17, Tryz.ntmps17
  go_wp2_with fail
  go_quiet ((go_at_call 47; exact Calls.quiet_of_same (C1.out _)))
  have u1 : Below w.heap.size w ((w.alloc (Obj.cells #[Value.int IntKind.i64 2, Value.int IntKind.i64 ar, Value.string (bs s)] 34)).drewN nq) := below_drewN (Below.alloc (Below.refl _ _) (Nat.le_refl _) _) _
  have b1 : ((w.alloc (Obj.cells #[Value.int IntKind.i64 2, Value.int IntKind.i64 ar, Value.string (bs s)] 34)).drewN nq).heap[w.heap.size]? = some (.cells #[Value.int IntKind.i64 2, Value.int IntKind.i64 ar, Value.string (bs s)] 34 (0, 0)) := heap_alloc_new _ _
  generalize (w.alloc (Obj.cells #[Value.int IntKind.i64 2, Value.int IntKind.i64 ar, Value.string (bs s)] 34)).drewN nq = W at u1 b1 ⊢
  obtain ⟨p1, p2, p3, p4, p5, p6⟩ := HO.out.keep (w' := W) (F' := F) (k' := k) (fun _ h => h) (fun j hj => u1.block j (HF.out j hj)) (fun j hj => u1.block j (H.out.2.2.1.2.1 j (mut_mem (List.getElem_mem hql) (by rw [HX.out]; exact hj))).1) (Nat.le_refl _)
  have hmu : ∀ j ∈ x.mut, j < w.heap.size ∧ ¬ F j := fun j hj => H.out.2.2.1.2.1 j (mut_mem (List.getElem_mem hql) (by rw [HX.out]; exact hj))
  obtain ⟨x0, x1⟩ := p1.cells
  have o0 : W.cell? ⟨w.heap.size, 0, none⟩ = some (.int .i64 2) := by simp [World.cell?, b1]
  have o2 : W.cell? ⟨w.heap.size, 2, none⟩ = some (.string (bs s)) := by simp [World.cell?, b1]
  have c2 := Store_any F W.drew x.a x.m x.T x.A s (p3.keep rfl rfl (fun _ h => h) (fun _ _ _ => rfl)) (fun j hj => ⟨Nat.lt_of_lt_of_le (HF.out j hj) u1.size, fun e => (hmu _ (by simp [Sh.mut])).2 (e ▸ hj), fun e => (hmu _ (by simp [Sh.mut])).2 (e ▸ hj)⟩) p5 ((HV.out.up u1).up (Below.drew (Below.refl _ _))) ((HN.out.up u1).up (Below.drew (Below.refl _ _))) ⟨p6.1, by omega⟩
  have C2 := hid c2
  have U1 := hid u1
  have P1 := hid p1
  have P2 := hid p2
  have P4 := hid p4
  have P5 := hid p5
  have P6 := hid p6
  have HM := hid hmu
  have hWz := u1.size
  have B1 := hid b1
  clear c2 u1 p1 p2 p3 p4 p5 p6 hmu b1
  go_wp2_with fail
  go_region_with (go_at_call 48; refine C2.out.mono ?_; rintro e w2 ⟨rfl, hlo, hos, hz, T', hT1, hT2, hP2⟩)
  all_goals
    have hxp : x.p ≠ x.a ∧ x.p ≠ x.m := ⟨fun e => (HM.out _ (by simp [Sh.mut])).2 (e ▸ P2.out), fun e => (HM.out _ (by simp [Sh.mut])).2 (e ▸ P2.out)⟩
    have hma := (HM.out x.a (by simp [Sh.mut])).1
    have hmm := (HM.out x.m (by simp [Sh.mut])).1
    have hmb := HM.out x.b (by simp [Sh.mut])
    have hne3 : x.a ≠ x.m ∧ x.a ≠ x.b ∧ x.m ≠ x.b := by rw [← HX.out]; exact mut_ne H.out.2.2.1 hql
    have hlo2 : ∀ j, j < W.heap.size → j ≠ x.a → j ≠ x.m → w2.heap[j]? = W.heap[j]? := hlo
    have hz2 : W.heap.size ≤ w2.heap.size := hz
    obtain ⟨_, y1⟩ := (P1.out.keep (hlo2 _ P1.out.lt hxp.1 hxp.2)).cells
    have q1 : w2.heap[w.heap.size]? = some (.cells #[Value.int IntKind.i64 2, Value.int IntKind.i64 ar, Value.string (bs s)] 34 (0, 0)) := (hlo2 _ (lt_of_block B1.out) (by omega) (by omega)).trans B1.out
    have o3 : w2.cell? ⟨w.heap.size, 2, none⟩ = some (.string (bs s)) := by simp [World.cell?, q1]
    have hR2 : RefA w2.drew F 2 x.b x.A := P4.out.keep (hlo2 _ P4.out.lt (fun e => hne3.2.1 e.symm) (fun e => hne3.2.2 e.symm)) (fun _ h => h) (fun j hj hj2 => hlo2 j hj2 (fun e => (HM.out _ (by simp [Sh.mut])).2 (e ▸ hj)) (fun e => (HM.out _ (by simp [Sh.mut])).2 (e ▸ hj)))
    have c3 := rStore_any F w2.drew x.b x.A s hR2 (fun j hj => ⟨Nat.lt_of_lt_of_le (Nat.lt_of_lt_of_le (HF.out j hj) hWz) hz2, fun e => hmb.2 (e ▸ hj)⟩) P5.out.1 P5.out.short
    have C3 := hid c3
    have L2 := hid hlo
    have O2 := hid hos
    have Z2 := hid hz
    have PP := hid hP2
    have HT := hid (show 0 ≤ T' ∧ T' ≤ k + 1 by have := P6.out; omega)
    clear c3 hlo hos hz hP2 hR2 q1 hlo2 hne3 hmb hma hmm hT1 hT2 x0 x1 o0 o2 C2
    generalize stoE x.A s = ee at C3 ⊢
    go_wp2_with fail
    go_region_with (go_at_call 49; refine C3.out.mono ?_; rintro e w3 ⟨rfl, u3, hR3⟩)
  all_goals
    have U3 := hid u3
    have R3 := hid hR3
    clear u3 hR3 C3
    go_wp2
    go_ret
    exact turn_two H.out rfl hql HX.out (W := W.drew) (w2 := w2) (U1.out.trans (Below.mono (Below.drew (Below.refl _ _)) hWz)) L2.out O2.out Z2.out PP.out U3.out R3.out (P5.out.sto s) HT.out
end Go.Proofs.YtaokifbpakbgdaaGreatDoor

/- Package foliolaw on archives: step, Delete. -/
namespace Go.Proofs.YtaokifbpakbgdaaGreatDoor
open Go.RowKit

set_option maxRecDepth 20000 in
set_option maxHeartbeats 4000000 in
theorem step_delete (w0 w : World) (F : Nat → Prop) (wB : Nat) (v : Value) (xs : List Sh) (k : Nat) (ar : Int) (s : By) (h : St w0 w F wB v xs k) (hV : Vars w0) (hN : NamesV w0) (har : -9223372036854775808 ≤ ar ∧ ar ≤ 9223372036854775807) (hs : s.length ≤ 9223372036854775807) (hx : 0 < xs.length) (hkb : k ≤ 8796093022208) :
    Calls Tryz.prog 17 #[ptr wB, opV 3 ar s] w (StepEnd w0 w F wB v xs k) := by
  have H := hid h
  have HV := hid (hV.up h.1)
  have HN := hid (hN.up h.1)
  obtain ⟨c0, f0⟩ := h.2.1.cell
  have hlt := h.2.1.lt
  clear h hV hN
  have hl : xs.length ≤ 8796093022208 := Nat.le_trans H.out.2.2.2.2 hkb
  have hpb := pkL_bd (k := ar) (n := xs.length) (by omega)
  obtain ⟨q, hq⟩ : ∃ q : Nat, pkL ar xs.length = q := ⟨(pkL ar xs.length).toNat, (Int.toNat_of_nonneg hpb.1).symm⟩
  have hql : q < xs.length := by omega
  obtain ⟨g, cap, rfl, cq⟩ := H.out.2.1.at hql
  have hgl : g < w.heap.size := World.block_lt_of_cell? _ _ cq
  have c1 := fun W => lpick_any ar xs.length W har.1 har.2 (by omega) (by omega)
  rw [hq] at c1
  have C1 := hid c1
  have hO := H.out.2.2.1.2.2.2 _ (List.getElem_mem hql)
  have hF := H.out.2.2.1.2.2.1
  have hlow : ∀ j, F j → j < w.heap.size := hF
  generalize hX : xs[q] = x at cq hO
  have HX := hid hX
  have HO := hid hO
  have HF := hid hF
  clear hX hO hF hlow hpb hq c1
  go_enter Tryz.func17, Tryz.ntmps17
  go_wp2_with fail
  go_quiet ((go_at_call 47; exact Calls.quiet_of_same (C1.out _)))
  have u1 : Below w.heap.size w ((w.alloc (Obj.cells #[Value.int IntKind.i64 3, Value.int IntKind.i64 ar, Value.string (bs s)] 34)).drewN nq) := below_drewN (Below.alloc (Below.refl _ _) (Nat.le_refl _) _) _
  have b1 : ((w.alloc (Obj.cells #[Value.int IntKind.i64 3, Value.int IntKind.i64 ar, Value.string (bs s)] 34)).drewN nq).heap[w.heap.size]? = some (.cells #[Value.int IntKind.i64 3, Value.int IntKind.i64 ar, Value.string (bs s)] 34 (0, 0)) := heap_alloc_new _ _
  generalize (w.alloc (Obj.cells #[Value.int IntKind.i64 3, Value.int IntKind.i64 ar, Value.string (bs s)] 34)).drewN nq = W at u1 b1 ⊢
  obtain ⟨p1, p2, p3, p4, p5, p6⟩ := HO.out.keep (w' := W) (F' := F) (k' := k) (fun _ h => h) (fun j hj => u1.block j (HF.out j hj)) (fun j hj => u1.block j (H.out.2.2.1.2.1 j (mut_mem (List.getElem_mem hql) (by rw [HX.out]; exact hj))).1) (Nat.le_refl _)
  have hmu : ∀ j ∈ x.mut, j < w.heap.size ∧ ¬ F j := fun j hj => H.out.2.2.1.2.1 j (mut_mem (List.getElem_mem hql) (by rw [HX.out]; exact hj))
  obtain ⟨x0, x1⟩ := p1.cells
  have o0 : W.cell? ⟨w.heap.size, 0, none⟩ = some (.int .i64 3) := by simp [World.cell?, b1]
  have o2 : W.cell? ⟨w.heap.size, 2, none⟩ = some (.string (bs s)) := by simp [World.cell?, b1]
  have c2 := Delete_any 1 F W.drew x.a x.m x.T x.A s (p3.keep rfl rfl (fun _ h => h) (fun _ _ _ => rfl)) (fun j hj => ⟨Nat.lt_of_lt_of_le (HF.out j hj) u1.size, fun e => (hmu _ (by simp [Sh.mut])).2 (e ▸ hj)⟩) p5.2.1 p5.1 (by unfold maxLen; omega)
  have C2 := hid c2
  have U1 := hid u1
  have P1 := hid p1
  have P2 := hid p2
  have P4 := hid p4
  have P5 := hid p5
  have P6 := hid p6
  have HM := hid hmu
  have hWz := u1.size
  have B1 := hid b1
  clear c2 u1 p1 p2 p3 p4 p5 p6 hmu b1
  go_wp2_with fail
  go_region_with (go_at_call 50; refine C2.out.mono ?_; rintro e w2 ⟨rfl, ⟨hos, hz, hlo0⟩, hP2⟩)
  all_goals
    have hxp : x.p ≠ x.a ∧ x.p ≠ x.m := ⟨fun e => (HM.out _ (by simp [Sh.mut])).2 (e ▸ P2.out), fun e => (HM.out _ (by simp [Sh.mut])).2 (e ▸ P2.out)⟩
    have hma := (HM.out x.a (by simp [Sh.mut])).1
    have hmm := (HM.out x.m (by simp [Sh.mut])).1
    have hmb := HM.out x.b (by simp [Sh.mut])
    have hne3 : x.a ≠ x.m ∧ x.a ≠ x.b ∧ x.m ≠ x.b := by rw [← HX.out]; exact mut_ne H.out.2.2.1 hql
    have hlo : ∀ j, j < W.drew.heap.size → j ≠ x.a → j ≠ x.m → w2.heap[j]? = W.drew.heap[j]? := fun j hj _ hm => hlo0 j hj hm
    have hlo2 : ∀ j, j < W.heap.size → j ≠ x.a → j ≠ x.m → w2.heap[j]? = W.heap[j]? := hlo
    have hz2 : W.heap.size ≤ w2.heap.size := hz
    obtain ⟨_, y1⟩ := (P1.out.keep (hlo2 _ P1.out.lt hxp.1 hxp.2)).cells
    have q1 : w2.heap[w.heap.size]? = some (.cells #[Value.int IntKind.i64 3, Value.int IntKind.i64 ar, Value.string (bs s)] 34 (0, 0)) := (hlo2 _ (lt_of_block B1.out) (by omega) (by omega)).trans B1.out
    have o3 : w2.cell? ⟨w.heap.size, 2, none⟩ = some (.string (bs s)) := by simp [World.cell?, q1]
    have hR2 : RefA w2.drew F 2 x.b x.A := P4.out.keep (hlo2 _ P4.out.lt (fun e => hne3.2.1 e.symm) (fun e => hne3.2.2 e.symm)) (fun _ h => h) (fun j hj hj2 => hlo2 j hj2 (fun e => (HM.out _ (by simp [Sh.mut])).2 (e ▸ hj)) (fun e => (HM.out _ (by simp [Sh.mut])).2 (e ▸ hj)))
    have c3 := rDelete_any 2 F w2.drew x.b x.A s hR2 (fun j hj => ⟨Nat.lt_of_lt_of_le (Nat.lt_of_lt_of_le (HF.out j hj) hWz) hz2, fun e => hmb.2 (e ▸ hj)⟩) P5.out.1 P5.out.short
    have C3 := hid c3
    have L2 := hid hlo
    have O2 := hid hos
    have Z2 := hid hz
    have PP := hid hP2
    have HT := hid (show 0 ≤ x.T ∧ x.T ≤ k + 1 by have := P6.out; omega)
    clear c3 hlo hos hz hP2 hR2 q1 hlo2 hne3 hmb hma hmm hlo0 x0 x1 o0 o2 C2
    generalize decide ((outA x.A s).length < x.A.length) = ee at C3 ⊢
    go_wp2_with fail
    go_region_with (go_at_call 51; refine C3.out.mono ?_; rintro e w3 ⟨rfl, u3, hR3⟩)
  all_goals
    have U3 := hid u3
    have R3 := hid hR3
    clear u3 hR3 C3
    go_wp2
    go_ret
    exact turn_two H.out rfl hql HX.out (W := W.drew) (w2 := w2) (U1.out.trans (Below.mono (Below.drew (Below.refl _ _)) hWz)) L2.out O2.out Z2.out PP.out U3.out R3.out (P5.out.out s) HT.out
end Go.Proofs.YtaokifbpakbgdaaGreatDoor

/- Package foliolaw on archives: step, New. -/
namespace Go.Proofs.YtaokifbpakbgdaaGreatDoor
open Go.RowKit

theorem two_set {w : World} {b : Nat} {c0 c1 : Value} {T : TypeId} (h : w.heap[b]? = some (.cells #[c0, c1] T (0, 0))) (u : Value) : (w.setCell ⟨b, 0, none⟩ u).heap[b]? = some (.cells #[u, c1] T (0, 0)) := by
  have hlt := lt_of_block h
  have h' : w.heap[b] = .cells #[c0, c1] T (0, 0) := by simpa [Array.getElem?_eq_getElem hlt] using h
  show (w.heap.modify b _)[b]? = _
  rw [Array.getElem?_eq_getElem (by simpa using hlt), Array.getElem_modify_self, h']
  rfl
theorem new_end {w0 w W5 W6 : World} {F : Nat → Prop} {wB : Nat} {v v' : Value} {xs : List Sh} {k p a m b : Nat} {e : Ending} (h : St w0 w F wB v xs k) (he : e = .returned (.bool true)) (u5 : Below w.heap.size w W5) (hne : [a, m, b].Nodup ∧ p ∉ [a, m, b]) (hlo : ∀ j ∈ [p, a, m, b], w.heap.size ≤ j ∧ j < W5.heap.size)
    (hp : PairAt W5 p a b) (hA : ∀ F, ProA W5 F 1 a m 0 []) (hR : ∀ F, RefA W5 F 2 b []) (hO : W6.ownsRow 0 37 1 v' (xs.length + 1) (xs.map (fun x => ptr x.p) ++ [ptr p])) (hg : W5.grownBy W6 v.ownBlock) (hmv : Moved W5 v v') : StepEnd w0 w F wB v xs k e (W6.setCell ⟨wB, 0, none⟩ v') := by
  have hB := h.2.1.lt
  obtain ⟨h1, h2, h3, h4, h5⟩ := h
  have h2' := h2
  obtain ⟨⟨lv, w1⟩, w2, w3, w4, w5⟩ := h2'
  have hown : ∀ j, v.ownBlock = some j → j < w.heap.size := fun j hj => ownsRow_lt w2 j (by simpa using hj)
  have z5 := u5.size
  have z6 := hg.size
  have hsz : (W6.setCell ⟨wB, 0, none⟩ v').heap.size = W6.heap.size := by simp [World.setCell]
  have hold : ∀ j, j < w.heap.size → j ≠ wB → v.ownBlock ≠ some j → (W6.setCell ⟨wB, 0, none⟩ v').heap[j]? = w.heap[j]? := fun j hj e1 e2 => by
    rw [Below.heap_setCell _ _ _ _ e1, hg.block j (by omega) (fun e => e2 e.symm), u5.block j hj]
  have hnew : ∀ j, w.heap.size ≤ j → j < W5.heap.size → (W6.setCell ⟨wB, 0, none⟩ v').heap[j]? = W5.heap[j]? := fun j hj hj2 => by
    rw [Below.heap_setCell _ _ _ _ (show j ≠ wB by omega), hg.block j hj2 (fun e => by have := hown j e.symm; omega)]
  have hfm : ∀ j, F j ∨ j ∈ mutL xs → (W6.setCell ⟨wB, 0, none⟩ v').heap[j]? = w.heap[j]? := fun j hj => by
    refine hold j (hj.elim (h3.2.2.1 j) (fun hj => (h3.2.1 j hj).1)) (fun e => ?_) (fun e => ?_)
    · subst e
      exact hj.elim w3 w4
    · exact hj.elim (w5 j e).2.1 (w5 j e).2.2
  have hk : ∀ j ∈ [p, a, m, b], (W6.setCell ⟨wB, 0, none⟩ v').heap[j]? = W5.heap[j]? := fun j hj => hnew j (hlo j hj).1 (hlo j hj).2
  have hvb : ∀ j, v'.ownBlock = some j → v.ownBlock = some j ∨ W5.heap.size ≤ j := fun j hj => by
    rcases hmv with e | e
    · exact .inl (e ▸ hj)
    · exact .inr (e j (by simpa using hj))
  have hS : Shs (W6.setCell ⟨wB, 0, none⟩ v') (fun j => F j ∨ j = p) (xs ++ [⟨p, a, m, b, 0, []⟩]) (k + 1) := by
    refine h3.snoc (by omega) hfm (fun j => Iff.rfl) hne.1 (fun j hj => ?_) hne.2 ⟨hp.keep (hk p (by simp)), .inr rfl, ?_, ?_, ⟨by simp, by simp, fun l hl => (by cases hl)⟩, Int.le_refl _, by simp; omega⟩
    · have := hlo j hj
      omega
    · exact (hA (fun _ => False)).keep (hk a (by simp)) (hk m (by simp)) (fun _ h => h.elim) (fun _ h => h.elim)
    · exact (hR (fun _ => False)).keep (hk b (by simp)) (fun _ h => h.elim) (fun _ h => h.elim)
  have hml : ∀ j, j ∈ mutL (xs ++ [⟨p, a, m, b, 0, []⟩]) ↔ j ∈ mutL xs ∨ j ∈ [a, m, b] := fun j => by rw [mutL_snoc, List.mem_append]; rfl
  have hwl : ∀ j ∈ [a, m, b], w.heap.size ≤ j := fun j hj => (hlo j (List.mem_cons_of_mem _ hj)).1
  have hpl := (hlo p (by simp)).1
  have hlt5 : ∀ j ∈ [p, a, m, b], j < W5.heap.size := fun j hj => (hlo j hj).2
  have hB2 : (W6.setCell ⟨wB, 0, none⟩ v').heap[wB]? = some (.cells #[v', lv] 32 (0, 0)) := by
    refine two_set (c0 := v) ?_ v'
    rw [hg.block wB (by omega) (fun e => (w5 wB e.symm).1 rfl), u5.block wB hB]
    exact w1
  have hl2 : ∀ l, w.cell? ⟨wB, 1, none⟩ = some l → (W6.setCell ⟨wB, 0, none⟩ v').cell? ⟨wB, 1, none⟩ = some l := fun l hc => by
    simp [World.cell?, w1] at hc
    simp [World.cell?, hB2, hc]
  refine ⟨he, _, v', _, ⟨?_, ⟨⟨lv, hB2⟩, ?_, ?_, ?_, ?_⟩, hS, ?_, by rw [List.length_append]; simp; omega⟩, ⟨by omega, fun j hj hn => hold j hj (fun e => hn (.inl e)) (fun e => hn (.inr (.inl e))), ?_, hl2⟩, by rw [List.length_append]; simp, fun j hj => hj.imp id (fun h => by rw [h]; exact hpl)⟩
  · have hz0 := h1.size
    refine ⟨?_, ?_, ?_, by omega, fun j hj => ?_⟩
    · exact hg.os.trans (u5.os.trans h1.os)
    · exact hg.tape.trans (u5.tape.trans h1.tape)
    · exact hg.output.trans (u5.output.trans h1.output)
    · rw [hold j (by omega) (fun e => by have := h4 wB (.inl rfl); omega) (fun e => by have := h4 j (.inr (.inl e)); omega), h1.block j hj]
  · rw [List.length_append, List.map_append]
    refine ownsRow_keep hO (fun j hj => Below.heap_setCell _ _ _ _ (fun e => ?_))
    rcases hvb j (by simpa using hj) with q | q
    · exact (w5 j q).1 e
    · have e' : j = wB := e
      omega
  · rintro (e | e)
    · exact w3 e
    · omega
  · rw [hml]
    rintro (e | e)
    · exact w4 e
    · have := hwl wB e; omega
  · intro j hj
    rw [hml]
    rcases hvb j hj with q | q
    · have hj2 := hown j q
      refine ⟨(w5 j q).1, ?_, ?_⟩
      · rintro (e | e)
        · exact (w5 j q).2.1 e
        · omega
      · rintro (e | e)
        · exact (w5 j q).2.2 e
        · have := hwl j e; omega
    · refine ⟨by omega, ?_, ?_⟩
      · rintro (e | e)
        · have := h3.2.2.1 j e; omega
        · have := hlt5 p (by simp); omega
      · rintro (e | e)
        · have := (h3.2.1 j e).1; omega
        · have := hlt5 j (List.mem_cons_of_mem _ e); omega
  · have hz0 := h1.size
    rintro j (e | e | e)
    · exact h4 j (.inl e)
    · rcases hvb j e with q | q
      · exact h4 j (.inr (.inl q))
      · omega
    · rcases (hml j).1 e with q | q
      · exact h4 j (.inr (.inr q))
      · have := hwl j q; omega
  · rintro j (e | e | e)
    · exact .inl (.inl e)
    · rcases hvb j e with q | q
      · exact .inl (.inr (.inl q))
      · exact .inr (by omega)
    · rcases (hml j).1 e with q | q
      · exact .inl (.inr (.inr q))
      · exact .inr (hwl j q)
theorem info_pp : (Tryz.prog.info? 37).map (fun i => (i.zero, i.size, i.bytes)) = some (some (.pointer none), 1, 8) := by kernel_rfl
set_option maxRecDepth 20000 in
set_option maxHeartbeats 4000000 in
theorem step_new (w0 w : World) (F : Nat → Prop) (wB : Nat) (v : Value) (xs : List Sh) (k : Nat) (ar : Int) (s : By) (h : St w0 w F wB v xs k) (hkb : k ≤ 8796093022208) :
    Calls Tryz.prog 17 #[ptr wB, opV 1 ar s] w (StepEnd w0 w F wB v xs k) := by
  have H := hid h
  obtain ⟨i0, hi0, hz0, hz1, hz2⟩ := info_parts info_pp
  have HI := hid hi0
  have hlt := h.2.1.lt
  have hl : xs.length ≤ 8796093022208 := Nat.le_trans h.2.2.2.2 hkb
  clear hi0
  clear h
  go_enter Tryz.func17, Tryz.ntmps17
  go_wp2_with fail
  go_at_call 46
  refine (New_any 1 (fun _ => False) _).mono ?_
  rintro e w2 ⟨rfl, u2, hz, hP⟩
  rw [World.size_alloc] at hz hP ⊢
  have u2' : Below w.heap.size w w2 := (Below.alloc (Below.refl _ _) (Nat.le_refl _) _).trans (u2.mono (by simp))
  have hW := H.out.2.1.keep (w' := w2) (F' := F) (fun j hj _ => u2'.block j hj) (fun j hj => .inl hj) rfl rfl
  obtain ⟨c0, f0⟩ := hW.cell
  have HW := hid hW
  have U2 := hid u2'
  have P2 := hid hP
  have hlt2 := hW.lt
  clear u2 u2' hP hW
  have e4 : ((w2.alloc (.cells #[.slice none 0 0] 95)).alloc (.cells #[ptr (w.heap.size + 1 + 1), ptr (w.heap.size + 1 + 2)] 97)).heap.size = w.heap.size + 1 + 2 + 1 + 1 := by rw [World.size_alloc, World.size_alloc, hz]
  have hone : ∀ j u, [ptr (w.heap.size + 1 + 2 + 1)][j]? = some u → (((w2.alloc (.cells #[.slice none 0 0] 95)).alloc (.cells #[ptr (w.heap.size + 1 + 1), ptr (w.heap.size + 1 + 2)] 97)).alloc (.cells #[ptr (w.heap.size + 1 + 2 + 1)] 37)).cell? ((⟨w.heap.size + 1 + 2 + 1 + 1, 0, none⟩ : Addr).add j) = some u := by
    have := one_at ((w2.alloc (.cells #[.slice none 0 0] 95)).alloc (.cells #[ptr (w.heap.size + 1 + 1), ptr (w.heap.size + 1 + 2)] 97)) 37 (ptr (w.heap.size + 1 + 2 + 1))
    rw [e4] at this
    exact this
  have hp4 : PairAt (((w2.alloc (.cells #[.slice none 0 0] 95)).alloc (.cells #[ptr (w.heap.size + 1 + 1), ptr (w.heap.size + 1 + 2)] 97)).alloc (.cells #[ptr (w.heap.size + 1 + 2 + 1)] 37)) (w.heap.size + 1 + 2 + 1) (w.heap.size + 1 + 1) (w.heap.size + 1 + 2) := by
    have := heap_alloc_new (w2.alloc (.cells #[.slice none 0 0] 95)) (.cells #[ptr (w.heap.size + 1 + 1), ptr (w.heap.size + 1 + 2)] 97)
    rw [World.size_alloc, hz] at this
    exact (Below.heap_alloc _ _ _ (by rw [e4]; omega)).trans this
  have hb4 : OneC (((w2.alloc (.cells #[.slice none 0 0] 95)).alloc (.cells #[ptr (w.heap.size + 1 + 1), ptr (w.heap.size + 1 + 2)] 97)).alloc (.cells #[ptr (w.heap.size + 1 + 2 + 1)] 37)) (w.heap.size + 1 + 2) (.slice none 0 0) := by
    have := heap_alloc_new w2 (.cells #[.slice none 0 0] 95)
    rw [hz] at this
    exact ((Below.heap_alloc _ _ _ (by rw [e4]; omega)).trans (Below.heap_alloc _ _ _ (by rw [World.size_alloc, hz]; omega))).trans this
  have u5 : Below w2.heap.size w2 (((w2.alloc (.cells #[.slice none 0 0] 95)).alloc (.cells #[ptr (w.heap.size + 1 + 1), ptr (w.heap.size + 1 + 2)] 97)).alloc (.cells #[ptr (w.heap.size + 1 + 2 + 1)] 37)) := ((Below.alloc (Below.refl _ _) (Nat.le_refl _) _).alloc (by simp) _).alloc (by simp; omega) _
  have O5 := hid (((HW.out.2.1.alloc (.cells #[.slice none 0 0] 95)).alloc (.cells #[ptr (w.heap.size + 1 + 1), ptr (w.heap.size + 1 + 2)] 97)).alloc (.cells #[ptr (w.heap.size + 1 + 2 + 1)] 37))
  have HONE := hid hone
  have HP4 := hid hp4
  have HB4 := hid hb4
  have U5 := hid u5
  have E4 := hid e4
  clear hone hp4 hb4 u5 e4
  go_wp2_with (at_builtin; refine wpList_append_sep _ rfl _ _ 29 rfl 37 i0 (.pointer none) 1 8 Tryz.underlying29 HI.out hz0 hz1 hz2 rfl (by decide) _ _ _ rfl O5.out ⟨w.heap.size + 1 + 2 + 1 + 1, 0, none⟩ 1 1 [ptr (w.heap.size + 1 + 2 + 1)] rfl rfl HONE.out (by simp [Value.oneCell']) (by unfold maxLen; omega) (by omega) ?_)
  intro v' W6 hO6 hg6 hmv
  have hB6 := hg6.block wB (by simp; omega) (fun e => (H.out.2.1.2.2.2.2 wB e.symm).1 rfl)
  have c6 : W6.cell? ⟨wB, 0, none⟩ = some v := cell_keep (hB6.trans (U5.out.block wB (by omega))) c0
  have f6 : W6.frozen? ⟨wB, 0, none⟩ = false := (World.frozen?_of_block (hB6.trans (U5.out.block wB (by omega)))).trans f0
  have O6 := hid hO6
  have G6 := hid hg6
  have MV := hid hmv
  clear hO6 hg6 hmv hB6
  obtain ⟨ad', cap', rfl⟩ := row_slice O6.out
  go_wp2
  go_ret
  have q := U5.out.size
  refine new_end (p := w.heap.size + 1 + 2 + 1) (a := w.heap.size + 1 + 1) (m := w.heap.size + 1) (b := w.heap.size + 1 + 2) H.out rfl (U2.out.trans (U5.out.mono U2.out.size)) ⟨by simp, by simp; omega⟩ (fun j hj => ?_) HP4.out (fun F' => ?_) (fun F' => ⟨_, HB4.out, RdI.nil _ _ _⟩) O6.out G6.out MV.out
  · have e4 := E4.out
    rw [World.size_alloc, e4]
    simp at hj
    omega
  · exact P2.out.keep (U5.out.block _ P2.out.1.lt) (U5.out.block _ P2.out.mlt) (fun _ h => h.elim) (fun _ h => h.elim)
end Go.Proofs.YtaokifbpakbgdaaGreatDoor

/- Package foliolaw on archives: step; Shelves. -/
namespace Go.Proofs.YtaokifbpakbgdaaGreatDoor
open Go.RowKit

theorem step_any (w0 w : World) (F : Nat → Prop) (wB : Nat) (v : Value) (xs : List Sh) (k : Nat) (kd ar : Int) (s : By) (h : St w0 w F wB v xs k) (hV : Vars w0) (hN : NamesV w0) (hkd : -9223372036854775808 ≤ kd ∧ kd ≤ 9223372036854775807) (har : -9223372036854775808 ≤ ar ∧ ar ≤ 9223372036854775807) (hs : s.length ≤ 9223372036854775807) (h5 : kd ≠ 5) (hne : kd = 1 ∨ 0 < xs.length) (hkb : k ≤ 8796093022208) :
    Calls Tryz.prog 17 #[ptr wB, opV kd ar s] w (StepEnd w0 w F wB v xs k) := by
  by_cases k1 : kd = 1
  · subst k1
    exact step_new w0 w F wB v xs k ar s h hkb
  have hx := hne.resolve_left k1
  by_cases kr : kd < 2 ∨ 5 < kd
  · exact step_rest w0 w F wB v xs k kd ar s h hkd k1 kr hx
  rcases (show kd = 4 ∨ kd = 3 ∨ kd = 2 by omega) with rfl | rfl | rfl
  · exact step_count w0 w F wB v xs k ar s h hV hN har hx hkb
  · exact step_delete w0 w F wB v xs k ar s h hV hN har hs hx hkb
  · exact step_store w0 w F wB v xs k ar s h hV hN har hx hkb
/-- A script. -/
abbrev Opn := Int × Int × By
def OpAt (w : World) (a : Addr) (x : Opn) : Prop := w.cell? a = some (.int .i64 x.1) ∧ w.cell? (a.add 1) = some (.int .i64 x.2.1) ∧ w.cell? (a.add 2) = some (.string (bs x.2.2))
def OkOp (x : Opn) : Prop := (-9223372036854775808 ≤ x.1 ∧ x.1 ≤ 9223372036854775807) ∧ (-9223372036854775808 ≤ x.2.1 ∧ x.2.1 ≤ 9223372036854775807) ∧ x.2.2.length ≤ 9223372036854775807
def Scr (w : World) (v : Value) (l : List Opn) : Prop := Sl (fun j => j < w.heap.size) 3 (OpAt w) v l ∧ (∀ x ∈ l, OkOp x) ∧ l.length ≤ 4398046511104
/-- Between two steps. -/
def Lp (w : World) (wB fB : Nat) (fO : Obj) (k : Nat) (wr : World) : Prop := ∃ F v xs, St w wr F wB v xs k ∧ ¬ Ownd wB v xs fB ∧ wr.heap[fB]? = some fO ∧ (k = 0 ∨ 0 < xs.length)
abbrev fstO (s0 : By) : Obj := .cells #[.int .i64 1, .int .i64 0, .string ⟨#[]⟩, .int .i64 2, .int .i64 0, .string (bs s0), .int .i64 4, .int .i64 0, .string ⟨#[]⟩] 34 (0, 0)
theorem Lp.start {w W : World} {fB : Nat} {fO : Obj} (u : Below w.heap.size w W) (hB : W.heap[w.heap.size]? = some (.cells #[.slice none 0 0, .slice none 0 0] 32 (0, 0))) (hf : W.heap[fB]? = some fO) (hne : fB ≠ w.heap.size) : Lp w w.heap.size fB fO 0 W :=
  ⟨fun _ => False, .slice none 0 0, [], ⟨u, ⟨⟨_, hB⟩, World.ownsRow_nil _ _ _ _, id, (fun h => by cases h), (fun j hj => by cases hj)⟩, ⟨List.nodup_nil, (fun j hj => by cases hj), (fun j hj => hj.elim), (fun x hx => by cases hx)⟩, (fun j hj => by rcases hj with e | e | e <;> first | (subst e; exact Nat.le_refl _) | cases e), Nat.le_refl _⟩, (fun h => by rcases h with e | e | e <;> first | exact hne e | cases e), hf, .inl rfl⟩
theorem Lp.up {w wr W : World} {wB fB k : Nat} {fO : Obj} (h : Lp w wB fB fO k wr) (u : Below wr.heap.size wr W) : Lp w wB fB fO k W := by
  obtain ⟨F, v, xs, h1, h2, h3, h4⟩ := h
  exact ⟨F, v, xs, h1.up u (Nat.le_refl _), h2, (u.block _ (lt_of_block h3)).trans h3, h4⟩
theorem Lp.step {w wr : World} {wB fB k : Nat} {fO : Obj} (h : Lp w wB fB fO k wr) (hV : Vars w) (hN : NamesV w) {kd ar : Int} {s : By} (hok : OkOp (kd, ar, s)) (h5 : kd ≠ 5) (h1 : k = 0 → kd = 1) (hk : k ≤ 8796093022208) :
    Calls Tryz.prog 17 #[ptr wB, opV kd ar s] wr fun e w' => e = .returned (.bool true) ∧ Lp w wB fB fO (k + 1) w' := by
  obtain ⟨F, v, xs, g1, g2, g3, g4⟩ := h
  refine (step_any w wr F wB v xs k kd ar s g1 hV hN hok.1 hok.2.1 hok.2.2 h5 (g4.imp h1 id) hk).mono ?_
  rintro e w' ⟨he, F', v', xs', q1, ⟨q2, q3, q4, _⟩, q5, _⟩
  have hlt := lt_of_block g3
  refine ⟨he, F', v', xs', q1, fun e => ?_, (q3 fB hlt g2).trans g3, .inr q5⟩
  rcases q4 fB e with e | e
  · exact g2 e
  · omega
end Go.Proofs.YtaokifbpakbgdaaGreatDoor

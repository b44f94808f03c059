/-
  Package foliolaw on archives: step.
-/
import Derived.Test.YtaokifbpakbgdaaGreatDoorArS2
import Derived.BigQuiet
namespace Go.Proofs.YtaokifbpakbgdaaGreatDoor
open Go.RowKit

/-- What may turn. -/
def Ownd (wB : Nat) (v : Value) (xs : List Sh) (j : Nat) : Prop := j = wB ∨ v.ownBlock = some j ∨ j ∈ mutL xs
def St (w0 w : World) (F : Nat → Prop) (wB : Nat) (v : Value) (xs : List Sh) (k : Nat) : Prop := Below w0.heap.size w0 w ∧ Wld w F wB v xs ∧ Shs w F xs k ∧ (∀ j, Ownd wB v xs j → w0.heap.size ≤ j) ∧ xs.length ≤ k
def Stp (wB : Nat) (w : World) (v : Value) (xs : List Sh) (w' : World) (v' : Value) (xs' : List Sh) : Prop := w.heap.size ≤ w'.heap.size ∧ (∀ j, j < w.heap.size → ¬ Ownd wB v xs j → w'.heap[j]? = w.heap[j]?) ∧ ∀ j, Ownd wB v' xs' j → Ownd wB v xs j ∨ w.heap.size ≤ j
/-- A step's end. -/
def StepEnd (w0 w : World) (wB : Nat) (v : Value) (xs : List Sh) (k : Nat) (e : Ending) (w' : World) : Prop := e = .returned (.bool true) ∧ ∃ F' v' xs', St w0 w' F' wB v' xs' (k + 1) ∧ Stp wB w v xs w' v' xs' ∧ 0 < xs'.length
/-- Nothing has turned below. -/
theorem St.up {w0 w w' : World} {F : Nat → Prop} {wB : Nat} {v : Value} {xs : List Sh} {k k' : Nat} (h : St w0 w F wB v xs k) (u : Below w.heap.size w w') (hk : k ≤ k') : St w0 w' F wB v xs k' := by
  obtain ⟨h1, h2, h3, h4, h5⟩ := h
  exact ⟨h1.trans (u.mono h1.size), h2.keep (fun j hj _ => u.block j hj) (fun j hj => .inl hj) rfl rfl, h3.up u hk, h4, by omega⟩
theorem Stp.of {wB : Nat} {w w' : World} {v : Value} {xs : List Sh} (u : Below w.heap.size w w') : Stp wB w v xs w' v xs := ⟨u.size, fun j hj _ => u.block j hj, fun _ h => .inl h⟩
theorem StepEnd.same {w0 w w' : World} {F : Nat → Prop} {wB : Nat} {v : Value} {xs : List Sh} {k : Nat} {e : Ending} (h : St w0 w F wB v xs k) (he : e = .returned (.bool true)) (u : Below w.heap.size w w') (hx : 0 < xs.length) : StepEnd w0 w wB v xs k e w' :=
  ⟨he, F, v, xs, h.up u (Nat.le_succ _), Stp.of u, hx⟩
/-- One archive has turned, and the document's. -/
theorem StepEnd.turn {w0 w w' : World} {F : Nat → Prop} {wB : Nat} {v : Value} {xs : List Sh} {k i : Nat} {e : Ending} (h : St w0 w F wB v xs k) (he : e = .returned (.bool true)) (hi : i < xs.length) {T' : Int} {A' : List (List (El 3))} (hz : w.heap.size ≤ w'.heap.size) (hos : w'.os = w.os ∧ w'.tape = w.tape ∧ w'.output = w.output)
    (hk : ∀ j, j < w.heap.size → j ≠ (xs[i]).a → j ≠ (xs[i]).m → j ≠ (xs[i]).b → w'.heap[j]? = w.heap[j]?) (hP : ProA w' (Nw F w w') 1 (xs[i]).a (xs[i]).m T' A') (hR : RefA w' (Nw F w w') 2 (xs[i]).b A') (hG : Good A') (hT : 0 ≤ T' ∧ T' ≤ k + 1) : StepEnd w0 w wB v xs k e w' := by
  obtain ⟨h1, h2, h3, h4, h5⟩ := h
  have hm := mutL_set hi (y := { xs[i] with T := T', A := A' }) rfl
  have hk2 : ∀ j, j < w.heap.size → ¬ j ∈ mutL xs → w'.heap[j]? = w.heap[j]? := fun j hj hn => by
    refine hk j hj ?_ ?_ ?_ <;> (intro e; exact hn (mut_mem (List.getElem_mem hi) (by rw [e]; simp [Sh.mut])))
  have hp : (xs.set i { xs[i] with T := T', A := A' }).map (fun x => ptr x.p) = xs.map (fun x => ptr x.p) := by
    rw [List.map_set]
    apply List.ext_getElem
    · simp
    · intro j h1 h2
      rw [List.getElem_set]
      split
      · next e => subst e; simp
      · rfl
  refine ⟨he, Nw F w w', v, _, ⟨?_, h2.keep hk2 (fun j hj => hj.imp id (fun h => h.1)) hm hp, h3.turn hi hz hk hP hR hG hT, ?_, by rw [List.length_set]; omega⟩, ⟨hz, fun j hj hn => hk2 j hj (fun e => hn (.inr (.inr e))), ?_⟩, by rw [List.length_set]; omega⟩
  · refine ⟨hos.1.trans h1.os, hos.2.1.trans h1.tape, hos.2.2.trans h1.output, Nat.le_trans h1.size hz, fun j hj => ?_⟩
    have := h1.size
    exact (hk2 j (by omega) (fun e => by have := h4 j (.inr (.inr e)); omega)).trans (h1.block j hj)
  · unfold Ownd
    rw [hm]
    exact h4
  · unfold Ownd
    rw [hm]
    exact fun j h => .inl h
theorem mut_ne {w : World} {F : Nat → Prop} {xs : List Sh} {k i : Nat} (h : Shs w F xs k) (hi : i < xs.length) : (xs[i]).a ≠ (xs[i]).m ∧ (xs[i]).a ≠ (xs[i]).b ∧ (xs[i]).m ≠ (xs[i]).b := by
  have h1 := (List.pairwise_flatten.1 h.1).1 _ (List.mem_map.2 ⟨_, List.getElem_mem hi, rfl⟩)
  simp [Sh.mut] at h1
  exact ⟨h1.1.1, h1.1.2, h1.2⟩
/-- The archive has turned, then the document's. -/
theorem turn_two {w0 w W w2 w3 : World} {F : Nat → Prop} {wB : Nat} {v : Value} {xs : List Sh} {k i : Nat} {e : Ending} (h : St w0 w F wB v xs k) (he : e = .returned (.bool true)) (hi : i < xs.length) {x : Sh} (hx : xs[i] = x) {T' : Int} {A' : List (List (El 3))} (u1 : Below w.heap.size w W)
    (hlo : ∀ j, j < W.heap.size → j ≠ x.a → j ≠ x.m → w2.heap[j]? = W.heap[j]?) (hos : w2.os = W.os ∧ w2.tape = W.tape ∧ w2.output = W.output) (hz : W.heap.size ≤ w2.heap.size) (hP : ProA w2 (Nw F W w2) 1 x.a x.m T' A') (u3 : UpB x.b w2 w3) (hR : RefA w3 (Nw F w2 w3) 2 x.b A') (hG : Good A') (hT : 0 ≤ T' ∧ T' ≤ k + 1) : StepEnd w0 w wB v xs k e w3 := by
  subst hx
  obtain ⟨m1, m2, m3⟩ := mut_ne h.2.2.1 hi
  have hb := h.2.2.1.2.1 (xs[i]).b (mut_mem (List.getElem_mem hi) (by simp [Sh.mut]))
  have hz1 := u1.size
  have hz3 := u3.size
  have ha2 := hP.1.lt
  have hm2 := hP.mlt
  refine StepEnd.turn h he hi (by omega) ⟨u3.1.1.trans (hos.1.trans u1.os), u3.1.2.1.trans (hos.2.1.trans u1.tape), u3.1.2.2.trans (hos.2.2.trans u1.output)⟩ (fun j hj e1 e2 e3 => ?_) (hP.keep (u3.block ha2 m2) (u3.block hm2 m3) (fun j hj => ?_) (fun j hj hj2 => u3.block hj2 (fun e => ?_))) (hR.keep rfl (fun j hj => ?_) (fun _ _ _ => rfl)) hG hT
  · rw [u3.block (by omega) e3, hlo j (by omega) e1 e2, u1.block j hj]
  · rcases hj with h | ⟨h1, h2⟩
    · exact .inl h
    · exact .inr ⟨by omega, by omega⟩
  · subst e
    rcases hj with h | ⟨h1, _⟩
    · exact hb.2 h
    · omega
  · rcases hj with h | ⟨h1, h2⟩
    · exact .inl h
    · exact .inr ⟨by omega, by omega⟩
abbrev opV (k a : Int) (s : By) : Value := .agg #[.int .i64 k, .int .i64 a, .string (bs s)]
set_option maxRecDepth 20000 in
set_option maxHeartbeats 4000000 in
theorem step_rest (w0 w : World) (F : Nat → Prop) (wB : Nat) (v : Value) (xs : List Sh) (k : Nat) (kd ar : Int) (s : By) (h : St w0 w F wB v xs k) (hkd : -9223372036854775808 ≤ kd ∧ kd ≤ 9223372036854775807) (k1 : kd ≠ 1) (kr : kd < 2 ∨ 5 < kd) (hx : 0 < xs.length) :
    Calls Tryz.prog 17 #[ptr wB, opV kd ar s] w (StepEnd w0 w wB v xs k) := by
  have H := hid h
  clear h
  by_cases k2 : kd < 2
  · go_enter Tryz.func17, Tryz.ntmps17
    go_wp2
    go_ret
    exact H.out |> fun H => StepEnd.same H rfl (Below.alloc (Below.refl _ _) (Nat.le_refl _) _) hx
  · have k3 : 5 < kd := by omega
    go_enter Tryz.func17, Tryz.ntmps17
    go_wp2
    go_ret
    exact H.out |> fun H => StepEnd.same H rfl (Below.alloc (Below.refl _ _) (Nat.le_refl _) _) hx
set_option maxRecDepth 20000 in
set_option maxHeartbeats 4000000 in
theorem step_count (w0 w : World) (F : Nat → Prop) (wB : Nat) (v : Value) (xs : List Sh) (k : Nat) (ar : Int) (s : By) (h : St w0 w F wB v xs k) (hV : Vars w0) (hN : NamesV w0) (har : -9223372036854775808 ≤ ar ∧ ar ≤ 9223372036854775807) (hx : 0 < xs.length) (hkb : k ≤ 8796093022208) :
    Calls Tryz.prog 17 #[ptr wB, opV 4 ar s] w (StepEnd w0 w wB v xs k) := by
  have H := hid h
  have HV := hid (hV.up h.1)
  have HN := hid (hN.up h.1)
  obtain ⟨c0, f0⟩ := h.2.1.cell
  have hlt := h.2.1.lt
  clear h hV hN
  have hl : xs.length ≤ 8796093022208 := Nat.le_trans H.out.2.2.2.2 hkb
  have hpb := pkL_bd (k := ar) (n := xs.length) (by omega)
  obtain ⟨q, hq⟩ : ∃ q : Nat, pkL ar xs.length = q := ⟨(pkL ar xs.length).toNat, (Int.toNat_of_nonneg hpb.1).symm⟩
  have hql : q < xs.length := by omega
  obtain ⟨g, cap, rfl, cq⟩ := H.out.2.1.at hql
  have hgl : g < w.heap.size := World.block_lt_of_cell? _ _ cq
  have c1 := fun W => lpick_any ar xs.length W har.1 har.2 (by omega) (by omega)
  rw [hq] at c1
  have C1 := hid c1
  have hO := H.out.2.2.1.2.2.2 _ (List.getElem_mem hql)
  have hF := H.out.2.2.1.2.2.1
  have hlow : ∀ j, F j → j < w.heap.size := hF
  generalize hX : xs[q] = x at cq hO
  have HX := hid hX
  have HO := hid hO
  have HF := hid hF
  clear hX hO hF hlow hpb hq c1
  go_enter Tryz.func17, Tryz.ntmps17
  go_wp2_with fail
  go_quiet ((go_at_call 47; exact Calls.quiet_of_same (C1.out _)))
  have u1 : Below w.heap.size w ((w.alloc (Obj.cells #[Value.int IntKind.i64 4, Value.int IntKind.i64 ar, Value.string (bs s)] 34)).drewN nq) := below_drewN (Below.alloc (Below.refl _ _) (Nat.le_refl _) _) _
  have U1 := hid u1
  clear u1
  go_wp2_with fail
  go_at_call 18
  obtain ⟨p1, p2, p3, p4, p5, _⟩ := HO.out.keep (F' := F) (k' := k) (fun _ h => h) (fun j hj => U1.out.block j (HF.out j hj)) (fun j hj => U1.out.block j (H.out.2.2.1.2.1 j (mut_mem (List.getElem_mem hql) (by rw [HX.out]; exact hj))).1) (Nat.le_refl _)
  refine (counted_any F _ _ _ _ _ _ _ p1 p3 p4 (fun j hj => Nat.lt_of_lt_of_le (HF.out j hj) U1.out.size) p5 p5.short (HN.out.up U1.out)).mono ?_
  rintro e w2 ⟨rfl, u2⟩
  have U2 := hid (U1.out.trans (u2.mono U1.out.size))
  clear u2 p1 p2 p3 p4 p5
  go_wp2
  go_ret
  exact StepEnd.same H.out rfl U2.out hx
end Go.Proofs.YtaokifbpakbgdaaGreatDoor

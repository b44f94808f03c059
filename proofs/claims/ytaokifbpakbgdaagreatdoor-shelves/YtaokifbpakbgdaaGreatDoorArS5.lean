/-
  Package foliolaw on archives: step, Delete.
-/
import Derived.Test.YtaokifbpakbgdaaGreatDoorArS3
namespace Go.Proofs.YtaokifbpakbgdaaGreatDoor
open Go.RowKit

set_option maxRecDepth 20000 in
set_option maxHeartbeats 4000000 in
theorem step_delete (w0 w : World) (F : Nat → Prop) (wB : Nat) (v : Value) (xs : List Sh) (k : Nat) (ar : Int) (s : By) (h : St w0 w F wB v xs k) (hV : Vars w0) (hN : NamesV w0) (har : -9223372036854775808 ≤ ar ∧ ar ≤ 9223372036854775807) (hs : s.length ≤ 9223372036854775807) (hx : 0 < xs.length) (hkb : k ≤ 8796093022208) :
    Calls Tryz.prog 17 #[ptr wB, opV 3 ar s] w (StepEnd w0 w wB v xs k) := by
  have H := hid h
  have HV := hid (hV.up h.1)
  have HN := hid (hN.up h.1)
  obtain ⟨c0, f0⟩ := h.2.1.cell
  have hlt := h.2.1.lt
  clear h hV hN
  have hl : xs.length ≤ 8796093022208 := Nat.le_trans H.out.2.2.2.2 hkb
  have hpb := pkL_bd (k := ar) (n := xs.length) (by omega)
  obtain ⟨q, hq⟩ : ∃ q : Nat, pkL ar xs.length = q := ⟨(pkL ar xs.length).toNat, (Int.toNat_of_nonneg hpb.1).symm⟩
  have hql : q < xs.length := by omega
  obtain ⟨g, cap, rfl, cq⟩ := H.out.2.1.at hql
  have hgl : g < w.heap.size := World.block_lt_of_cell? _ _ cq
  have c1 := fun W => lpick_any ar xs.length W har.1 har.2 (by omega) (by omega)
  rw [hq] at c1
  have C1 := hid c1
  have hO := H.out.2.2.1.2.2.2 _ (List.getElem_mem hql)
  have hF := H.out.2.2.1.2.2.1
  have hlow : ∀ j, F j → j < w.heap.size := hF
  generalize hX : xs[q] = x at cq hO
  have HX := hid hX
  have HO := hid hO
  have HF := hid hF
  clear hX hO hF hlow hpb hq c1
  go_enter Tryz.func17, Tryz.ntmps17
  go_wp2_with fail
  go_quiet ((go_at_call 47; exact Calls.quiet_of_same (C1.out _)))
  have u1 : Below w.heap.size w ((w.alloc (Obj.cells #[Value.int IntKind.i64 3, Value.int IntKind.i64 ar, Value.string (bs s)] 34)).drewN nq) := below_drewN (Below.alloc (Below.refl _ _) (Nat.le_refl _) _) _
  have b1 : ((w.alloc (Obj.cells #[Value.int IntKind.i64 3, Value.int IntKind.i64 ar, Value.string (bs s)] 34)).drewN nq).heap[w.heap.size]? = some (.cells #[Value.int IntKind.i64 3, Value.int IntKind.i64 ar, Value.string (bs s)] 34 (0, 0)) := heap_alloc_new _ _
  generalize (w.alloc (Obj.cells #[Value.int IntKind.i64 3, Value.int IntKind.i64 ar, Value.string (bs s)] 34)).drewN nq = W at u1 b1 ⊢
  obtain ⟨p1, p2, p3, p4, p5, p6⟩ := HO.out.keep (w' := W) (F' := F) (k' := k) (fun _ h => h) (fun j hj => u1.block j (HF.out j hj)) (fun j hj => u1.block j (H.out.2.2.1.2.1 j (mut_mem (List.getElem_mem hql) (by rw [HX.out]; exact hj))).1) (Nat.le_refl _)
  have hmu : ∀ j ∈ x.mut, j < w.heap.size ∧ ¬ F j := fun j hj => H.out.2.2.1.2.1 j (mut_mem (List.getElem_mem hql) (by rw [HX.out]; exact hj))
  obtain ⟨x0, x1⟩ := p1.cells
  have o0 : W.cell? ⟨w.heap.size, 0, none⟩ = some (.int .i64 3) := by simp [World.cell?, b1]
  have o2 : W.cell? ⟨w.heap.size, 2, none⟩ = some (.string (bs s)) := by simp [World.cell?, b1]
  have c2 := Delete_any 1 F W.drew x.a x.m x.T x.A s (p3.keep rfl rfl (fun _ h => h) (fun _ _ _ => rfl)) (fun j hj => ⟨Nat.lt_of_lt_of_le (HF.out j hj) u1.size, fun e => (hmu _ (by simp [Sh.mut])).2 (e ▸ hj)⟩) p5.2.1 p5.1 (by unfold maxLen; omega)
  have C2 := hid c2
  have U1 := hid u1
  have P1 := hid p1
  have P2 := hid p2
  have P4 := hid p4
  have P5 := hid p5
  have P6 := hid p6
  have HM := hid hmu
  have hWz := u1.size
  have B1 := hid b1
  clear c2 u1 p1 p2 p3 p4 p5 p6 hmu b1
  go_wp2_with fail
  go_region_with (go_at_call 50; refine C2.out.mono ?_; rintro e w2 ⟨rfl, ⟨hos, hz, hlo0⟩, hP2⟩)
  all_goals
    have hxp : x.p ≠ x.a ∧ x.p ≠ x.m := ⟨fun e => (HM.out _ (by simp [Sh.mut])).2 (e ▸ P2.out), fun e => (HM.out _ (by simp [Sh.mut])).2 (e ▸ P2.out)⟩
    have hma := (HM.out x.a (by simp [Sh.mut])).1
    have hmm := (HM.out x.m (by simp [Sh.mut])).1
    have hmb := HM.out x.b (by simp [Sh.mut])
    have hne3 : x.a ≠ x.m ∧ x.a ≠ x.b ∧ x.m ≠ x.b := by rw [← HX.out]; exact mut_ne H.out.2.2.1 hql
    have hlo : ∀ j, j < W.drew.heap.size → j ≠ x.a → j ≠ x.m → w2.heap[j]? = W.drew.heap[j]? := fun j hj _ hm => hlo0 j hj hm
    have hlo2 : ∀ j, j < W.heap.size → j ≠ x.a → j ≠ x.m → w2.heap[j]? = W.heap[j]? := hlo
    have hz2 : W.heap.size ≤ w2.heap.size := hz
    obtain ⟨_, y1⟩ := (P1.out.keep (hlo2 _ P1.out.lt hxp.1 hxp.2)).cells
    have q1 : w2.heap[w.heap.size]? = some (.cells #[Value.int IntKind.i64 3, Value.int IntKind.i64 ar, Value.string (bs s)] 34 (0, 0)) := (hlo2 _ (lt_of_block B1.out) (by omega) (by omega)).trans B1.out
    have o3 : w2.cell? ⟨w.heap.size, 2, none⟩ = some (.string (bs s)) := by simp [World.cell?, q1]
    have hR2 : RefA w2.drew F 2 x.b x.A := P4.out.keep (hlo2 _ P4.out.lt (fun e => hne3.2.1 e.symm) (fun e => hne3.2.2 e.symm)) (fun _ h => h) (fun j hj hj2 => hlo2 j hj2 (fun e => (HM.out _ (by simp [Sh.mut])).2 (e ▸ hj)) (fun e => (HM.out _ (by simp [Sh.mut])).2 (e ▸ hj)))
    have c3 := rDelete_any 2 F w2.drew x.b x.A s hR2 (fun j hj => ⟨Nat.lt_of_lt_of_le (Nat.lt_of_lt_of_le (HF.out j hj) hWz) hz2, fun e => hmb.2 (e ▸ hj)⟩) P5.out.1 P5.out.short
    have C3 := hid c3
    have L2 := hid hlo
    have O2 := hid hos
    have Z2 := hid hz
    have PP := hid hP2
    have HT := hid (show 0 ≤ x.T ∧ x.T ≤ k + 1 by have := P6.out; omega)
    clear c3 hlo hos hz hP2 hR2 q1 hlo2 hne3 hmb hma hmm hlo0 x0 x1 o0 o2 C2
    generalize decide ((outA x.A s).length < x.A.length) = ee at C3 ⊢
    go_wp2_with fail
    go_region_with (go_at_call 51; refine C3.out.mono ?_; rintro e w3 ⟨rfl, u3, hR3⟩)
  all_goals
    have U3 := hid u3
    have R3 := hid hR3
    clear u3 hR3 C3
    go_wp2
    go_ret
    exact turn_two H.out rfl hql HX.out (W := W.drew) (w2 := w2) (U1.out.trans (Below.mono (Below.drew (Below.refl _ _)) hWz)) L2.out O2.out Z2.out PP.out U3.out R3.out (P5.out.out s) HT.out
end Go.Proofs.YtaokifbpakbgdaaGreatDoor

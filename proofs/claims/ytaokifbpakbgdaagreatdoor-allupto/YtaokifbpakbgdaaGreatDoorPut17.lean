/-
  Several texts in one; what each one has stands at its head.
-/
import Derived.Test.YtaokifbpakbgdaaGreatDoorPut16
import Derived.Test.YtaokifbpakbgdaaGreatDoorPut3
import Derived.Laws.IdiomArrays
import Derived.Test.YtaokifbpakbgdaaGreatDoorPut15
import Derived.BigQuiet
import Derived.Test.YtaokifbpakbgdaaGreatDoorPut11
/- Package foliolaw on archives: step, Delete. -/
namespace Go.Proofs.YtaokifbpakbgdaaGreatDoor
open Go.RowKit

set_option maxRecDepth 20000 in
set_option maxHeartbeats 4000000 in
theorem step_delete (w0 w : World) (F : Nat → Prop) (wB : Nat) (v : Value) (xs : List Sh) (k : Nat) (ar : Int) (s : By) (h : St w0 w F wB v xs k) (hV : Vars w0) (hN : NamesV w0) (har : -9223372036854775808 ≤ ar ∧ ar ≤ 9223372036854775807) (hs : s.length ≤ 9223372036854775807) (hx : 0 < xs.length) (hkb : k ≤ 8796093022208) :
    Calls Tryz.prog 17 #[ptr wB, opV 3 ar s] w (StepEnd w0 w F wB v xs k) := by
  have H := hid h
  have HV := hid (hV.up h.1)
  have HN := hid (hN.up h.1)
  obtain ⟨c0, f0⟩ := h.2.1.cell
  have hlt := h.2.1.lt
  clear h hV hN
  have hl : xs.length ≤ 8796093022208 := Nat.le_trans H.out.2.2.2.2 hkb
  have hpb := pkL_bd (k := ar) (n := xs.length) (by omega)
  obtain ⟨q, hq⟩ : ∃ q : Nat, pkL ar xs.length = q := ⟨(pkL ar xs.length).toNat, (Int.toNat_of_nonneg hpb.1).symm⟩
  have hql : q < xs.length := by omega
  obtain ⟨g, cap, rfl, cq⟩ := H.out.2.1.at hql
  have hgl : g < w.heap.size := World.block_lt_of_cell? _ _ cq
  have c1 := fun W => lpick_any ar xs.length W har.1 har.2 (by omega) (by omega)
  rw [hq] at c1
  have C1 := hid c1
  have hO := H.out.2.2.1.2.2.2 _ (List.getElem_mem hql)
  have hF := H.out.2.2.1.2.2.1
  have hlow : ∀ j, F j → j < w.heap.size := hF
  generalize hX : xs[q] = x at cq hO
  have HX := hid hX
  have HO := hid hO
  have HF := hid hF
  clear hX hO hF hlow hpb hq c1
  go_enter Tryz.func17, Tryz.ntmps17
  go_wp2_with fail
  go_quiet ((go_at_call 47; exact Calls.quiet_of_same (C1.out _)))
  have u1 : Below w.heap.size w ((w.alloc (Obj.cells #[Value.int IntKind.i64 3, Value.int IntKind.i64 ar, Value.string (bs s)] 34)).drewN nq) := below_drewN (Below.alloc (Below.refl _ _) (Nat.le_refl _) _) _
  have b1 : ((w.alloc (Obj.cells #[Value.int IntKind.i64 3, Value.int IntKind.i64 ar, Value.string (bs s)] 34)).drewN nq).heap[w.heap.size]? = some (.cells #[Value.int IntKind.i64 3, Value.int IntKind.i64 ar, Value.string (bs s)] 34 (0, 0)) := heap_alloc_new _ _
  generalize (w.alloc (Obj.cells #[Value.int IntKind.i64 3, Value.int IntKind.i64 ar, Value.string (bs s)] 34)).drewN nq = W at u1 b1 ⊢
  obtain ⟨p1, p2, p3, p4, p5, p6⟩ := HO.out.keep (w' := W) (F' := F) (k' := k) (fun _ h => h) (fun j hj => u1.block j (HF.out j hj)) (fun j hj => u1.block j (H.out.2.2.1.2.1 j (mut_mem (List.getElem_mem hql) (by rw [HX.out]; exact hj))).1) (Nat.le_refl _)
  have hmu : ∀ j ∈ x.mut, j < w.heap.size ∧ ¬ F j := fun j hj => H.out.2.2.1.2.1 j (mut_mem (List.getElem_mem hql) (by rw [HX.out]; exact hj))
  obtain ⟨x0, x1⟩ := p1.cells
  have o0 : W.cell? ⟨w.heap.size, 0, none⟩ = some (.int .i64 3) := by simp [World.cell?, b1]
  have o2 : W.cell? ⟨w.heap.size, 2, none⟩ = some (.string (bs s)) := by simp [World.cell?, b1]
  have c2 := Delete_any 1 F W.drew x.a x.m x.T x.A s (p3.keep rfl rfl (fun _ h => h) (fun _ _ _ => rfl)) (fun j hj => ⟨Nat.lt_of_lt_of_le (HF.out j hj) u1.size, fun e => (hmu _ (by simp [Sh.mut])).2 (e ▸ hj)⟩) p5.2.1 p5.1 (by unfold maxLen; omega)
  have C2 := hid c2
  have U1 := hid u1
  have P1 := hid p1
  have P2 := hid p2
  have P4 := hid p4
  have P5 := hid p5
  have P6 := hid p6
  have HM := hid hmu
  have hWz := u1.size
  have B1 := hid b1
  clear c2 u1 p1 p2 p3 p4 p5 p6 hmu b1
  go_wp2_with fail
  go_region_with (go_at_call 50; refine C2.out.mono ?_; rintro e w2 ⟨rfl, ⟨hos, hz, hlo0⟩, hP2⟩)
  all_goals
    have hxp : x.p ≠ x.a ∧ x.p ≠ x.m := ⟨fun e => (HM.out _ (by simp [Sh.mut])).2 (e ▸ P2.out), fun e => (HM.out _ (by simp [Sh.mut])).2 (e ▸ P2.out)⟩
    have hma := (HM.out x.a (by simp [Sh.mut])).1
    have hmm := (HM.out x.m (by simp [Sh.mut])).1
    have hmb := HM.out x.b (by simp [Sh.mut])
    have hne3 : x.a ≠ x.m ∧ x.a ≠ x.b ∧ x.m ≠ x.b := by rw [← HX.out]; exact mut_ne H.out.2.2.1 hql
    have hlo : ∀ j, j < W.drew.heap.size → j ≠ x.a → j ≠ x.m → w2.heap[j]? = W.drew.heap[j]? := fun j hj _ hm => hlo0 j hj hm
    have hlo2 : ∀ j, j < W.heap.size → j ≠ x.a → j ≠ x.m → w2.heap[j]? = W.heap[j]? := hlo
    have hz2 : W.heap.size ≤ w2.heap.size := hz
    obtain ⟨_, y1⟩ := (P1.out.keep (hlo2 _ P1.out.lt hxp.1 hxp.2)).cells
    have q1 : w2.heap[w.heap.size]? = some (.cells #[Value.int IntKind.i64 3, Value.int IntKind.i64 ar, Value.string (bs s)] 34 (0, 0)) := (hlo2 _ (lt_of_block B1.out) (by omega) (by omega)).trans B1.out
    have o3 : w2.cell? ⟨w.heap.size, 2, none⟩ = some (.string (bs s)) := by simp [World.cell?, q1]
    have hR2 : RefA w2.drew F 2 x.b x.A := P4.out.keep (hlo2 _ P4.out.lt (fun e => hne3.2.1 e.symm) (fun e => hne3.2.2 e.symm)) (fun _ h => h) (fun j hj hj2 => hlo2 j hj2 (fun e => (HM.out _ (by simp [Sh.mut])).2 (e ▸ hj)) (fun e => (HM.out _ (by simp [Sh.mut])).2 (e ▸ hj)))
    have c3 := rDelete_any 2 F w2.drew x.b x.A s hR2 (fun j hj => ⟨Nat.lt_of_lt_of_le (Nat.lt_of_lt_of_le (HF.out j hj) hWz) hz2, fun e => hmb.2 (e ▸ hj)⟩) P5.out.1 P5.out.short
    have C3 := hid c3
    have L2 := hid hlo
    have O2 := hid hos
    have Z2 := hid hz
    have PP := hid hP2
    have HT := hid (show 0 ≤ x.T ∧ x.T ≤ k + 1 by have := P6.out; omega)
    clear c3 hlo hos hz hP2 hR2 q1 hlo2 hne3 hmb hma hmm hlo0 x0 x1 o0 o2 C2
    generalize decide ((outA x.A s).length < x.A.length) = ee at C3 ⊢
    go_wp2_with fail
    go_region_with (go_at_call 51; refine C3.out.mono ?_; rintro e w3 ⟨rfl, u3, hR3⟩)
  all_goals
    have U3 := hid u3
    have R3 := hid hR3
    clear u3 hR3 C3
    go_wp2
    go_ret
    exact turn_two H.out rfl hql HX.out (W := W.drew) (w2 := w2) (U1.out.trans (Below.mono (Below.drew (Below.refl _ _)) hWz)) L2.out O2.out Z2.out PP.out U3.out R3.out (P5.out.out s) HT.out
end Go.Proofs.YtaokifbpakbgdaaGreatDoor

/- Package foliolaw on archives: step, New. -/
namespace Go.Proofs.YtaokifbpakbgdaaGreatDoor
open Go.RowKit

theorem two_set {w : World} {b : Nat} {c0 c1 : Value} {T : TypeId} (h : w.heap[b]? = some (.cells #[c0, c1] T (0, 0))) (u : Value) : (w.setCell ⟨b, 0, none⟩ u).heap[b]? = some (.cells #[u, c1] T (0, 0)) := by
  have hlt := lt_of_block h
  have h' : w.heap[b] = .cells #[c0, c1] T (0, 0) := by simpa [Array.getElem?_eq_getElem hlt] using h
  show (w.heap.modify b _)[b]? = _
  rw [Array.getElem?_eq_getElem (by simpa using hlt), Array.getElem_modify_self, h']
  rfl
theorem new_end {w0 w W5 W6 : World} {F : Nat → Prop} {wB : Nat} {v v' : Value} {xs : List Sh} {k p a m b : Nat} {e : Ending} (h : St w0 w F wB v xs k) (he : e = .returned (.bool true)) (u5 : Below w.heap.size w W5) (hne : [a, m, b].Nodup ∧ p ∉ [a, m, b]) (hlo : ∀ j ∈ [p, a, m, b], w.heap.size ≤ j ∧ j < W5.heap.size)
    (hp : PairAt W5 p a b) (hA : ∀ F, ProA W5 F 1 a m 0 []) (hR : ∀ F, RefA W5 F 2 b []) (hO : W6.ownsRow 0 37 1 v' (xs.length + 1) (xs.map (fun x => ptr x.p) ++ [ptr p])) (hg : W5.grownBy W6 v.ownBlock) (hmv : Moved W5 v v') : StepEnd w0 w F wB v xs k e (W6.setCell ⟨wB, 0, none⟩ v') := by
  have hB := h.2.1.lt
  obtain ⟨h1, h2, h3, h4, h5⟩ := h
  have h2' := h2
  obtain ⟨⟨lv, w1⟩, w2, w3, w4, w5⟩ := h2'
  have hown : ∀ j, v.ownBlock = some j → j < w.heap.size := fun j hj => ownsRow_lt w2 j (by simpa using hj)
  have z5 := u5.size
  have z6 := hg.size
  have hsz : (W6.setCell ⟨wB, 0, none⟩ v').heap.size = W6.heap.size := by simp [World.setCell]
  have hold : ∀ j, j < w.heap.size → j ≠ wB → v.ownBlock ≠ some j → (W6.setCell ⟨wB, 0, none⟩ v').heap[j]? = w.heap[j]? := fun j hj e1 e2 => by
    rw [Below.heap_setCell _ _ _ _ e1, hg.block j (by omega) (fun e => e2 e.symm), u5.block j hj]
  have hnew : ∀ j, w.heap.size ≤ j → j < W5.heap.size → (W6.setCell ⟨wB, 0, none⟩ v').heap[j]? = W5.heap[j]? := fun j hj hj2 => by
    rw [Below.heap_setCell _ _ _ _ (show j ≠ wB by omega), hg.block j hj2 (fun e => by have := hown j e.symm; omega)]
  have hfm : ∀ j, F j ∨ j ∈ mutL xs → (W6.setCell ⟨wB, 0, none⟩ v').heap[j]? = w.heap[j]? := fun j hj => by
    refine hold j (hj.elim (h3.2.2.1 j) (fun hj => (h3.2.1 j hj).1)) (fun e => ?_) (fun e => ?_)
    · subst e
      exact hj.elim w3 w4
    · exact hj.elim (w5 j e).2.1 (w5 j e).2.2
  have hk : ∀ j ∈ [p, a, m, b], (W6.setCell ⟨wB, 0, none⟩ v').heap[j]? = W5.heap[j]? := fun j hj => hnew j (hlo j hj).1 (hlo j hj).2
  have hvb : ∀ j, v'.ownBlock = some j → v.ownBlock = some j ∨ W5.heap.size ≤ j := fun j hj => by
    rcases hmv with e | e
    · exact .inl (e ▸ hj)
    · exact .inr (e j (by simpa using hj))
  have hS : Shs (W6.setCell ⟨wB, 0, none⟩ v') (fun j => F j ∨ j = p) (xs ++ [⟨p, a, m, b, 0, []⟩]) (k + 1) := by
    refine h3.snoc (by omega) hfm (fun j => Iff.rfl) hne.1 (fun j hj => ?_) hne.2 ⟨hp.keep (hk p (by simp)), .inr rfl, ?_, ?_, ⟨by simp, by simp, fun l hl => (by cases hl)⟩, Int.le_refl _, by simp; omega⟩
    · have := hlo j hj
      omega
    · exact (hA (fun _ => False)).keep (hk a (by simp)) (hk m (by simp)) (fun _ h => h.elim) (fun _ h => h.elim)
    · exact (hR (fun _ => False)).keep (hk b (by simp)) (fun _ h => h.elim) (fun _ h => h.elim)
  have hml : ∀ j, j ∈ mutL (xs ++ [⟨p, a, m, b, 0, []⟩]) ↔ j ∈ mutL xs ∨ j ∈ [a, m, b] := fun j => by rw [mutL_snoc, List.mem_append]; rfl
  have hwl : ∀ j ∈ [a, m, b], w.heap.size ≤ j := fun j hj => (hlo j (List.mem_cons_of_mem _ hj)).1
  have hpl := (hlo p (by simp)).1
  have hlt5 : ∀ j ∈ [p, a, m, b], j < W5.heap.size := fun j hj => (hlo j hj).2
  have hB2 : (W6.setCell ⟨wB, 0, none⟩ v').heap[wB]? = some (.cells #[v', lv] 32 (0, 0)) := by
    refine two_set (c0 := v) ?_ v'
    rw [hg.block wB (by omega) (fun e => (w5 wB e.symm).1 rfl), u5.block wB hB]
    exact w1
  have hl2 : ∀ l, w.cell? ⟨wB, 1, none⟩ = some l → (W6.setCell ⟨wB, 0, none⟩ v').cell? ⟨wB, 1, none⟩ = some l := fun l hc => by
    simp [World.cell?, w1] at hc
    simp [World.cell?, hB2, hc]
  refine ⟨he, _, v', _, ⟨?_, ⟨⟨lv, hB2⟩, ?_, ?_, ?_, ?_⟩, hS, ?_, by rw [List.length_append]; simp; omega⟩, ⟨by omega, fun j hj hn => hold j hj (fun e => hn (.inl e)) (fun e => hn (.inr (.inl e))), ?_, hl2⟩, by rw [List.length_append]; simp, fun j hj => hj.imp id (fun h => by rw [h]; exact hpl)⟩
  · have hz0 := h1.size
    refine ⟨?_, ?_, ?_, by omega, fun j hj => ?_⟩
    · exact hg.os.trans (u5.os.trans h1.os)
    · exact hg.tape.trans (u5.tape.trans h1.tape)
    · exact hg.output.trans (u5.output.trans h1.output)
    · rw [hold j (by omega) (fun e => by have := h4 wB (.inl rfl); omega) (fun e => by have := h4 j (.inr (.inl e)); omega), h1.block j hj]
  · rw [List.length_append, List.map_append]
    refine ownsRow_keep hO (fun j hj => Below.heap_setCell _ _ _ _ (fun e => ?_))
    rcases hvb j (by simpa using hj) with q | q
    · exact (w5 j q).1 e
    · have e' : j = wB := e
      omega
  · rintro (e | e)
    · exact w3 e
    · omega
  · rw [hml]
    rintro (e | e)
    · exact w4 e
    · have := hwl wB e; omega
  · intro j hj
    rw [hml]
    rcases hvb j hj with q | q
    · have hj2 := hown j q
      refine ⟨(w5 j q).1, ?_, ?_⟩
      · rintro (e | e)
        · exact (w5 j q).2.1 e
        · omega
      · rintro (e | e)
        · exact (w5 j q).2.2 e
        · have := hwl j e; omega
    · refine ⟨by omega, ?_, ?_⟩
      · rintro (e | e)
        · have := h3.2.2.1 j e; omega
        · have := hlt5 p (by simp); omega
      · rintro (e | e)
        · have := (h3.2.1 j e).1; omega
        · have := hlt5 j (List.mem_cons_of_mem _ e); omega
  · have hz0 := h1.size
    rintro j (e | e | e)
    · exact h4 j (.inl e)
    · rcases hvb j e with q | q
      · exact h4 j (.inr (.inl q))
      · omega
    · rcases (hml j).1 e with q | q
      · exact h4 j (.inr (.inr q))
      · have := hwl j q; omega
  · rintro j (e | e | e)
    · exact .inl (.inl e)
    · rcases hvb j e with q | q
      · exact .inl (.inr (.inl q))
      · exact .inr (by omega)
    · rcases (hml j).1 e with q | q
      · exact .inl (.inr (.inr q))
      · exact .inr (hwl j q)
theorem info_pp : (Tryz.prog.info? 37).map (fun i => (i.zero, i.size, i.bytes)) = some (some (.pointer none), 1, 8) := by kernel_rfl
set_option maxRecDepth 20000 in
set_option maxHeartbeats 4000000 in
theorem step_new (w0 w : World) (F : Nat → Prop) (wB : Nat) (v : Value) (xs : List Sh) (k : Nat) (ar : Int) (s : By) (h : St w0 w F wB v xs k) (hkb : k ≤ 8796093022208) :
    Calls Tryz.prog 17 #[ptr wB, opV 1 ar s] w (StepEnd w0 w F wB v xs k) := by
  have H := hid h
  obtain ⟨i0, hi0, hz0, hz1, hz2⟩ := info_parts info_pp
  have HI := hid hi0
  have hlt := h.2.1.lt
  have hl : xs.length ≤ 8796093022208 := Nat.le_trans h.2.2.2.2 hkb
  clear hi0
  clear h
  go_enter Tryz.func17, Tryz.ntmps17
  go_wp2_with fail
  go_at_call 46
  refine (New_any 1 (fun _ => False) _).mono ?_
  rintro e w2 ⟨rfl, u2, hz, hP⟩
  rw [World.size_alloc] at hz hP ⊢
  have u2' : Below w.heap.size w w2 := (Below.alloc (Below.refl _ _) (Nat.le_refl _) _).trans (u2.mono (by simp))
  have hW := H.out.2.1.keep (w' := w2) (F' := F) (fun j hj _ => u2'.block j hj) (fun j hj => .inl hj) rfl rfl
  obtain ⟨c0, f0⟩ := hW.cell
  have HW := hid hW
  have U2 := hid u2'
  have P2 := hid hP
  have hlt2 := hW.lt
  clear u2 u2' hP hW
  have e4 : ((w2.alloc (.cells #[.slice none 0 0] 95)).alloc (.cells #[ptr (w.heap.size + 1 + 1), ptr (w.heap.size + 1 + 2)] 97)).heap.size = w.heap.size + 1 + 2 + 1 + 1 := by rw [World.size_alloc, World.size_alloc, hz]
  have hone : ∀ j u, [ptr (w.heap.size + 1 + 2 + 1)][j]? = some u → (((w2.alloc (.cells #[.slice none 0 0] 95)).alloc (.cells #[ptr (w.heap.size + 1 + 1), ptr (w.heap.size + 1 + 2)] 97)).alloc (.cells #[ptr (w.heap.size + 1 + 2 + 1)] 37)).cell? ((⟨w.heap.size + 1 + 2 + 1 + 1, 0, none⟩ : Addr).add j) = some u := by
    have := one_at ((w2.alloc (.cells #[.slice none 0 0] 95)).alloc (.cells #[ptr (w.heap.size + 1 + 1), ptr (w.heap.size + 1 + 2)] 97)) 37 (ptr (w.heap.size + 1 + 2 + 1))
    rw [e4] at this
    exact this
  have hp4 : PairAt (((w2.alloc (.cells #[.slice none 0 0] 95)).alloc (.cells #[ptr (w.heap.size + 1 + 1), ptr (w.heap.size + 1 + 2)] 97)).alloc (.cells #[ptr (w.heap.size + 1 + 2 + 1)] 37)) (w.heap.size + 1 + 2 + 1) (w.heap.size + 1 + 1) (w.heap.size + 1 + 2) := by
    have := heap_alloc_new (w2.alloc (.cells #[.slice none 0 0] 95)) (.cells #[ptr (w.heap.size + 1 + 1), ptr (w.heap.size + 1 + 2)] 97)
    rw [World.size_alloc, hz] at this
    exact (Below.heap_alloc _ _ _ (by rw [e4]; omega)).trans this
  have hb4 : OneC (((w2.alloc (.cells #[.slice none 0 0] 95)).alloc (.cells #[ptr (w.heap.size + 1 + 1), ptr (w.heap.size + 1 + 2)] 97)).alloc (.cells #[ptr (w.heap.size + 1 + 2 + 1)] 37)) (w.heap.size + 1 + 2) (.slice none 0 0) := by
    have := heap_alloc_new w2 (.cells #[.slice none 0 0] 95)
    rw [hz] at this
    exact ((Below.heap_alloc _ _ _ (by rw [e4]; omega)).trans (Below.heap_alloc _ _ _ (by rw [World.size_alloc, hz]; omega))).trans this
  have u5 : Below w2.heap.size w2 (((w2.alloc (.cells #[.slice none 0 0] 95)).alloc (.cells #[ptr (w.heap.size + 1 + 1), ptr (w.heap.size + 1 + 2)] 97)).alloc (.cells #[ptr (w.heap.size + 1 + 2 + 1)] 37)) := ((Below.alloc (Below.refl _ _) (Nat.le_refl _) _).alloc (by simp) _).alloc (by simp; omega) _
  have O5 := hid (((HW.out.2.1.alloc (.cells #[.slice none 0 0] 95)).alloc (.cells #[ptr (w.heap.size + 1 + 1), ptr (w.heap.size + 1 + 2)] 97)).alloc (.cells #[ptr (w.heap.size + 1 + 2 + 1)] 37))
  have HONE := hid hone
  have HP4 := hid hp4
  have HB4 := hid hb4
  have U5 := hid u5
  have E4 := hid e4
  clear hone hp4 hb4 u5 e4
  go_wp2_with (at_builtin; refine wpList_append_sep _ rfl _ _ 29 rfl 37 i0 (.pointer none) 1 8 Tryz.underlying29 HI.out hz0 hz1 hz2 rfl (by decide) _ _ _ rfl O5.out ⟨w.heap.size + 1 + 2 + 1 + 1, 0, none⟩ 1 1 [ptr (w.heap.size + 1 + 2 + 1)] rfl rfl HONE.out (by simp [Value.oneCell']) (by unfold maxLen; omega) (by omega) ?_)
  intro v' W6 hO6 hg6 hmv
  have hB6 := hg6.block wB (by simp; omega) (fun e => (H.out.2.1.2.2.2.2 wB e.symm).1 rfl)
  have c6 : W6.cell? ⟨wB, 0, none⟩ = some v := cell_keep (hB6.trans (U5.out.block wB (by omega))) c0
  have f6 : W6.frozen? ⟨wB, 0, none⟩ = false := (World.frozen?_of_block (hB6.trans (U5.out.block wB (by omega)))).trans f0
  have O6 := hid hO6
  have G6 := hid hg6
  have MV := hid hmv
  clear hO6 hg6 hmv hB6
  obtain ⟨ad', cap', rfl⟩ := row_slice O6.out
  go_wp2
  go_ret
  have q := U5.out.size
  refine new_end (p := w.heap.size + 1 + 2 + 1) (a := w.heap.size + 1 + 1) (m := w.heap.size + 1) (b := w.heap.size + 1 + 2) H.out rfl (U2.out.trans (U5.out.mono U2.out.size)) ⟨by simp, by simp; omega⟩ (fun j hj => ?_) HP4.out (fun F' => ?_) (fun F' => ⟨_, HB4.out, RdI.nil _ _ _⟩) O6.out G6.out MV.out
  · have e4 := E4.out
    rw [World.size_alloc, e4]
    simp at hj
    omega
  · exact P2.out.keep (U5.out.block _ P2.out.1.lt) (U5.out.block _ P2.out.mlt) (fun _ h => h.elim) (fun _ h => h.elim)
end Go.Proofs.YtaokifbpakbgdaaGreatDoor

/- Package foliolaw on archives: step; Shelves. -/
namespace Go.Proofs.YtaokifbpakbgdaaGreatDoor
open Go.RowKit

theorem step_any (w0 w : World) (F : Nat → Prop) (wB : Nat) (v : Value) (xs : List Sh) (k : Nat) (kd ar : Int) (s : By) (h : St w0 w F wB v xs k) (hV : Vars w0) (hN : NamesV w0) (hkd : -9223372036854775808 ≤ kd ∧ kd ≤ 9223372036854775807) (har : -9223372036854775808 ≤ ar ∧ ar ≤ 9223372036854775807) (hs : s.length ≤ 9223372036854775807) (h5 : kd ≠ 5) (hne : kd = 1 ∨ 0 < xs.length) (hkb : k ≤ 8796093022208) :
    Calls Tryz.prog 17 #[ptr wB, opV kd ar s] w (StepEnd w0 w F wB v xs k) := by
  by_cases k1 : kd = 1
  · subst k1
    exact step_new w0 w F wB v xs k ar s h hkb
  have hx := hne.resolve_left k1
  by_cases kr : kd < 2 ∨ 5 < kd
  · exact step_rest w0 w F wB v xs k kd ar s h hkd k1 kr hx
  rcases (show kd = 4 ∨ kd = 3 ∨ kd = 2 by omega) with rfl | rfl | rfl
  · exact step_count w0 w F wB v xs k ar s h hV hN har hx hkb
  · exact step_delete w0 w F wB v xs k ar s h hV hN har hs hx hkb
  · exact step_store w0 w F wB v xs k ar s h hV hN har hx hkb
/-- A script. -/
abbrev Opn := Int × Int × By
def OpAt (w : World) (a : Addr) (x : Opn) : Prop := w.cell? a = some (.int .i64 x.1) ∧ w.cell? (a.add 1) = some (.int .i64 x.2.1) ∧ w.cell? (a.add 2) = some (.string (bs x.2.2))
def OkOp (x : Opn) : Prop := (-9223372036854775808 ≤ x.1 ∧ x.1 ≤ 9223372036854775807) ∧ (-9223372036854775808 ≤ x.2.1 ∧ x.2.1 ≤ 9223372036854775807) ∧ x.2.2.length ≤ 9223372036854775807
def Scr (w : World) (v : Value) (l : List Opn) : Prop := Sl (fun j => j < w.heap.size) 3 (OpAt w) v l ∧ (∀ x ∈ l, OkOp x) ∧ l.length ≤ 4398046511104
/-- Between two steps. -/
def Lp (w : World) (wB fB : Nat) (fO : Obj) (k : Nat) (wr : World) : Prop := ∃ F v xs, St w wr F wB v xs k ∧ ¬ Ownd wB v xs fB ∧ wr.heap[fB]? = some fO ∧ (k = 0 ∨ 0 < xs.length)
abbrev fstO (s0 : By) : Obj := .cells #[.int .i64 1, .int .i64 0, .string ⟨#[]⟩, .int .i64 2, .int .i64 0, .string (bs s0), .int .i64 4, .int .i64 0, .string ⟨#[]⟩] 34 (0, 0)
theorem Lp.start {w W : World} {fB : Nat} {fO : Obj} (u : Below w.heap.size w W) (hB : W.heap[w.heap.size]? = some (.cells #[.slice none 0 0, .slice none 0 0] 32 (0, 0))) (hf : W.heap[fB]? = some fO) (hne : fB ≠ w.heap.size) : Lp w w.heap.size fB fO 0 W :=
  ⟨fun _ => False, .slice none 0 0, [], ⟨u, ⟨⟨_, hB⟩, World.ownsRow_nil _ _ _ _, id, (fun h => by cases h), (fun j hj => by cases hj)⟩, ⟨List.nodup_nil, (fun j hj => by cases hj), (fun j hj => hj.elim), (fun x hx => by cases hx)⟩, (fun j hj => by rcases hj with e | e | e <;> first | (subst e; exact Nat.le_refl _) | cases e), Nat.le_refl _⟩, (fun h => by rcases h with e | e | e <;> first | exact hne e | cases e), hf, .inl rfl⟩
theorem Lp.up {w wr W : World} {wB fB k : Nat} {fO : Obj} (h : Lp w wB fB fO k wr) (u : Below wr.heap.size wr W) : Lp w wB fB fO k W := by
  obtain ⟨F, v, xs, h1, h2, h3, h4⟩ := h
  exact ⟨F, v, xs, h1.up u (Nat.le_refl _), h2, (u.block _ (lt_of_block h3)).trans h3, h4⟩
theorem Lp.step {w wr : World} {wB fB k : Nat} {fO : Obj} (h : Lp w wB fB fO k wr) (hV : Vars w) (hN : NamesV w) {kd ar : Int} {s : By} (hok : OkOp (kd, ar, s)) (h5 : kd ≠ 5) (h1 : k = 0 → kd = 1) (hk : k ≤ 8796093022208) :
    Calls Tryz.prog 17 #[ptr wB, opV kd ar s] wr fun e w' => e = .returned (.bool true) ∧ Lp w wB fB fO (k + 1) w' := by
  obtain ⟨F, v, xs, g1, g2, g3, g4⟩ := h
  refine (step_any w wr F wB v xs k kd ar s g1 hV hN hok.1 hok.2.1 hok.2.2 h5 (g4.imp h1 id) hk).mono ?_
  rintro e w' ⟨he, F', v', xs', q1, ⟨q2, q3, q4, _⟩, q5, _⟩
  have hlt := lt_of_block g3
  refine ⟨he, F', v', xs', q1, fun e => ?_, (q3 fB hlt g2).trans g3, .inr q5⟩
  rcases q4 fB e with e | e
  · exact g2 e
  · omega
theorem fst_at {w : World} {fB k : Nat} {s0 : By} (hs : s0.length ≤ 274877906944) (h : w.heap[fB]? = some (fstO s0)) (hk : k < 3) : ∃ kd ar s, (w.cell? ⟨fB, k * 3, none⟩ = some (.int .i64 kd) ∧ w.cell? ⟨fB, k * 3 + 1, none⟩ = some (.int .i64 ar) ∧ w.cell? ⟨fB, k * 3 + 2, none⟩ = some (.string (bs s))) ∧ OkOp (kd, ar, s) ∧ (k = 0 → kd = 1) ∧ kd ≠ 5 := by
  rcases (show k = 0 ∨ k = 1 ∨ k = 2 by omega) with rfl | rfl | rfl
  · exact ⟨1, 0, [], by simp [World.cell?, h, bs], ⟨by simp, by simp, by simp⟩, fun _ => rfl, by simp⟩
  · exact ⟨2, 0, s0, by simp [World.cell?, h], ⟨by simp, by simp, by simp only; omega⟩, (fun h => by cases h), by simp⟩
  · exact ⟨4, 0, [], by simp [World.cell?, h, bs], ⟨by simp, by simp, by simp⟩, (fun h => by cases h), by simp⟩
set_option maxRecDepth 20000 in
set_option maxHeartbeats 4000000 in
theorem Shelves_any (w : World) (v : Value) (l : List Opn) (h : Scr w v l) (hV : Vars w) (hN : NamesV w) :
    Calls Tryz.prog 4 #[v] w fun e w' => e = .returned (.bool true) ∧ Below w.heap.size w w' := by
  obtain ⟨⟨ad, cap, rfl, hat⟩, hok, hl⟩ := h
  have HA := hid hat
  have HO := hid hok
  have HV := hid hV
  have HN := hid hN
  clear hat hok hV hN
  go_enter Tryz.func4, Tryz.ntmps4
  go_wp2_with fail
  go_at_call 16
  refine (simple_any _).mono ?_
  rintro e w2 ⟨s0, rfl, hs0, u2⟩
  have u2' : Below w.heap.size w w2 := (Below.alloc (Below.refl _ _) (Nat.le_refl _) _).trans (u2.mono (by simp))
  have hwB : w2.heap[w.heap.size]? = some (.cells #[.slice none 0 0, .slice none 0 0] 32 (0, 0)) := (u2.block _ (by simp)).trans (heap_alloc_new _ _)
  have hz2 : w.heap.size + 1 ≤ w2.heap.size := by have := u2.size; rw [World.size_alloc] at this; exact this
  have L0 := hid (Lp.start (fB := w2.heap.size) (fO := fstO s0) (Below.alloc u2' u2'.size (fstO s0)) ((Below.heap_alloc _ _ _ (by omega)).trans hwB) (heap_alloc_new _ _) (by omega))
  clear u2 u2' hwB
  go_wp2_with fail
  go_loopw [5] (fun i wr => ∃ k : Nat, k ≤ 3 + l.length ∧ i = .int .i64 k ∧ Hid (Lp w w.heap.size w2.heap.size (fstO s0) k wr)) (fun i _ => 3 + l.length - (intOf i).toNat)
  case atStart => exact ⟨0, Nat.zero_le _, rfl, L0⟩
  case round =>
    obtain ⟨k, hk, rfl, hLp⟩ := hrel
    by_cases hkl : k < 3 + l.length
    · by_cases hk3 : k < 3
      · obtain ⟨F, v, xs, q1, q2, q3, q4⟩ := hLp.out
        have hfl := lt_of_block q3
        obtain ⟨kd, ar, s, ⟨g0, g1, g2⟩, hok, hk1, k5⟩ := fst_at hs0 q3 hk3
        have HK := hid hok
        have HK1 := hid hk1
        clear q1 q2 q3 q4 hok hk1
        go_wp2_with fail
        go_at_call 17
        refine (Lp.step (hLp.out.up (Below.alloc (Below.refl _ _) (Nat.le_refl _) _)) HV.out HN.out HK.out k5 HK1.out (by omega)).mono ?_
        rintro e w3 ⟨rfl, hL3⟩
        have HL3 := hid hL3
        clear hL3 g0 g1 g2 k5
        go_wp2
        go_roundw
        case rel => exact ⟨k + 1, by omega, by go_num, HL3⟩
        case measure => simp [intOf]; omega
      · obtain ⟨j, rfl⟩ : ∃ j, k = j + 3 := ⟨k - 3, by omega⟩
        have hjl : j < l.length := by omega
        obtain ⟨a, rfl, hab, o0, o1, o2⟩ := HA.out j l[j] (List.getElem?_eq_getElem hjl)
        have HK := hid (HO.out _ (List.getElem_mem hjl))
        obtain ⟨F, v, xs, q1, q2, q3, q4⟩ := hLp.out
        have hzr : a.block < wr.heap.size := Nat.lt_of_lt_of_le hab q1.1.size
        rw [Nat.mul_comm] at o0 o1 o2
        have hab2 : (a.add (j * 3)).block < wr.heap.size := by rw [add_block]; exact hzr
        have g0 : wr.cell? (a.add (j * 3)) = some (.int .i64 (l[j]).1) := cell_keep (q1.1.block _ (by rw [add_block]; exact hab)) o0
        have g1 : wr.cell? ⟨(a.add (j * 3)).block, (a.add (j * 3)).off + 1, none⟩ = some (.int .i64 (l[j]).2.1) := cell_keep (p := ⟨(a.add (j * 3)).block, (a.add (j * 3)).off + 1, none⟩) (q1.1.block _ (show (a.add (j * 3)).block < _ by rw [add_block]; exact hab)) o1
        have g2 : wr.cell? ⟨(a.add (j * 3)).block, (a.add (j * 3)).off + 2, none⟩ = some (.string (bs (l[j]).2.2)) := cell_keep (p := ⟨(a.add (j * 3)).block, (a.add (j * 3)).off + 2, none⟩) (q1.1.block _ (show (a.add (j * 3)).block < _ by rw [add_block]; exact hab)) o2
        clear q1 q2 q3 q4 o0 o1 o2
        generalize l[j] = x at g0 g1 g2 HK
        obtain ⟨kd, ar, s⟩ := x
        simp only at g0 g1 g2
        by_cases k5 : kd = 5
        · subst k5
          go_wp2_with fail
          go_at_call 17
          refine (Lp.step (hLp.out.up (Below.alloc (Below.refl _ _) (Nat.le_refl _) _)) HV.out HN.out (kd := 4) ⟨by simp, HK.out.2.1, HK.out.2.2⟩ (by simp) (fun h => by omega) (by omega)).mono ?_
          rintro e w3 ⟨rfl, hL3⟩
          have HL3 := hid hL3
          clear hL3 g0 g1 g2
          go_wp2
          go_roundw
          case rel => exact ⟨j + 3 + 1, by omega, by go_num, HL3⟩
          case measure => simp [intOf]; omega
        · go_wp2_with fail
          go_at_call 17
          refine (Lp.step (hLp.out.up (Below.alloc (Below.refl _ _) (Nat.le_refl _) _)) HV.out HN.out HK.out k5 (fun h => by omega) (by omega)).mono ?_
          rintro e w3 ⟨rfl, hL3⟩
          have HL3 := hid hL3
          clear hL3 g0 g1 g2 k5
          go_wp2
          go_roundw
          case rel => exact ⟨j + 3 + 1, by omega, by go_num, HL3⟩
          case measure => simp [intOf]; omega
    · obtain ⟨F, v, xs, q1, q2, q3, q4⟩ := hLp.out
      have hx : 0 < xs.length := q4.resolve_left (by omega)
      obtain ⟨g, cp, rfl, cq⟩ := q1.2.1.at hx
      obtain ⟨c0, f0⟩ := q1.2.1.cell
      have Q1 := hid q1
      have hlen : xs.length ≤ 4398046511107 := Nat.le_trans q1.2.2.2.2 (by omega)
      have hbl := q1.2.1.lt
      have C0 := hid c0
      clear q1 q2 q3 q4 cq c0 f0
      obtain ⟨wA, rfl⟩ : ∃ wA, wA = wr := ⟨_, rfl⟩
      go_wp2_with fail
      go_loopw [8] (fun i wq => ∃ q : Nat, q ≤ xs.length ∧ i = .int .i64 q ∧ Hid (Below wA.heap.size wA wq)) (fun i _ => xs.length - (intOf i).toNat)
      case atStart => exact ⟨0, Nat.zero_le _, rfl, Below.refl _ _⟩
      case round =>
        obtain ⟨q, hq, rfl, hU⟩ := hrel
        have c0 := (hU.out.cell (p := ⟨w.heap.size, 0, none⟩) hbl).trans C0.out
        by_cases hql : q < xs.length
        · have h2 := Q1.out.up hU.out (Nat.le_refl _)
          obtain ⟨g', cp', hv', cq⟩ := h2.2.1.at hql
          obtain ⟨e1, _, rfl⟩ := Value.slice.inj hv'
          cases e1
          obtain ⟨p1, p2, p3, p4, p5, _⟩ := h2.2.2.1.2.2.2 _ (List.getElem_mem hql)
          have c1 := counted_any F wr _ _ _ _ _ _ p1 p3 p4 h2.2.2.1.2.2.1 p5 p5.short (HN.out.up h2.1)
          have C1 := hid c1
          clear h2 p1 p2 p3 p4 p5 c1
          go_wp2_with fail
          go_at_call 18
          refine C1.out.mono ?_
          rintro e w3 ⟨rfl, u3⟩
          have U3 := hid (hU.out.trans (u3.mono hU.out.size))
          clear u3 C1 c0 cq
          go_wp2
          go_roundw
          case rel => exact ⟨q + 1, by omega, by go_num, U3⟩
          case measure => simp [intOf]; omega
        · go_wp2
          go_ret
          exact ⟨rfl, Q1.out.1.trans (hU.out.mono Q1.out.1.size)⟩
end Go.Proofs.YtaokifbpakbgdaaGreatDoor

/- What the frames of the archives' statements share: the listed variables give what the walks ask; a script that came in. -/
namespace Go.Proofs.YtaokifbpakbgdaaGreatDoor
open Go.ChangeShapes Go.WideShapes Go.ChangeAt Go.RowKit

theorem g_names : Tryz.prog.globalNamed "folio/archive.names" = some 1 := by kernel_rfl
theorem t_names : (Tryz.prog.globals[1]?).map (·.type) = some 66 := by kernel_rfl
theorem cellsA_int : Tryz.prog.cellsOf 3 = 1 := by kernel_rfl
theorem cellsA_str : Tryz.prog.cellsOf 9 = 1 := by kernel_rfl
theorem cellsA_op : Tryz.prog.cellsOf 34 = 3 := by kernel_rfl
theorem cellsA_names : Tryz.prog.cellsOf 66 = 4 := by kernel_rfl
theorem list3A {α : Type} {l : List α} (h : l.length = 3) : ∃ a b c, l = [a, b, c] := by
  match l, h with
  | [a, b, c], _ => exact ⟨a, b, c, rfl⟩
theorem list4A {α : Type} {l : List α} (h : l.length = 4) : ∃ a b c d, l = [a, b, c, d] := by
  match l, h with
  | [a, b, c, d], _ => exact ⟨a, b, c, d, rfl⟩
/-- THE LISTED VARIABLES, AND THE WORLD's SHAPE: what the walks ask of the library's variables. -/
theorem varsA_of {W : World} (h : laidMetH Tryz.prog Rows.shelvesRow.laid W) (hsh : W.ShapedOpen Tryz.prog) : Vars W := by
  refine ⟨Tryz.laysM145.s1_3 W hsh, ?_, ?_⟩
  · rw [MakeChecks.laidMetH_plain _ _ _ (by kernel_rfl)] at h
    obtain ⟨ps, ⟨_, _, _, _, _, _, _, _, _, _, ⟨_, _, _, _, _, _, _, _, _, _, ⟨_, _, _, _, _, _, _, _, _, _, ⟨_, _, _, _, _, _, _, _, _, _, ⟨_, _, _, _, _, _, _, _, _, _, ⟨g, t, cs, fuel, p, q, hg, ht, hv, hd, _, _⟩, _⟩, _⟩, _⟩, _⟩, _⟩, _, _⟩ := h
    obtain rfl := Option.some.inj (g_syntax.symm.trans hg)
    obtain rfl := Option.some.inj (t_syntax.symm.trans ht)
    exact iface_cell g_syntax hv hd
  · rw [MakeChecks.laidMetH_plain _ _ _ (by kernel_rfl)] at h
    obtain ⟨ps, ⟨_, _, _, _, _, _, _, _, _, _, ⟨_, _, _, _, _, _, _, _, _, _, ⟨_, _, _, _, _, _, _, _, _, _, ⟨_, _, _, _, _, _, _, _, _, _, ⟨g, t, cs, fuel, p, q, hg, ht, hv, hd, _, _⟩, _⟩, _⟩, _⟩, _⟩, _, _⟩ := h
    obtain rfl := Option.some.inj (g_range.symm.trans hg)
    obtain rfl := Option.some.inj (t_range.symm.trans ht)
    exact iface_cell g_range hv hd
theorem names_trod {W : World} {cs : Array Value} {fuel : Nat} {p : List MemPlace} (hv : W.var? Tryz.prog "folio/archive.names" = some cs) (hd : DataW.trod (fun _ => ()) Tryz.prog W 0 (fun _ => true) false fuel 66 cs.toList = some (Rows.laid_folio_archive_names, p)) : NamesV W := by
  obtain ⟨l⟩ := cs
  have hl : l.length = 4 := by
    obtain ⟨_, _, _, _, hcl, _⟩ := DataW.trod_array Tryz.underlying66 hd
    rw [cellsA_names] at hcl
    exact hcl
  obtain ⟨c0, c1, c2, c3, rfl⟩ := list4A hl
  obtain ⟨y0, y1, y2, y3, n, hx, f0, f1, f2, f3⟩ := trod_array4 Tryz.underlying66 cellsA_int hd
  obtain ⟨z0, e0, rfl, _⟩ := DataW.trod_int Tryz.underlying3 f0
  obtain ⟨z1, e1, rfl, _⟩ := DataW.trod_int Tryz.underlying3 f1
  obtain ⟨z2, e2, rfl, _⟩ := DataW.trod_int Tryz.underlying3 f2
  obtain ⟨z3, e3, rfl, _⟩ := DataW.trod_int Tryz.underlying3 f3
  simp [Rows.laid_folio_archive_names] at hx
  obtain ⟨⟨rfl, rfl, rfl, rfl⟩, _⟩ := hx
  simp at e0 e1 e2 e3
  subst e0; subst e1; subst e2; subst e3
  intro i hi
  have h := World.var?_cell g_names hv i
  rcases (show i = 0 ∨ i = 1 ∨ i = 2 ∨ i = 3 by omega) with rfl | rfl | rfl | rfl <;> simpa [nameT] using h
theorem namesA_of {W : World} (h : laidMetH Tryz.prog Rows.shelvesRow.laid W) : NamesV W := by
  rw [MakeChecks.laidMetH_plain _ _ _ (by kernel_rfl)] at h
  obtain ⟨ps, ⟨_, _, _, _, _, _, _, _, _, _, ⟨_, _, _, _, _, _, _, _, _, _, ⟨_, _, _, _, _, _, _, _, _, _, ⟨_, _, _, _, _, _, _, _, _, _, ⟨_, _, _, _, _, _, _, _, _, _, ⟨_, _, _, _, _, _, _, _, _, _, ⟨_, _, _, _, _, _, _, _, _, _, ⟨g, t, cs, fuel, p, q, hg, ht, hv, hd, _, _⟩, _⟩, _⟩, _⟩, _⟩, _⟩, _⟩, _⟩, _, _⟩ := h
  obtain rfl := Option.some.inj (g_names.symm.trans hg)
  obtain rfl := Option.some.inj (t_names.symm.trans ht)
  exact names_trod hv hd
set_option maxRecDepth 100000 in
theorem laidA_met (os : Os) (args : Array Value) : laidMet Tryz.prog Rows.shelvesRow.laid ((World.laidAll Tryz.prog os Rows.shelvesRow.laid).forCall (fun _ _ => 0) ⟨#[], args, []⟩).memory :=
  laidMet_laidAll _ (by kernel_rfl) (by kernel_rfl)
set_option maxRecDepth 100000 in
theorem laidA_shaped (os : Os) (args : Array Value) : ((World.laidAll Tryz.prog os Rows.shelvesRow.laid).forCall (fun _ _ => 0) ⟨#[], args, []⟩).Shaped Tryz.checked.prog :=
  World.shaped_of_ZipB (by kernel_rfl) (by kernel_rfl)
theorem gatherA {α β : Type} (R : Nat → β → α → Prop) : ∀ (es : List β) (k : Nat), (∀ i y, es[i]? = some y → ∃ x, R (k + i) y x) → ∃ l : List α, l.length = es.length ∧ ∀ i x, l[i]? = some x → ∃ y, es[i]? = some y ∧ R (k + i) y x
  | [], _, _ => ⟨[], rfl, fun i x hx => by simp at hx⟩
  | y :: es, k, h => by
    obtain ⟨x, hx⟩ := h 0 y rfl
    obtain ⟨l, hl, hc⟩ := gatherA R es (k + 1) (fun i z hz => by
      obtain ⟨x, hx⟩ := h (i + 1) z (by simpa using hz)
      exact ⟨x, by rw [show k + 1 + i = k + (i + 1) by omega]; exact hx⟩)
    refine ⟨x :: l, by simp [hl], fun i z hz => ?_⟩
    cases i with
    | zero =>
      simp only [List.getElem?_cons_zero, Option.some.injEq] at hz
      subst hz
      exact ⟨y, rfl, hx⟩
    | succ i =>
      obtain ⟨y', h1, h2⟩ := hc i z (by simpa using hz)
      exact ⟨y', by simpa using h1, by rw [show k + (i + 1) = k + 1 + i by omega]; exact h2⟩
theorem bytesA_op : Tryz.prog.bytesOf 34 = 32 := by kernel_rfl
set_option maxRecDepth 20000 in
/-- A script that came in. -/
theorem open_script {H : Type} {enc : TypeId × Value → H} {W : World} {fuel : Nat} {v : Value} {d : DataW H} {q : List MemPlace} {ts : List TypeId} {ds : List (DataW H)} (h : DataW.trod enc Tryz.prog W 0 (fun _ => true) true fuel 27 [v] = some (d, q)) (hsz : (DataW.weightsEach Tryz.prog ts ds).all (· ≤ reachBytes) = true) (ht : ts[0]? = some 27) (hd : ds[0]? = some d) : ∃ l, Scr W v l := by
  rcases DataW.trod_slice Tryz.underlying27 h with ⟨hcs, hx⟩ | ⟨a, len, cap, elems, rest, m, rfl, hcs, hx, _, hlc, hcm, hlen, hel, _, _⟩
  · obtain rfl : v = .slice none 0 0 := by simpa using hcs
    exact ⟨[], ⟨none, 0, rfl, fun i x hx => by simp at hx⟩, (fun x hx => nomatch hx), by simp⟩
  · obtain rfl : v = .slice (some a) len cap := by simpa using hcs
    simp only [Prod.mk.injEq] at hx
    obtain ⟨rfl, rfl⟩ := hx
    have hone : ∀ (i : Nat) (y : DataW H × List MemPlace), elems[i]? = some y → ∃ x : Opn, OpAt W (a.add (3 * (0 + i))) x ∧ OkOp x := fun i y hy => by
      have hi : i < len := by have := (List.getElem?_eq_some_iff.1 hy).1; omega
      have hb := (hel i hi).trans hy
      rw [cellsA_op, Option.bind_eq_some_iff] at hb
      obtain ⟨cs, hcs, htr⟩ := hb
      obtain ⟨_, hcl, hcc⟩ := World.cells?_some hcs
      obtain ⟨c0, c1, c2, rfl⟩ := list3A hcl
      obtain ⟨xs, m3, rfl, rfl, _, hxl, hfs⟩ := DataW.trod_struct Tryz.underlying34 htr
      obtain ⟨y0, y1, y2, rfl⟩ := list3A (l := xs) hxl
      have f0 : DataW.trod enc Tryz.prog W 0 (fun _ => true) true m3 3 (([c0, c1, c2].drop 0).take (Tryz.prog.cellsOf 3)) = some y0 := hfs 0 _ rfl
      have f1 : DataW.trod enc Tryz.prog W 0 (fun _ => true) true m3 3 (([c0, c1, c2].drop 1).take (Tryz.prog.cellsOf 3)) = some y1 := hfs 1 _ rfl
      have f2 : DataW.trod enc Tryz.prog W 0 (fun _ => true) true m3 9 (([c0, c1, c2].drop 2).take (Tryz.prog.cellsOf 9)) = some y2 := hfs 2 _ rfl
      rw [cellsA_int] at f0 f1
      rw [cellsA_str] at f2
      replace f0 : DataW.trod enc Tryz.prog W 0 (fun _ => true) true m3 3 [c0] = some y0 := f0
      replace f1 : DataW.trod enc Tryz.prog W 0 (fun _ => true) true m3 3 [c1] = some y1 := f1
      replace f2 : DataW.trod enc Tryz.prog W 0 (fun _ => true) true m3 9 [c2] = some y2 := f2
      obtain ⟨z, e0, rfl, wf0⟩ := DataW.trod_int Tryz.underlying3 f0
      obtain ⟨k, e1, rfl, wf1⟩ := DataW.trod_int Tryz.underlying3 f1
      obtain ⟨u, e2, rfl, hu⟩ := DataW.trod_string Tryz.underlying9 f2
      obtain rfl : c0 = .int .i64 z := by simpa using e0
      obtain rfl : c1 = .int .i64 k := by simpa using e1
      obtain rfl : c2 = .string u := by simpa using e2
      have g0 := hcc 0 (by omega)
      have g1 := hcc 1 (by omega)
      have g2 := hcc 2 (by omega)
      rw [Addr.add_zero'] at g0
      rw [Nat.zero_add, Nat.mul_comm]
      exact ⟨(z, k, u.data.toList), ⟨g0, g1, g2⟩, int_bd wf0, int_bd wf1, by show u.data.toList.length ≤ _; rw [len_list]; unfold maxLen at hu; omega⟩
    obtain ⟨l, hl, hc⟩ := gatherA (α := Opn) (fun i (_ : DataW H × List MemPlace) x => OpAt W (a.add (3 * i)) x ∧ OkOp x) elems 0 hone
    refine ⟨l, ⟨some a, cap, by rw [hl, hlen], fun i x hx => ?_⟩, fun x hx => ?_, ?_⟩
    · obtain ⟨y, _, h2, _⟩ := hc i x hx
      rw [Nat.zero_add] at h2
      exact ⟨a, rfl, by have := World.block_lt_of_cell? _ _ h2.1; rwa [add_block] at this, h2⟩
    · obtain ⟨i, hi⟩ := List.getElem?_of_mem hx
      obtain ⟨y, _, _, h2⟩ := hc i x hi
      exact h2
    · have hs := sized_slice hsz ht hd Tryz.underlying27
      rw [bytesA_op] at hs
      simp only [List.length_map, reachBytes] at hs
      omega
end Go.Proofs.YtaokifbpakbgdaaGreatDoor

/- Package folioref on archives: newest. -/
namespace Go.Proofs.YtaokifbpakbgdaaGreatDoor
open Go.RowKit

/-- Nothing behind place i has its name on the level. -/
def newestA {n : Nat} (A : List (List (El (n + 1)))) (i lvl : Nat) : Bool := (A.drop (i + 1)).all (fun o => decide (nm lvl o ≠ nm lvl (A.getD i [])))
theorem newestA_eq {n : Nat} {A : List (List (El (n + 1)))} {i lvl : Nat} (hi : i < A.length) : newestA A i lvl = (A.drop (i + 1)).all (fun o => decide (nm lvl o ≠ nm lvl A[i])) := by
  unfold newestA
  rw [List.getD_eq_getElem?_getD, List.getElem?_eq_getElem hi]
  rfl
set_option maxRecDepth 20000 in
set_option maxHeartbeats 2000000 in
theorem rnewest_any (n : Nat) (F : Nat → Prop) (w : World) (b : Nat) (A : List (List (El (n + 1)))) (i lvl : Nat) (h : RefA w F n b A) (hl : A.length ≤ 48) (hs : ∀ l ∈ A, l.length ≤ 24) (hi : i < A.length) (hlv : lvl < 4) :
    Calls Tryz.prog 167 #[ptr b, .int .i64 i, .int .i64 lvl] w fun e w' => e = .returned (.bool (newestA A i lvl)) ∧ Below w.heap.size w w' := by
  obtain ⟨v, hb, hr⟩ := h
  obtain ⟨ad, cap, rfl⟩ := hr.slice
  have H := hid hr
  have HS := hid hs
  have HB := hid hb
  have hb0 := hb.cell
  have HE := hid (newestA_eq (lvl := lvl) hi)
  obtain ⟨a, ad2, cap2, rfl, _, d0, hrd⟩ := hr.at (List.getElem?_eq_getElem hi)
  have hsl := hs _ (List.getElem_mem hi)
  have R0 := hid hrd
  clear hr hs hb hrd
  go_enter Tryz.func167, Tryz.ntmps167
  go_wp2_with fail
  go_at_call 100
  refine (rnames_any n F w _ A[i] R0.out hsl).mono ?_
  rintro e w1 ⟨g, capg, rfl, _, hN, u1⟩
  have N1 := hid hN
  have U1 := hid u1
  clear hN u1 hb0 d0 R0
  go_wp2_with fail
  go_loopw [8] (fun k wr => ∃ q : Nat, i < q ∧ q ≤ A.length ∧ k = .int .i64 q ∧ Hid (newestA A i lvl = (A.drop q).all (fun o => decide (nm lvl o ≠ nm lvl A[i]))) ∧ Hid (Below w1.heap.size w1 wr)) (fun k _ => A.length - (intOf k).toNat)
  case atStart => exact ⟨i + 1, by omega, by omega, by go_num, HE, Below.refl _ _⟩
  case round =>
    obtain ⟨q, hiq, hq, rfl, hE, hU⟩ := hrel
    have UU := hid (U1.out.trans (hU.out.mono U1.out.size))
    have hb1 := (HB.out.up UU.out).cell
    by_cases hql : q < A.length
    · obtain ⟨a', ad3, cap3, ha', _, d1, hrd⟩ := H.out.at (List.getElem?_eq_getElem hql)
      cases ha'
      have c0 := UU.out.cell (World.block_lt_of_cell? _ _ d1) |>.trans d1
      have hsq := HS.out _ (List.getElem_mem hql)
      have R1 := hid (hrd.up UU.out)
      clear hrd d1
      go_wp2_with fail
      go_at_call 100
      refine (rnames_any n F wr _ A[q] R1.out hsq).mono ?_
      rintro e w2 ⟨g2, capg2, rfl, _, hN2, u2⟩
      have n2 := hN2 lvl hlv
      have U2 := hid (hU.out.trans (u2.mono hU.out.size))
      have n1 := (N1.out.up U2.out) lvl hlv
      have hd : A.drop q = A[q] :: A.drop (q + 1) := List.drop_eq_getElem_cons hql
      have hE2 := hid (show newestA A i lvl = (decide (nm lvl A[q] ≠ nm lvl A[i]) && (A.drop (q + 1)).all (fun o => decide (nm lvl o ≠ nm lvl A[i]))) by rw [hE.out, hd, List.all_cons])
      clear hN2 u2 hb1 c0 R1 hd hE
      have ex := bs_toList (nm lvl A[q])
      have ey := bs_toList (nm lvl A[i])
      by_cases he : nm lvl A[q] = nm lvl A[i]
      · have hF := hid (show newestA A i lvl = false by rw [hE2.out, decide_eq_false (fun h => h he), Bool.false_and])
        clear hE2
        generalize nm lvl A[q] = x at n2 ex he
        generalize nm lvl A[i] = y at n1 ey he
        subst he
        go_wp2_with fail
        go_quiet (fail)
        go_wp2
        go_ret
        rw [hF.out]
        exact ⟨rfl, U1.out.trans ((below_drewN U2.out _).mono U1.out.size)⟩
      · have hF := hid (show newestA A i lvl = (A.drop (q + 1)).all (fun o => decide (nm lvl o ≠ nm lvl A[i])) by rw [hE2.out, decide_eq_true he, Bool.true_and])
        have he2 : (nm lvl A[q] == nm lvl A[i]) = false := beq_eq_false_iff_ne.2 he
        clear hE2
        generalize nm lvl A[q] = x at n2 ex he he2
        generalize nm lvl A[i] = y at n1 ey he he2
        go_wp2_with fail
        go_quiet (fail)
        go_wp2
        go_roundw
        case rel => exact ⟨q + 1, by omega, by omega, by go_num, hF, below_drewN U2.out _⟩
        case measure => simp [intOf]; omega
    · have hF := hid (show newestA A i lvl = true by rw [hE.out, List.drop_eq_nil_of_le (by omega)]; rfl)
      clear hE
      go_wp2
      go_ret
      rw [hF.out]
      exact ⟨rfl, UU.out⟩
end Go.Proofs.YtaokifbpakbgdaaGreatDoor

/- Package folioref on archives: plain. -/
namespace Go.Proofs.YtaokifbpakbgdaaGreatDoor
open Go.RowKit

/-- A byte that asks for more than one value. -/
def wildB (c : UInt8) : Bool := decide (c.toNat = 42) || decide (c.toNat = 63)
/-- A value, and no pattern. -/
def plainV (k s : By) : Bool := !s.any wildB && (decide (s ≠ []) && decide (chk k s = 0))
set_option maxRecDepth 20000 in
set_option maxHeartbeats 2000000 in
theorem rplain_any (k s : ByteArray) (w : World) (hs : s.size < 4294967281) :
    Calls Tryz.prog 222 #[.string k, .string s] w fun e w' => e = .returned (.bool (plainV k.data.toList s.data.toList)) ∧ Below w.heap.size w w' := by
  go_enter Tryz.func222, Tryz.ntmps222
  go_wp2_with fail
  go_at_call 14
  refine (rCheck_any k s w hs).mono ?_
  rintro e w1 ⟨rfl, u1⟩
  have U1 := hid u1
  have HP := hid (show plainV k.data.toList s.data.toList = (!s.data.toList.any wildB && (decide (s.data.toList ≠ []) && decide (chk k.data.toList s.data.toList = 0))) from rfl)
  clear u1
  generalize chk k.data.toList s.data.toList = c at HP ⊢
  go_wp2_with fail
  go_loop [6] (fun i => ∃ q : Nat, q ≤ s.size ∧ i = .int .i64 q ∧ Hid ((s.data.toList.take q).any wildB = false)) (fun i => s.size - (intOf i).toNat)
  case atStart => exact ⟨0, Nat.zero_le _, rfl, by unfold Hid; simp⟩
  case round =>
    obtain ⟨q, hq, rfl, hA⟩ := hrel
    by_cases hql : q < s.size
    · have hst : s.data.toList.take (q + 1) = s.data.toList.take q ++ [s[q]] := by
        rw [List.take_succ_eq_append_getElem (by simpa using hql)]
        rfl
      have HST := hid (show (s.data.toList.take (q + 1)).any wildB = wildB s[q] by rw [hst, List.any_append, hA.out, Bool.false_or]; simp)
      have hmem : s[q] ∈ s.data.toList := List.getElem_mem (l := s.data.toList) (by simpa using hql)
      have HM := hid (show wildB s[q] = true → s.data.toList.any wildB = true from fun h => List.any_eq_true.2 ⟨_, hmem, h⟩)
      clear hst hmem
      by_cases h42 : (s[q].toNat : Int) = 42
      · have hF := hid (show plainV k.data.toList s.data.toList = false by rw [HP.out, HM.out (by unfold wildB; rw [decide_eq_true (by omega)]; rfl)]; rfl)
        clear HM HST
        go_wp2
        go_ret
        rw [hF.out]
        exact ⟨rfl, U1.out⟩
      · by_cases h63 : (s[q].toNat : Int) = 63
        · have hF := hid (show plainV k.data.toList s.data.toList = false by rw [HP.out, HM.out (by unfold wildB; rw [decide_eq_true (p := s[q].toNat = 63) (by omega)]; simp)]; rfl)
          clear HM HST
          go_wp2
          go_ret
          rw [hF.out]
          exact ⟨rfl, U1.out⟩
        · have hF := hid (show (s.data.toList.take (q + 1)).any wildB = false by rw [HST.out]; unfold wildB; rw [decide_eq_false (by omega), decide_eq_false (by omega)]; rfl)
          clear HM HST
          have b42 : ((s[q].toNat : Int) == 42) = false := beq_eq_false_iff_ne.2 h42
          have b63 : ((s[q].toNat : Int) == 63) = false := beq_eq_false_iff_ne.2 h63
          go_wp2
          go_round
          case rel => exact ⟨q + 1, by omega, by go_num, hF⟩
          case measure => simp [intOf]; omega
    · have hall : s.data.toList.take q = s.data.toList := List.take_of_length_le (by simp; omega)
      have hF := hid (show plainV k.data.toList s.data.toList = (decide (s.data.toList ≠ []) && decide (c = 0)) by have := hA.out; rw [hall] at this; rw [HP.out, this]; simp)
      clear hA hall
      by_cases he : s.data.toList = []
      · obtain rfl : s = ⟨#[]⟩ := by cases s; simp at he; subst he; rfl
        go_wp2
        go_ret
        rw [hF.out]
        exact ⟨by simp, U1.out⟩
      · have he2 : s.toList.isEmpty = false := by rw [ByteArray.toList_eq, List.isEmpty_eq_false_iff]; exact he
        have hF2 := hid (show plainV k.data.toList s.data.toList = decide (c = 0) by rw [hF.out, decide_eq_true he, Bool.true_and])
        clear hF
        by_cases hc : c = 0
        · subst hc
          go_wp2
          go_ret
          rw [hF2.out]
          exact ⟨by simp, U1.out⟩
        · go_wp2
          go_ret
          rw [hF2.out]
          exact ⟨by simp [hc], U1.out⟩
end Go.Proofs.YtaokifbpakbgdaaGreatDoor

/- Package folioref on archives: decimal (of what is below 100). -/
namespace Go.Proofs.YtaokifbpakbgdaaGreatDoor
open Go.RowKit

/-- A digit; a number of two digits at most. -/
def digB (n : Nat) : UInt8 := 48 + UInt8.ofNat (n % 10)
def decB (n : Nat) : By := if n < 10 then [digB n] else [digB (n / 10), digB n]
set_option maxRecDepth 20000 in
theorem rdec_one (n : Nat) (w : World) (h : n < 10) : Calls Tryz.prog 266 #[.int .i64 n] w fun e w' => e = .returned (.string (bs [digB n])) ∧ Below w.heap.size w w' := by
  have cv := conv1 w (48 + (n : Int) % 10) (by omega) (by omega)
  have ez : (48 + (n : Int) % 10).toNat = 48 + n % 10 := by omega
  rw [ez] at cv
  have em : (n : Int).tmod 10 = (n : Int) % 10 := Int.tmod_eq_emod_of_nonneg (by omega)
  go_enter Tryz.func266, Tryz.ntmps266
  go_wp2
  go_ret
  exact ⟨rfl, Below.alloc (Below.refl _ _) (Nat.le_refl _) _⟩
set_option maxRecDepth 20000 in
theorem rdecimal_any (n : Nat) (w : World) (h : n < 100) : Calls Tryz.prog 266 #[.int .i64 n] w fun e w' => e = .returned (.string (bs (decB n))) ∧ Below w.heap.size w w' := by
  by_cases h10 : n < 10
  · unfold decB
    rw [if_pos h10]
    exact rdec_one n w h10
  · have hD := hid (show decB n = [digB (n / 10)] ++ [digB n] by unfold decB; rw [if_neg h10]; rfl)
    have cv := conv1 w (48 + (n : Int) % 10) (by omega) (by omega)
    have ez : (48 + (n : Int) % 10).toNat = 48 + n % 10 := by omega
    rw [ez] at cv
    have em : (n : Int).tmod 10 = (n : Int) % 10 := Int.tmod_eq_emod_of_nonneg (by omega)
    have ed : (n : Int).tdiv 10 = ((n / 10 : Nat) : Int) := by rw [Int.tdiv_eq_ediv_of_nonneg (by omega)]; rfl
    have C1 := hid (rdec_one (n / 10) (w.alloc (.cells #[.int .u8 (48 + (n : Int) % 10)] 5)) (by omega))
    obtain ⟨c, hc, hcc, _, _⟩ := cat [digB (n / 10)] [digB n]
    go_enter Tryz.func266, Tryz.ntmps266
    go_wp2_with fail
    go_at_call 266
    refine C1.out.mono ?_
    rintro e w' ⟨rfl, u⟩
    have U := hid ((Below.alloc (Below.refl _ _) (Nat.le_refl _) _).trans (u.mono (by simp)))
    clear u C1
    have hcc2 : bs [digB (n / 10)] ++ bs [48 + UInt8.ofNat (n % 10)] = bs c := hcc
    go_wp2
    go_ret
    rw [hD.out, ← hc.out]
    exact ⟨rfl, U.out⟩
end Go.Proofs.YtaokifbpakbgdaaGreatDoor

/- Package folioref on archives: level. -/
namespace Go.Proofs.YtaokifbpakbgdaaGreatDoor
open Go.RowKit

/-- The first of these levels that has this word; -1: none. -/
def lvI (m : Bool) (s : By) : List Nat → Int
  | [] => -1
  | i :: r => if m = true ∧ s = wordL i then i else lvI m s r
def levO {n : Nat} (l : List (El (n + 1))) : Int := match findE l 524370 with
  | none => -1
  | some x => lvI (decide (x.2.1 = [67, 83])) x.2.2.1 [0, 1, 2, 3]
theorem lvI_false (s : By) : ∀ r, lvI false s r = -1
  | [] => rfl
  | _ :: r => by rw [lvI, if_neg (by simp), lvI_false s r]
theorem drop4 {k : Nat} (h : k < 4) : [0, 1, 2, 3].drop k = k :: [0, 1, 2, 3].drop (k + 1) := by
  rcases (show k = 0 ∨ k = 1 ∨ k = 2 ∨ k = 3 by omega) with rfl | rfl | rfl | rfl <;> rfl
set_option maxRecDepth 20000 in
set_option maxHeartbeats 2000000 in
theorem rlevel_any (n : Nat) (F : Nat → Prop) (w : World) (v : Value) (l : List (El (n + 1))) (h : Rd w F (n + 1) v l) (hl : l.length ≤ 24) :
    Calls Tryz.prog 165 #[v] w fun e w' => e = .returned (.int .i64 (levO l)) ∧ Below w.heap.size w w' := by
  obtain ⟨ad, cap, rfl⟩ := h.slice
  have H := hid h
  clear h
  go_enter Tryz.func165, Tryz.ntmps165
  go_wp2_with fail
  go_at_call 220
  refine (rfind_any n F w _ l 524370 H.out hl).mono ?_
  rintro e w1 ⟨u1, hf⟩
  have hx : ∃ (t : Int) (kd vl : By) (iv : Value) (ok : Bool), e = .returned (.tuple #[.agg #[.int .i64 t, .string (bs kd), .string (bs vl), iv], .bool ok]) ∧ Hid (levO l = lvI (ok && decide (kd = [67, 83])) vl [0, 1, 2, 3]) ∧ ∃ ad2 n2 cap2, iv = .slice ad2 n2 cap2 := by
    rcases hf with ⟨h1, h2⟩ | ⟨x, iv, h1, h2, h3⟩
    · exact ⟨0, [], [], .slice none 0 0, false, h2, by unfold Hid levO; rw [h1, Bool.false_and, lvI_false], _, _, _, rfl⟩
    · obtain ⟨ad2, cap2, h4⟩ := h3.slice
      exact ⟨x.1, x.2.1, x.2.2.1, iv, true, h2, by unfold Hid levO; rw [h1, Bool.true_and], _, _, _, h4⟩
  obtain ⟨t, kd, vl, iv, ok, rfl, hL, ad2, n2, cap2, rfl⟩ := hx
  have U1 := hid u1
  clear hf u1 H
  go_wp2_with fail
  go_at_call 163
  refine (rRows_any _).mono ?_
  rintro e w2 ⟨b, rfl, hR, u2⟩
  have hb4 : w2.heap[w1.heap.size]? = some (.cells #[.int .i64 t, .string (bs kd), .string (bs vl), .slice ad2 n2 cap2] 73 (0, 0)) := (u2.block _ (by simp)).trans (heap_alloc_new _ _)
  have U2 := hid ((Below.alloc U1.out U1.out.size _).trans (u2.mono (Nat.le_trans U1.out.size (by simp))))
  have HR := hid hR
  have HB := hid hb4
  clear u2 hR hb4
  go_wp2_with fail
  go_loopw [6] (fun i wr => ∃ k : Nat, k ≤ 4 ∧ i = .int .i64 k ∧ Hid (levO l = lvI (ok && decide (kd = [67, 83])) vl ([0, 1, 2, 3].drop k)) ∧ Hid (Below w2.heap.size w2 wr)) (fun i _ => 4 - (intOf i).toNat)
  case atStart => exact ⟨0, by omega, rfl, hL, Below.refl _ _⟩
  case round =>
    obtain ⟨k, hk, rfl, hE, hU⟩ := hrel
    by_cases hkl : k < 4
    · obtain ⟨c, r0, _⟩ := HR.out.up hU.out k hkl
      have hB := (hU.out.block _ (lt_of_block HB.out)).trans HB.out
      have e1 : wr.cell? ⟨w1.heap.size, 1, none⟩ = some (.string (bs kd)) := by simp [World.cell?, hB]
      have e2 : wr.cell? ⟨w1.heap.size, 2, none⟩ = some (.string (bs vl)) := by simp [World.cell?, hB]
      have hE2 := hid (show levO l = if (ok && decide (kd = [67, 83])) = true ∧ vl = wordL k then (k : Int) else lvI (ok && decide (kd = [67, 83])) vl ([0, 1, 2, 3].drop (k + 1)) by rw [hE.out, drop4 hkl, lvI])
      clear hE hB
      have x1 := bs_toList kd
      have x2 := bs_toList vl
      have x3 := bs_toList (wordL k)
      generalize hw : wordL k = wd at r0 x3 hE2
      clear hw
      cases ok
      · have hF := hid (hE2.out.trans (if_neg (by simp)))
        go_wp2_with fail
        go_quiet (fail)
        go_wp2
        go_roundw
        case rel => exact ⟨k + 1, by omega, by go_num, hF, below_drewN hU.out _⟩
        case measure => simp [intOf]; omega
      · by_cases hkd : kd = [67, 83]
        · by_cases hv : vl = wd
          · have hF := hid (hE2.out.trans (if_pos ⟨by simp [hkd], hv⟩))
            clear hE2
            subst hkd; subst hv
            go_wp2_with fail
            go_quiet (fail)
            go_wp2
            go_ret
            rw [hF.out]
            exact ⟨rfl, U2.out.trans ((below_drewN hU.out _).mono U2.out.size)⟩
          · have hF := hid (hE2.out.trans (if_neg (fun h => hv h.2)))
            have hv2 : (vl == wd) = false := beq_eq_false_iff_ne.2 hv
            clear hE2
            subst hkd
            go_wp2_with fail
            go_quiet (fail)
            go_wp2
            go_roundw
            case rel => exact ⟨k + 1, by omega, by go_num, hF, below_drewN hU.out _⟩
            case measure => simp [intOf]; omega
        · have hF := hid (hE2.out.trans (if_neg (fun h => hkd (by simpa using h.1))))
          have hk2 : (kd == [67, 83]) = false := beq_eq_false_iff_ne.2 hkd
          clear hE2
          go_wp2_with fail
          go_quiet (fail)
          go_wp2
          go_roundw
          case rel => exact ⟨k + 1, by omega, by go_num, hF, below_drewN hU.out _⟩
          case measure => simp [intOf]; omega
    · obtain rfl : k = 4 := by omega
      have hF := hid (show levO l = -1 from hE.out)
      clear hE
      go_wp2
      go_ret
      rw [hF.out]
      exact ⟨rfl, U2.out.trans (hU.out.mono U2.out.size)⟩
end Go.Proofs.YtaokifbpakbgdaaGreatDoor

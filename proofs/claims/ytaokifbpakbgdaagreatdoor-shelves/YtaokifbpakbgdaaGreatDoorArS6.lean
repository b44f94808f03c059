/-
  Package foliolaw on archives: step, New.
-/
import Derived.Test.YtaokifbpakbgdaaGreatDoorArS3
namespace Go.Proofs.YtaokifbpakbgdaaGreatDoor
open Go.RowKit

theorem two_set {w : World} {b : Nat} {c0 c1 : Value} {T : TypeId} (h : w.heap[b]? = some (.cells #[c0, c1] T (0, 0))) (u : Value) : (w.setCell ⟨b, 0, none⟩ u).heap[b]? = some (.cells #[u, c1] T (0, 0)) := by
  have hlt := lt_of_block h
  have h' : w.heap[b] = .cells #[c0, c1] T (0, 0) := by simpa [Array.getElem?_eq_getElem hlt] using h
  show (w.heap.modify b _)[b]? = _
  rw [Array.getElem?_eq_getElem (by simpa using hlt), Array.getElem_modify_self, h']
  rfl
theorem new_end {w0 w W5 W6 : World} {F : Nat → Prop} {wB : Nat} {v v' : Value} {xs : List Sh} {k p a m b : Nat} {e : Ending} (h : St w0 w F wB v xs k) (he : e = .returned (.bool true)) (u5 : Below w.heap.size w W5) (hne : [a, m, b].Nodup ∧ p ∉ [a, m, b]) (hlo : ∀ j ∈ [p, a, m, b], w.heap.size ≤ j ∧ j < W5.heap.size)
    (hp : PairAt W5 p a b) (hA : ∀ F, ProA W5 F 1 a m 0 []) (hR : ∀ F, RefA W5 F 2 b []) (hO : W6.ownsRow 0 37 1 v' (xs.length + 1) (xs.map (fun x => ptr x.p) ++ [ptr p])) (hg : W5.grownBy W6 v.ownBlock) (hmv : Moved W5 v v') : StepEnd w0 w wB v xs k e (W6.setCell ⟨wB, 0, none⟩ v') := by
  have hB := h.2.1.lt
  obtain ⟨h1, h2, h3, h4, h5⟩ := h
  have h2' := h2
  obtain ⟨⟨lv, w1⟩, w2, w3, w4, w5⟩ := h2'
  have hown : ∀ j, v.ownBlock = some j → j < w.heap.size := fun j hj => ownsRow_lt w2 j (by simpa using hj)
  have z5 := u5.size
  have z6 := hg.size
  have hsz : (W6.setCell ⟨wB, 0, none⟩ v').heap.size = W6.heap.size := by simp [World.setCell]
  have hold : ∀ j, j < w.heap.size → j ≠ wB → v.ownBlock ≠ some j → (W6.setCell ⟨wB, 0, none⟩ v').heap[j]? = w.heap[j]? := fun j hj e1 e2 => by
    rw [Below.heap_setCell _ _ _ _ e1, hg.block j (by omega) (fun e => e2 e.symm), u5.block j hj]
  have hnew : ∀ j, w.heap.size ≤ j → j < W5.heap.size → (W6.setCell ⟨wB, 0, none⟩ v').heap[j]? = W5.heap[j]? := fun j hj hj2 => by
    rw [Below.heap_setCell _ _ _ _ (show j ≠ wB by omega), hg.block j hj2 (fun e => by have := hown j e.symm; omega)]
  have hfm : ∀ j, F j ∨ j ∈ mutL xs → (W6.setCell ⟨wB, 0, none⟩ v').heap[j]? = w.heap[j]? := fun j hj => by
    refine hold j (hj.elim (h3.2.2.1 j) (fun hj => (h3.2.1 j hj).1)) (fun e => ?_) (fun e => ?_)
    · subst e
      exact hj.elim w3 w4
    · exact hj.elim (w5 j e).2.1 (w5 j e).2.2
  have hk : ∀ j ∈ [p, a, m, b], (W6.setCell ⟨wB, 0, none⟩ v').heap[j]? = W5.heap[j]? := fun j hj => hnew j (hlo j hj).1 (hlo j hj).2
  have hvb : ∀ j, v'.ownBlock = some j → v.ownBlock = some j ∨ W5.heap.size ≤ j := fun j hj => by
    rcases hmv with e | e
    · exact .inl (e ▸ hj)
    · exact .inr (e j (by simpa using hj))
  have hS : Shs (W6.setCell ⟨wB, 0, none⟩ v') (fun j => F j ∨ j = p) (xs ++ [⟨p, a, m, b, 0, []⟩]) (k + 1) := by
    refine h3.snoc (by omega) hfm (fun j => Iff.rfl) hne.1 (fun j hj => ?_) hne.2 ⟨hp.keep (hk p (by simp)), .inr rfl, ?_, ?_, ⟨by simp, by simp, fun l hl => (by cases hl)⟩, Int.le_refl _, by simp; omega⟩
    · have := hlo j hj
      omega
    · exact (hA (fun _ => False)).keep (hk a (by simp)) (hk m (by simp)) (fun _ h => h.elim) (fun _ h => h.elim)
    · exact (hR (fun _ => False)).keep (hk b (by simp)) (fun _ h => h.elim) (fun _ h => h.elim)
  have hml : ∀ j, j ∈ mutL (xs ++ [⟨p, a, m, b, 0, []⟩]) ↔ j ∈ mutL xs ∨ j ∈ [a, m, b] := fun j => by rw [mutL_snoc, List.mem_append]; rfl
  have hwl : ∀ j ∈ [a, m, b], w.heap.size ≤ j := fun j hj => (hlo j (List.mem_cons_of_mem _ hj)).1
  have hpl := (hlo p (by simp)).1
  have hlt5 : ∀ j ∈ [p, a, m, b], j < W5.heap.size := fun j hj => (hlo j hj).2
  refine ⟨he, _, v', _, ⟨?_, ⟨⟨lv, ?_⟩, ?_, ?_, ?_, ?_⟩, hS, ?_, by rw [List.length_append]; simp; omega⟩, ⟨by omega, fun j hj hn => hold j hj (fun e => hn (.inl e)) (fun e => hn (.inr (.inl e))), ?_⟩, by rw [List.length_append]; simp⟩
  · have hz0 := h1.size
    refine ⟨?_, ?_, ?_, by omega, fun j hj => ?_⟩
    · exact hg.os.trans (u5.os.trans h1.os)
    · exact hg.tape.trans (u5.tape.trans h1.tape)
    · exact hg.output.trans (u5.output.trans h1.output)
    · rw [hold j (by omega) (fun e => by have := h4 wB (.inl rfl); omega) (fun e => by have := h4 j (.inr (.inl e)); omega), h1.block j hj]
  · refine two_set (c0 := v) ?_ v'
    rw [hg.block wB (by omega) (fun e => (w5 wB e.symm).1 rfl), u5.block wB hB]
    exact w1
  · rw [List.length_append, List.map_append]
    refine ownsRow_keep hO (fun j hj => Below.heap_setCell _ _ _ _ (fun e => ?_))
    rcases hvb j (by simpa using hj) with q | q
    · exact (w5 j q).1 e
    · have e' : j = wB := e
      omega
  · rintro (e | e)
    · exact w3 e
    · omega
  · rw [hml]
    rintro (e | e)
    · exact w4 e
    · have := hwl wB e; omega
  · intro j hj
    rw [hml]
    rcases hvb j hj with q | q
    · have hj2 := hown j q
      refine ⟨(w5 j q).1, ?_, ?_⟩
      · rintro (e | e)
        · exact (w5 j q).2.1 e
        · omega
      · rintro (e | e)
        · exact (w5 j q).2.2 e
        · have := hwl j e; omega
    · refine ⟨by omega, ?_, ?_⟩
      · rintro (e | e)
        · have := h3.2.2.1 j e; omega
        · have := hlt5 p (by simp); omega
      · rintro (e | e)
        · have := (h3.2.1 j e).1; omega
        · have := hlt5 j (List.mem_cons_of_mem _ e); omega
  · have hz0 := h1.size
    rintro j (e | e | e)
    · exact h4 j (.inl e)
    · rcases hvb j e with q | q
      · exact h4 j (.inr (.inl q))
      · omega
    · rcases (hml j).1 e with q | q
      · exact h4 j (.inr (.inr q))
      · have := hwl j q; omega
  · rintro j (e | e | e)
    · exact .inl (.inl e)
    · rcases hvb j e with q | q
      · exact .inl (.inr (.inl q))
      · exact .inr (by omega)
    · rcases (hml j).1 e with q | q
      · exact .inl (.inr (.inr q))
      · exact .inr (hwl j q)
theorem info_pp : (Tryz.prog.info? 37).map (fun i => (i.zero, i.size, i.bytes)) = some (some (.pointer none), 1, 8) := by kernel_rfl
set_option maxRecDepth 20000 in
set_option maxHeartbeats 4000000 in
theorem step_new (w0 w : World) (F : Nat → Prop) (wB : Nat) (v : Value) (xs : List Sh) (k : Nat) (ar : Int) (s : By) (h : St w0 w F wB v xs k) (hkb : k ≤ 8796093022208) :
    Calls Tryz.prog 17 #[ptr wB, opV 1 ar s] w (StepEnd w0 w wB v xs k) := by
  have H := hid h
  obtain ⟨i0, hi0, hz0, hz1, hz2⟩ := info_parts info_pp
  have HI := hid hi0
  have hlt := h.2.1.lt
  have hl : xs.length ≤ 8796093022208 := Nat.le_trans h.2.2.2.2 hkb
  clear hi0
  clear h
  go_enter Tryz.func17, Tryz.ntmps17
  go_wp2_with fail
  go_at_call 46
  refine (New_any 1 (fun _ => False) _).mono ?_
  rintro e w2 ⟨rfl, u2, hz, hP⟩
  rw [World.size_alloc] at hz hP ⊢
  have u2' : Below w.heap.size w w2 := (Below.alloc (Below.refl _ _) (Nat.le_refl _) _).trans (u2.mono (by simp))
  have hW := H.out.2.1.keep (w' := w2) (F' := F) (fun j hj _ => u2'.block j hj) (fun j hj => .inl hj) rfl rfl
  obtain ⟨c0, f0⟩ := hW.cell
  have HW := hid hW
  have U2 := hid u2'
  have P2 := hid hP
  have hlt2 := hW.lt
  clear u2 u2' hP hW
  have e4 : ((w2.alloc (.cells #[.slice none 0 0] 95)).alloc (.cells #[ptr (w.heap.size + 1 + 1), ptr (w.heap.size + 1 + 2)] 97)).heap.size = w.heap.size + 1 + 2 + 1 + 1 := by rw [World.size_alloc, World.size_alloc, hz]
  have hone : ∀ j u, [ptr (w.heap.size + 1 + 2 + 1)][j]? = some u → (((w2.alloc (.cells #[.slice none 0 0] 95)).alloc (.cells #[ptr (w.heap.size + 1 + 1), ptr (w.heap.size + 1 + 2)] 97)).alloc (.cells #[ptr (w.heap.size + 1 + 2 + 1)] 37)).cell? ((⟨w.heap.size + 1 + 2 + 1 + 1, 0, none⟩ : Addr).add j) = some u := by
    have := one_at ((w2.alloc (.cells #[.slice none 0 0] 95)).alloc (.cells #[ptr (w.heap.size + 1 + 1), ptr (w.heap.size + 1 + 2)] 97)) 37 (ptr (w.heap.size + 1 + 2 + 1))
    rw [e4] at this
    exact this
  have hp4 : PairAt (((w2.alloc (.cells #[.slice none 0 0] 95)).alloc (.cells #[ptr (w.heap.size + 1 + 1), ptr (w.heap.size + 1 + 2)] 97)).alloc (.cells #[ptr (w.heap.size + 1 + 2 + 1)] 37)) (w.heap.size + 1 + 2 + 1) (w.heap.size + 1 + 1) (w.heap.size + 1 + 2) := by
    have := heap_alloc_new (w2.alloc (.cells #[.slice none 0 0] 95)) (.cells #[ptr (w.heap.size + 1 + 1), ptr (w.heap.size + 1 + 2)] 97)
    rw [World.size_alloc, hz] at this
    exact (Below.heap_alloc _ _ _ (by rw [e4]; omega)).trans this
  have hb4 : OneC (((w2.alloc (.cells #[.slice none 0 0] 95)).alloc (.cells #[ptr (w.heap.size + 1 + 1), ptr (w.heap.size + 1 + 2)] 97)).alloc (.cells #[ptr (w.heap.size + 1 + 2 + 1)] 37)) (w.heap.size + 1 + 2) (.slice none 0 0) := by
    have := heap_alloc_new w2 (.cells #[.slice none 0 0] 95)
    rw [hz] at this
    exact ((Below.heap_alloc _ _ _ (by rw [e4]; omega)).trans (Below.heap_alloc _ _ _ (by rw [World.size_alloc, hz]; omega))).trans this
  have u5 : Below w2.heap.size w2 (((w2.alloc (.cells #[.slice none 0 0] 95)).alloc (.cells #[ptr (w.heap.size + 1 + 1), ptr (w.heap.size + 1 + 2)] 97)).alloc (.cells #[ptr (w.heap.size + 1 + 2 + 1)] 37)) := ((Below.alloc (Below.refl _ _) (Nat.le_refl _) _).alloc (by simp) _).alloc (by simp; omega) _
  have O5 := hid (((HW.out.2.1.alloc (.cells #[.slice none 0 0] 95)).alloc (.cells #[ptr (w.heap.size + 1 + 1), ptr (w.heap.size + 1 + 2)] 97)).alloc (.cells #[ptr (w.heap.size + 1 + 2 + 1)] 37))
  have HONE := hid hone
  have HP4 := hid hp4
  have HB4 := hid hb4
  have U5 := hid u5
  have E4 := hid e4
  clear hone hp4 hb4 u5 e4
  go_wp2_with (at_builtin; refine wpList_append_sep _ rfl _ _ 29 rfl 37 i0 (.pointer none) 1 8 Tryz.underlying29 HI.out hz0 hz1 hz2 rfl (by decide) _ _ _ rfl O5.out ⟨w.heap.size + 1 + 2 + 1 + 1, 0, none⟩ 1 1 [ptr (w.heap.size + 1 + 2 + 1)] rfl rfl HONE.out (by simp [Value.oneCell']) (by unfold maxLen; omega) (by omega) ?_)
  intro v' W6 hO6 hg6 hmv
  have hB6 := hg6.block wB (by simp; omega) (fun e => (H.out.2.1.2.2.2.2 wB e.symm).1 rfl)
  have c6 : W6.cell? ⟨wB, 0, none⟩ = some v := cell_keep (hB6.trans (U5.out.block wB (by omega))) c0
  have f6 : W6.frozen? ⟨wB, 0, none⟩ = false := (World.frozen?_of_block (hB6.trans (U5.out.block wB (by omega)))).trans f0
  have O6 := hid hO6
  have G6 := hid hg6
  have MV := hid hmv
  clear hO6 hg6 hmv hB6
  obtain ⟨ad', cap', rfl⟩ := row_slice O6.out
  go_wp2
  go_ret
  have q := U5.out.size
  refine new_end (p := w.heap.size + 1 + 2 + 1) (a := w.heap.size + 1 + 1) (m := w.heap.size + 1) (b := w.heap.size + 1 + 2) H.out rfl (U2.out.trans (U5.out.mono U2.out.size)) ⟨by simp, by simp; omega⟩ (fun j hj => ?_) HP4.out (fun F' => ?_) (fun F' => ⟨_, HB4.out, RdI.nil _ _ _⟩) O6.out G6.out MV.out
  · have e4 := E4.out
    rw [World.size_alloc, e4]
    simp at hj
    omega
  · exact P2.out.keep (U5.out.block _ P2.out.1.lt) (U5.out.block _ P2.out.mlt) (fun _ h => h.elim) (fun _ h => h.elim)
end Go.Proofs.YtaokifbpakbgdaaGreatDoor

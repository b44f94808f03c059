/-
  Package archive: Count.
-/
import Derived.Test.YtaokifbpakbgdaaGreatDoorArB2
import Derived.Test.YtaokifbpakbgdaaGreatDoorArR7
namespace Go.Proofs.YtaokifbpakbgdaaGreatDoor
open Go.RowKit Go.Maps

theorem grp_ne {n : Nat} {A : List (List (El (n + 2)))} {lvl : Nat} {s : By} {xs : List (Of A)} : grp lvl s xs ≠ [] ↔ ∃ x ∈ xs, nm lvl x.1 = s := by
  unfold grp
  rw [Ne, List.filter_eq_nil_iff]
  simp
theorem Grps.keys {n : Nat} {A : List (List (El (n + 2)))} {W : World} {B0 nb lvl : Nat} {pd : List (El (n + 2)) → Nat × Int} {xs : List (Of A)} {f : Lit → Option Value} {vs : By → Value} (h : Grps W B0 nb lvl pd xs f vs) (hp : (xs.map (·.1)).Perm A) : ∀ kl, kl ∈ (seenA lvl A []).map keyS ↔ (f kl).isSome = true := by
  obtain ⟨_, h2, h3, _, h5⟩ := h
  have hg : ∀ s, grp lvl s xs ≠ [] ↔ s ∈ seenA lvl A [] := fun s => by
    rw [grp_ne, seenA_mem]
    constructor
    · rintro ⟨x, hx, e⟩
      exact .inr ⟨x.1, hp.subset (List.mem_map.2 ⟨x, hx, rfl⟩), e⟩
    · rintro (h | ⟨o, ho, e⟩)
      · cases h
      · obtain ⟨x, hx, rfl⟩ := List.mem_map.1 (hp.symm.subset ho)
        exact ⟨x, hx, e⟩
  intro kl
  rw [List.mem_map]
  constructor
  · rintro ⟨s, hs, rfl⟩
    rw [(h3 s ((hg s).2 hs)).1]; rfl
  · intro hs
    obtain ⟨s, rfl⟩ := h5 kl hs
    refine ⟨s, (hg s).1 (fun e => ?_), rfl⟩
    rw [h2 s e] at hs
    cases hs
theorem keyS_nodup {S : List By} (h : S.Nodup) : (S.map keyS).Nodup := by
  rw [List.Nodup, List.pairwise_map]
  exact h.imp (fun h e => h (by injection e))
set_option maxRecDepth 20000 in
set_option maxHeartbeats 2000000 in
theorem Count_any (n : Nat) (F : Nat → Prop) (w : World) (a m : Nat) (T : Int) (A : List (List (El (n + 2)))) (h : ProA w F n a m T A) (hG : Good A) (hV : NamesV w) :
    Calls Tryz.prog 53 #[ptr a] w fun e w' => e = .returned (arr4 (fun i => (cntA A i : Int))) ∧ Below w.heap.size w w' := by
  have H := hid h
  have HG := hid hG
  have HV := hid hV
  have HL := hid hG.1
  clear h hG hV
  go_enter Tryz.func53, Tryz.ntmps53
  go_wp2_with fail
  go_loopw [5] (fun i wr => ∃ k : Nat, k ≤ 4 ∧ i = .int .i64 k ∧ Hid (F4 wr w.heap.size (fun _ => 0)) ∧ Hid (F4 wr (w.heap.size + 1) (upTo (fun i => (cntA A i : Int)) k)) ∧ Hid (Below w.heap.size w wr)) (fun i _ => 4 - (intOf i).toNat)
  case atStart =>
    refine ⟨0, by omega, rfl, ?_, ?_, Below.alloc (Below.alloc (Below.refl _ _) (Nat.le_refl _) _) (by simp) _⟩
    · exact (Below.heap_alloc _ _ _ (by simp)).trans (heap_alloc_new _ _)
    · have := heap_alloc_new (w.alloc (.cells #[.int .i64 0, .int .i64 0, .int .i64 0, .int .i64 0] 66)) (.cells #[.int .i64 0, .int .i64 0, .int .i64 0, .int .i64 0] 66)
      rw [World.size_alloc] at this
      exact this
  case round =>
    obtain ⟨k, hk, rfl, hR, hO, hU⟩ := hrel
    by_cases hkl : k < 4
    · have hlt := hO.out.lt
      go_wp2_with fail
      go_at_call 104
      obtain ⟨h1, f, ps, hM, hP, _, _, hK⟩ := H.out.up hU.out
      refine (on_any n F wr a m k T A f ps h1 hM hP hK HG.out hkl (HV.out.up hU.out)).mono ?_
      rintro e w2 ⟨u2, nb, B0, pd, xs, f', vs, rfl, _, _, _, hp, hGr⟩
      have hR2 := hid (hR.out.keep (u2.block _ hR.out.lt))
      have hO2 := hid (hO.out.keep (u2.block _ hO.out.lt))
      have U2 := hid (hU.out.trans (u2.mono hU.out.size))
      obtain ⟨c0, f0⟩ := hO2.out.cell hkl
      have hle : ∀ ty, (Builtin.len_ #[136] ty #[.map (some nb)]).run Tryz.prog w2 = .ok (.int .i64 (cntA A k)) w2 := fun ty => by
        have := hGr.1.len (Maps.string_keyed Tryz.underlying9) Tryz.underlying136 (keyS_nodup (seenA_nodup k A [] List.nodup_nil)) (hGr.keys hp) ty
        rw [List.length_map] at this
        exact this
      have O3 := hid ((hO2.out.set hkl (cntA A k : Int)).congr (g := upTo (fun i => (cntA A i : Int)) (k + 1)) (fun i _ => by
        unfold upTo
        by_cases e : i = k
        · subst e; rw [if_pos rfl, if_pos (Nat.lt_succ_self _)]
        · rw [if_neg e]
          by_cases e2 : i < k
          · rw [if_pos e2, if_pos (by omega)]
          · rw [if_neg e2, if_neg (by omega)]))
      have R3 := hid (show F4 (w2.setCell ⟨w.heap.size + 1, k, none⟩ (.int .i64 (cntA A k : Int))) w.heap.size (fun _ => 0) from hR2.out.keep (Below.heap_setCell _ _ _ _ (by simp)))
      have U3 := hid (U2.out.setCell (p := ⟨w.heap.size + 1, k, none⟩) (by simp) (.int .i64 (cntA A k : Int)))
      clear u2 hp hGr h1 hM hP hK
      go_wp2
      go_roundw
      case rel => exact ⟨k + 1, by omega, by go_num, R3, O3, U3⟩
      case measure => simp [intOf]; omega
    · obtain rfl : k = 4 := by omega
      have hO4 := hO.out.congr (g := fun i => (cntA A i : Int)) (fun i hi => by unfold upTo; rw [if_pos hi])
      obtain ⟨c0, f0⟩ := hO4.cell (k := 0) (by omega)
      obtain ⟨c1, f1⟩ := hO4.cell (k := 1) (by omega)
      obtain ⟨c2, f2⟩ := hO4.cell (k := 2) (by omega)
      obtain ⟨c3, f3⟩ := hO4.cell (k := 3) (by omega)
      obtain ⟨r0, s0⟩ := hR.out.cell (k := 0) (by omega)
      obtain ⟨r1, s1⟩ := hR.out.cell (k := 1) (by omega)
      obtain ⟨r2, s2⟩ := hR.out.cell (k := 2) (by omega)
      obtain ⟨r3, s3⟩ := hR.out.cell (k := 3) (by omega)
      clear hO4
      go_wp2
      (try simp only [Exit.inBlock, Exit.then])
      refine bodyPost_ret (v := arr4 (fun i => (cntA A i : Int))) (by simp [results, Tryz.results53, go_sem, r0, r1, r2, r3, arr4]) rfl ?_
      exact ⟨rfl, (((hU.out.setCell (Nat.le_refl _) _).setCell (Nat.le_refl _) _).setCell (Nat.le_refl _) _).setCell (Nat.le_refl _) _⟩
end Go.Proofs.YtaokifbpakbgdaaGreatDoor

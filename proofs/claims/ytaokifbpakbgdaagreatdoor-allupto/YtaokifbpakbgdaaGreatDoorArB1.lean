/-
  Pictures grouped by a name, in memory: a map of rows, and one picture more in it (no walk).
-/
import Derived.Test.YtaokifbpakbgdaaGreatDoorPut10
import Derived.Test.YtaokifbpakbgdaaGreatDoorPut14
import Derived.Maps.AppendAt
namespace Go.Proofs.YtaokifbpakbgdaaGreatDoor
open Go.RowKit Go.Maps

def pcs {n : Nat} {A : List (List (El (n + 2)))} (pd : List (El (n + 2)) → Nat × Int) (x : Of A) : List Value := [.map (some (pd x.1).1), .int .i64 (pd x.1).2]
def rowP {n : Nat} {A : List (List (El (n + 2)))} (pd : List (El (n + 2)) → Nat × Int) (xs : List (Of A)) : List Value := (xs.map (pcs pd)).flatten
/-- Those with a name on a level. -/
def grp {n : Nat} {A : List (List (El (n + 2)))} (lvl : Nat) (s : By) (xs : List (Of A)) : List (Of A) := xs.filter (fun x => nm lvl x.1 == s)
theorem grp_snoc {n : Nat} {A : List (List (El (n + 2)))} (lvl : Nat) (s : By) (xs : List (Of A)) (x : Of A) : grp lvl s (xs ++ [x]) = if nm lvl x.1 = s then grp lvl s xs ++ [x] else grp lvl s xs := by
  unfold grp
  rw [List.filter_append]
  by_cases h : nm lvl x.1 = s
  · rw [if_pos h, List.filter_cons_of_pos (by simpa using h), List.filter_nil]
  · rw [if_neg h, List.filter_cons_of_neg (by simpa using h), List.filter_nil, List.append_nil]
def Grps {n : Nat} {A : List (List (El (n + 2)))} (W : World) (B0 nb lvl : Nat) (pd : List (El (n + 2)) → Nat × Int) (pre : List (Of A)) (f : Lit → Option Value) (vs : By → Value) : Prop :=
  MapF W Tryz.prog 9 nb pre.length f ∧ (∀ s, grp lvl s pre = [] → f (keyS s) = none) ∧
  (∀ s, grp lvl s pre ≠ [] → f (keyS s) = some (vs s) ∧ W.ownsRow B0 131 2 (vs s) (grp lvl s pre).length (rowP pd (grp lvl s pre))) ∧
  (∀ s t, grp lvl s pre ≠ [] → grp lvl t pre ≠ [] → s ≠ t → (vs s).ownBlock ≠ (vs t).ownBlock) ∧ ∀ k, (f k).isSome = true → ∃ s, k = keyS s
/-- It lies on where the map and every row of cells from B0 on lie on. -/
theorem Grps.keep {n : Nat} {A : List (List (El (n + 2)))} {W W' : World} {B0 nb lvl : Nat} {pd : List (El (n + 2)) → Nat × Int} {pre : List (Of A)} {f : Lit → Option Value} {vs : By → Value} (h : Grps W B0 nb lvl pd pre f vs) (hb : W'.heap[nb]? = W.heap[nb]?)
    (hk : ∀ j o, B0 ≤ j → W.heap[j]? = some o → o.isCells = true → W'.heap[j]? = some o) : Grps W' B0 nb lvl pd pre f vs := by
  obtain ⟨h1, h2, h3, h4, h5⟩ := h
  refine ⟨h1.kept hb, h2, fun s hs => ⟨(h3 s hs).1, ownsRow_keep (h3 s hs).2 (fun j hj => ?_)⟩, h4, h5⟩
  have h6 := (h3 s hs).2
  have h7 := (h6.lt j (by simpa using hj)).1
  rcases id h6.2 with ⟨e, _⟩ | ⟨g, cap, cur, e, _, hh, _⟩
  · rw [e] at hj; cases hj
  · rw [e] at hj
    simp [Value.ownBlock] at hj
    subst hj
    rw [hk _ _ h7 hh rfl, hh]
theorem info_pic : (Tryz.prog.info? 131).map (fun i => (i.zero, i.size, i.bytes)) = some (some (.agg #[.map none, .int .i64 0]), 2, 16) := by kernel_rfl
theorem pair_cells (w : World) (T : TypeId) (c0 c1 : Value) : ∀ j u, [c0, c1][j]? = some u → (w.alloc (.cells #[c0, c1] T)).cell? ((⟨w.heap.size, 0, none⟩ : Addr).add j) = some u := by
  intro j u hj
  rw [Addr.add_lit]
  match j, hj with
  | 0, hj | 1, hj => simp at hj; subst hj; simp
  | j + 2, hj => simp at hj
theorem MapF.look1 {w : World} {P : Program} {t k e : TypeId} {b n : Nat} {f : Lit → Option Value} (h : MapF w P k b n f) (K : Keyed P k) (ht : P.underlying t = some (.map k e)) {z : Value} (hz : (zeroValue e).run P w = .ok z w) {key : Value} {kl : Lit} (hkey : keyOf P k key = some kl) :
    (Instr.lookup t (.map (some b)) key false).run P w = .ok ((f kl).getD z) w := by
  obtain ⟨D, h1, rfl⟩ := h
  obtain ⟨v, ps, hrun, hv⟩ := h1.lookup K ht hz (zd := .held z) (zp := []) rfl hkey
  obtain ⟨e1, _⟩ := look_view hv
  rw [hrun, e1]
theorem Grps.step {n : Nat} {A : List (List (El (n + 2)))} {W : World} {B0 nb lvl : Nat} {pd : List (El (n + 2)) → Nat × Int} {pre : List (Of A)} {f : Lit → Option Value} {vs : By → Value} (h : Grps W B0 nb lvl pd pre f vs) (x : Of A) (hlen : pre.length < 100) (hs : (nm lvl x.1).length ≤ 64) (hnb : nb < B0) (hB0 : B0 ≤ W.heap.size) :
    ∃ v v' W2 W3, (Instr.lookup 136 (.map (some nb)) (.string (bs (nm lvl x.1))) false).run Tryz.prog W = .ok v W ∧
      (Instr.lookup 136 (.map (some nb)) (.string (bs (nm lvl x.1))) false).run Tryz.prog (W.alloc (.cells #[.map (some (pd x.1).1), .int .i64 (pd x.1).2] 131)) = .ok v (W.alloc (.cells #[.map (some (pd x.1).1), .int .i64 (pd x.1).2] 131)) ∧
      (Builtin.append_ #[144, 144] 144 #[v, .slice (some ⟨W.heap.size, 0, none⟩) 1 1]).run Tryz.prog (W.alloc (.cells #[.map (some (pd x.1).1), .int .i64 (pd x.1).2] 131)) = .ok v' W2 ∧
      (Instr.mapUpdate 136 (.map (some nb)) (.string (bs (nm lvl x.1))) v').run Tryz.prog W2 = .ok () W3 ∧
      (∃ f' vs', Grps W3 B0 nb lvl pd (pre ++ [x]) f' vs') ∧ (W3.os = W.os ∧ W3.tape = W.tape ∧ W3.output = W.output) ∧ W.heap.size ≤ W3.heap.size ∧ (∀ j, j < B0 → j ≠ nb → W3.heap[j]? = W.heap[j]?) ∧
      (∀ j o, j ≠ nb → W.heap[j]? = some o → o.isCells = false → W3.heap[j]? = some o) ∧ (∀ j, j < B0 → W2.heap[j]? = W.heap[j]?) := by
  obtain ⟨i0, hi0, hz0, hz1, hz2⟩ := info_parts info_pic
  obtain ⟨h1, h2, h3, h4, h5⟩ := id h
  have hkey : keyOf Tryz.prog 9 (.string (bs (nm lvl x.1))) = some (keyS (nm lvl x.1)) := WideMaps.keyOf_string_mk Tryz.underlying9 (by rw [bs_size]; unfold maxLen; omega)
  obtain ⟨X, hX⟩ : ∃ X : Obj, X = .cells #[.map (some (pd x.1).1), .int .i64 (pd x.1).2] 131 := ⟨_, rfl⟩
  have hl1 := h1.look1 (Maps.string_keyed Tryz.underlying9) Tryz.underlying136 (Tryz.zeroValue144 _) hkey
  have hm1 : MapF (W.alloc X) Tryz.prog 9 nb pre.length f := h1.kept (Below.heap_alloc _ _ _ h1.lt)
  have hl2 := hm1.look1 (Maps.string_keyed Tryz.underlying9) Tryz.underlying136 (Tryz.zeroValue144 _) hkey
  have hglen : (grp lvl (nm lvl x.1) pre).length ≤ pre.length := List.length_filter_le _ _
  -- the row of that name
  have hrow : W.ownsRow B0 131 2 ((f (keyS (nm lvl x.1))).getD (.slice none 0 0)) (grp lvl (nm lvl x.1) pre).length (rowP pd (grp lvl (nm lvl x.1) pre)) := by
    by_cases e : grp lvl (nm lvl x.1) pre = []
    · rw [h2 _ e, e]; exact World.ownsRow_nil _ _ _ _
    · rw [(h3 _ e).1]; exact (h3 _ e).2
  generalize hv : (f (keyS (nm lvl x.1))).getD (.slice none 0 0) = v at hl1 hl2 hrow
  obtain ⟨v', W2, ha, hr', hg, hne, hat⟩ := run_append_own_at (P := Tryz.prog) (W.alloc X) B0 144 144 131 i0 _ 2 16 Tryz.underlying144 hi0 hz0 hz1 hz2 rfl (by decide) v _ _ (hrow.alloc X) ⟨W.heap.size, 0, none⟩ 1 1 (pcs pd x) rfl (by rw [hX]; exact pair_cells _ _ _ _) (by intro u hu; simp [pcs] at hu; rcases hu with rfl | rfl <;> rfl) (by unfold maxLen; omega) (by omega) (by simp; omega)
  have hnblt := h1.lt
  have hown : ∀ j, v.ownBlock = some j → B0 ≤ j ∧ ∃ o : Obj, W.heap[j]? = some o ∧ o.isCells = true := fun j hj => by
    rcases id hrow.2 with ⟨e, _⟩ | ⟨g, cap, cur, e, hb, hh, _⟩
    · rw [e] at hj; cases hj
    · rw [e] at hj
      simp [Value.ownBlock] at hj
      subst hj
      exact ⟨hb, _, hh, rfl⟩
  have hm2 : MapF W2 Tryz.prog 9 nb pre.length f := hm1.kept (hg.block nb (by simp; omega) (fun e => by have := (hown nb e.symm).1; omega))
  obtain ⟨W3, hu, hm3, hg3⟩ := hm2.store (Maps.string_keyed Tryz.underlying9) Tryz.underlying136 (by unfold maxLen; omega) hkey trivial v'
  have z2 := hg.size
  have z3 := hg3.size
  rw [World.size_alloc] at z2
  have same : ∀ j, j < W.heap.size → j ≠ nb → some j ≠ v.ownBlock → W3.heap[j]? = W.heap[j]? := fun j hj h1 h2 => by
    rw [hg3.block j (by omega) (fun e => h1 (by simpa using e)), hg.block j (by simp; omega) h2, Below.heap_alloc _ _ _ hj]
  rw [hX] at hl2 ha
  have hvs : grp lvl (nm lvl x.1) pre ≠ [] → v = vs (nm lvl x.1) := fun e => by rw [← hv, (h3 _ e).1]; rfl
  have hvn : grp lvl (nm lvl x.1) pre = [] → v = .slice none 0 0 := fun e => by rw [← hv, h2 _ e]; rfl
  have hself : upd f (keyS (nm lvl x.1)) (some v') (keyS (nm lvl x.1)) = some v' := by
    unfold upd; rw [if_pos ((same_iff (show WideAt.IsKeyLit (keyS (nm lvl x.1)) from trivial)).2 rfl)]
  have hother : ∀ t, t ≠ nm lvl x.1 → upd f (keyS (nm lvl x.1)) (some v') (keyS t) = f (keyS t) := fun t ht => by
    unfold upd
    rw [if_neg (fun h => ht (by have := (same_iff (show WideAt.IsKeyLit (keyS (nm lvl x.1)) from trivial)).1 h; injection this))]
  have hg1 : ∀ t, t ≠ nm lvl x.1 → grp lvl t (pre ++ [x]) = grp lvl t pre := fun t ht => by rw [grp_snoc, if_neg (fun e => ht e.symm)]
  have hg2 : grp lvl (nm lvl x.1) (pre ++ [x]) = grp lvl (nm lvl x.1) pre ++ [x] := by rw [grp_snoc, if_pos rfl]
  have hblk : ∀ t, grp lvl t pre ≠ [] → ∃ g, (vs t).ownBlock = some g ∧ B0 ≤ g ∧ g < W.heap.size := fun t ht => by
    have h6 := (h3 t ht).2
    rcases id h6.2 with ⟨_, e⟩ | ⟨g, cap, cur, e, hb, hh, _⟩
    · exact absurd (List.eq_nil_of_length_eq_zero e) ht
    · exact ⟨g, by rw [e]; rfl, hb, (Array.getElem?_eq_some_iff.1 hh).1⟩
  have hapart : ∀ t, t ≠ nm lvl x.1 → grp lvl t pre ≠ [] → v.ownBlock ≠ (vs t).ownBlock := fun t ht hn => by
    by_cases e : grp lvl (nm lvl x.1) pre = []
    · rw [hvn e]
      obtain ⟨g, hg, _⟩ := hblk t hn
      rw [hg]
      simp [Value.ownBlock]
    · rw [hvs e]
      exact h4 _ _ e hn (fun e => ht e.symm)
  have hapart' : ∀ t, t ≠ nm lvl x.1 → grp lvl t pre ≠ [] → v'.ownBlock ≠ (vs t).ownBlock := fun t ht hn => by
    rcases hat with e | e
    · rw [e]; exact hapart t ht hn
    · rw [e]
      obtain ⟨g, hg, _, hlt⟩ := hblk t hn
      rw [hg, World.size_alloc]
      simp
      omega
  refine ⟨v, v', W2, W3, hl1, hl2, ha, hu, ?_, ⟨?_, ?_, ?_⟩, by omega, fun j hj h => same j (by omega) h (fun e => by have := (hown j e.symm).1; omega), fun j o h ho hc => ?_, fun j hj => ?_⟩
  · refine ⟨_, fun t => if t = nm lvl x.1 then v' else vs t, by rw [List.length_append]; exact hm3, fun t ht => ?_, fun t ht => ?_, fun t1 t2 n1 n2 h12 => ?_, fun k hk => ?_⟩
    · by_cases e : t = nm lvl x.1
      · rw [e, hg2] at ht; simp at ht
      · rw [hother t e]
        rw [hg1 t e] at ht
        exact h2 t ht
    · dsimp only []
      by_cases e : t = nm lvl x.1
      · rw [e, hg2, if_pos rfl, hself]
        refine ⟨rfl, ?_⟩
        rw [List.length_append, show rowP pd (grp lvl (nm lvl x.1) pre ++ [x]) = rowP pd (grp lvl (nm lvl x.1) pre) ++ pcs pd x by unfold rowP; rw [List.map_append, List.flatten_append]; simp]
        refine ownsRow_keep hr' (fun j hj => hg3.block j (ownsRow_lt hr' j hj) (fun e => ?_))
        have := (hr'.lt j (by simpa using hj)).1
        have : j = nb := by simpa using e
        omega
      · rw [hother t e, if_neg e]
        rw [hg1 t e] at ht ⊢
        refine ⟨(h3 t ht).1, ownsRow_keep (h3 t ht).2 (fun j hj => same j (ownsRow_lt (h3 t ht).2 j hj) (fun e2 => ?_) (fun e2 => ?_))⟩
        · have := ((h3 t ht).2.lt j (by simpa using hj)).1
          omega
        · exact hapart t e ht (by rw [← e2]; exact (by simpa using hj : (vs t).ownBlock = some j).symm)
    · dsimp only []
      by_cases e1 : t1 = nm lvl x.1
      · have e2 : t2 ≠ nm lvl x.1 := fun e => h12 (e1.trans e.symm)
        rw [if_pos e1, if_neg e2]
        rw [hg1 t2 e2] at n2
        exact hapart' t2 e2 n2
      · rw [if_neg e1]
        rw [hg1 t1 e1] at n1
        by_cases e2 : t2 = nm lvl x.1
        · rw [if_pos e2]
          exact fun e => hapart' t1 e1 n1 e.symm
        · rw [if_neg e2]
          rw [hg1 t2 e2] at n2
          exact h4 t1 t2 n1 n2 h12
    · by_cases e : k = keyS (nm lvl x.1)
      · exact ⟨_, e⟩
      · refine h5 k ?_
        unfold upd at hk
        rw [if_neg (fun h => e ((same_iff (show WideAt.IsKeyLit (keyS (nm lvl x.1)) from trivial)).1 h))] at hk
        exact hk
  · exact hg3.os.trans hg.os
  · exact hg3.tape.trans hg.tape
  · exact hg3.output.trans hg.output
  · have hj := (Array.getElem?_eq_some_iff.1 ho).1
    rw [same j hj h (fun e => ?_), ho]
    obtain ⟨_, o2, h3, h4⟩ := hown j e.symm
    rw [ho] at h3
    cases h3
    rw [hc] at h4
    cases h4
  · rw [hg.block j (by simp; omega) (fun e => by have := (hown j e.symm).1; omega), Below.heap_alloc _ _ _ (by omega)]
end Go.Proofs.YtaokifbpakbgdaaGreatDoor

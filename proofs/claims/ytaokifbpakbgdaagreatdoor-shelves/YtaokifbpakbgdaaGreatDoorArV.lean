/-
  The library's iterator over the values of a map (maps.Values), at the pictures of an archive, for every loop body that leaves that map and the iterator alone.
-/
import Derived.Test.YtaokifbpakbgdaaGreatDoorArQ9
import Derived.RangeFuncNested
import Derived.RangeFuncBound
import Derived.RangeFuncCalls
import Derived.RangeFuncLeaves
import Derived.Shelf.Abstract
import Derived.OwnWalkIn
import Derived.TacticsInMore
import Derived.LoopNIn
import Derived.LoopIn
import Derived.Maps.OwnIn
import Derived.Sort.MapsRangeIn
namespace Go.Proofs.YtaokifbpakbgdaaGreatDoor
open Go.RowKit Go.Maps Go.Shelf
attribute [local go_sem] Oper.semAt_some

section
variable {Fe : Fence} {nF : Nat} {P : Program} {w : World} {ops : Array Oper} {rest : List Oper} {o : Oper} {a : Act} {Q : Exit → Act → World → Prop}
/-- 'range m', in a fence. -/
theorem wpListIn_range_F (hg : o.guard = none) (m : Operand) (t : TypeId) (hop : o.op = Op.range t m) (k e : TypeId) (K : Keyed P k) (ht : P.underlying t = some (.map k e)) (b n : Nat) (f : Lit → Option Value) (hm : a.eval m = .map (some b)) (h : MapF w P k b n f)
    (hK : ∀ w' cnt, RanF w' P k b w.heap.size n f (fun kl => (f kl).isSome) cnt → w.grownBy w' none → w'.heap.size = w.heap.size + 1 → wpListIn Fe nF P ops Q rest (a.put o.dst (.pointer (some ⟨w.heap.size, 0, none⟩))) w') : wpListIn Fe nF P ops Q (o :: rest) a w := by
  obtain ⟨D, h1, rfl⟩ := h
  refine wpListIn_range_own w hg m t hop k e K ht heldR b n D hm h1 (fun w' h2 h3 h4 => hK w' (Maps.size D) ⟨D, by rw [has_view h1 K] at h2; exact h2, rfl⟩ h3 h4)
/-- The next entry, in a fence. -/
theorem wpListIn_next_F (hg : o.guard = none) (it : Operand) (hop : o.op = Op.next it false) (k : TypeId) (K : Keyed P k) (hk : P.underlying k = some .string) (b r n : Nat) (f : Lit → Option Value) (left : Lit → Bool) (cnt : Nat)
    (hit : a.eval it = .pointer (some ⟨r, 0, none⟩)) (h : RanF w P k b r n f left cnt)
    (hDone : cnt = 0 → (∀ kl, left kl = false) → wpListIn Fe nF P ops Q rest (a.put o.dst (.tuple #[.bool false])) w)
    (hMore : ∀ (x : ByteArray) (c : Value) (w' : World) (cnt' : Nat), x.size ≤ maxLen → left (.string x.data.toList) = true → f (.string x.data.toList) = some c → RanF w' P k b r n f (fun z => left z && !z.sameKey (.string x.data.toList)) cnt' → cnt' < cnt →
      w.grownBy w' (some r) → w'.heap.size = w.heap.size → (Instr.entry (.pointer (some ⟨r, 0, none⟩))).run P w' = .ok (.tuple #[.string x, c]) w' → wpListIn Fe nF P ops Q rest (a.put o.dst (.tuple #[.bool true, .string x, c])) w') : wpListIn Fe nF P ops Q (o :: rest) a w := by
  obtain ⟨D, h1, rfl⟩ := h
  refine wpListIn_next_ranges w hg it hop k K heldR (fun x : ByteArray => .string x) (fun c : Value => c) (fun key kl hkey => Maps.keyOf_string_inv hk hkey) (fun v y _ => ⟨v, rfl⟩) b r n D left cnt hit h1 hDone (fun x c kl y w' cnt' h2 h3 h4 h5 h6 h7 h8 h9 h10 => ?_)
  have hx : x.size ≤ maxLen := by
    by_cases hs : x.size ≤ maxLen
    · exact hs
    · rw [keyOf_string hk] at h2
      simp [mapKey, hk, hs] at h2
  have e : kl = .string x.data.toList := Option.some.inj (h2.symm.trans (WideMaps.keyOf_string_mk hk hx))
  subst e
  refine hMore x c w' cnt' hx h3 ?_ ⟨D, h6, rfl⟩ h7 h8 h9 h10
  unfold heldR at h4
  injection h4 with h4
  unfold view
  rw [h5 .nil, ← h4]
end
/-- Every map and every walk over one lies as it lay, but for the map of that block. -/
structure KeepsBut (nb : Nat) (W W' : World) : Prop where
  size : W.heap.size ≤ W'.heap.size
  same : ∀ (k : Nat) (o : Obj), k ≠ nb → W.heap[k]? = some o → o.isWalk = true → W'.heap[k]? = some o
theorem KeepsBut.trans {nb : Nat} {A B C : World} (h : KeepsBut nb A B) (k : KeepsBut nb B C) : KeepsBut nb A C := ⟨Nat.le_trans h.size k.size, fun i o hi h1 h2 => k.same i o hi (h.same i o hi h1 h2) h2⟩
theorem KeepsBut.book {nb : Nat} {w : World} (W : World) (l : Nat) (o o' : Obj) (_ : w.heap.size ≤ l) (h : W.heap[l]? = some o) (_ : o.isCells = false) (hw : o.isWalk = false) : KeepsBut nb W (W.putObj l o') := ⟨(KeepsWalks.putObj _ h hw).size, fun k x _ h1 h2 => (KeepsWalks.putObj _ h hw).same k x h1 h2⟩
theorem RanF.but {w w' : World} {P : Program} {k : TypeId} {b r n : Nat} {f : Lit → Option Value} {left : Lit → Bool} {cnt nb : Nat} (h : RanF w P k b r n f left cnt) (hk : KeepsBut nb w w') (hb : b ≠ nb) (hr : r ≠ nb) : RanF w' P k b r n f left cnt := by
  obtain ⟨D, ⟨es, clock, since, seen, c0, h1, h2, h3, h4, h5, h6⟩, h7⟩ := h
  exact ⟨D, ⟨es, clock, since, seen, c0, hk.same _ _ hb h1 rfl, h2, h3, h4, hk.same _ _ hr h5 rfl, h6⟩, h7⟩
theorem RanF.walk {w : World} {P : Program} {k : TypeId} {b r n : Nat} {f : Lit → Option Value} {left : Lit → Bool} {cnt : Nat} (h : RanF w P k b r n f left cnt) : ∃ o : Obj, w.heap[r]? = some o ∧ o.isWalk = true := by
  obtain ⟨D, h1, _⟩ := h
  exact h1.iter_walk
theorem RanF.le {w : World} {P : Program} {k : TypeId} {b r n : Nat} {f : Lit → Option Value} {left : Lit → Bool} {cnt : Nat} (h : RanF w P k b r n f left cnt) : cnt ≤ n := by
  obtain ⟨D, ⟨es, clock, since, seen, c0, h1, h2, h3, h4, h5, h6, h7, h8⟩, _⟩ := h
  rw [← h7]
  refine Nat.le_trans ?_ h3
  unfold leftOf
  exact Array.size_filter_le ..
/-- The pictures, as the data sets that they are of. -/
abbrev Of {n : Nat} (A : List (List (El (n + 2)))) := { l : List (El (n + 2)) // l ∈ A }
abbrev encP {n : Nat} {A : List (List (El (n + 2)))} (pd : List (El (n + 2)) → Nat × Int) (x : Of A) : Array Value := #[picV (pd x.1).1 (pd x.1).2]
set_option maxRecDepth 100000 in
set_option maxHeartbeats 2000000 in
theorem values1_in (Fe : Fence) (nF : Nat) (h8 : Fe.fn 226) (hro : Fe.round = none) (hn : 1 ≤ nF) {n : Nat} (l Bm m nb : Nat) (A : List (List (El (n + 2)))) (f : Lit → Option Value) (pd : List (El (n + 2)) → Nat × Int) (J Jx : List (Of A) → World → Prop)
    (hY : ∀ pre x W, J pre W → pre.length < A.length → YieldAt Fe (nF - 1) Tryz.prog l (encP pd x) W fun e W' => (e = .returned (.bool true) ∧ J (pre ++ [x]) W' ∧ KeepsBut nb W W') ∨ (e = .returned (.bool false) ∧ Jx (pre ++ [x]) W'))
    (W : World) (hJ : AbidesFrom W.heap.size J) (hm : W.cell? ⟨Bm, 0, none⟩ = some (.map (some m))) (hM : MapF W Tryz.prog 9 m A.length f) (hK : ∀ k, (f k).isSome = true ↔ ∃ l ∈ A, k = keyS (nm 3 l)) (hpd : ∀ l ∈ A, f (keyS (nm 3 l)) = some (picV (pd l).1 (pd l).2)) (hnd : (A.map (nm 3)).Nodup) (hnb : nb < W.heap.size) (hmb : m ≠ nb) (h0 : J [] W) :
    CallsIn Fe nF Tryz.prog 226 #[.func (.yield l) #[] #[], .pointer (some ⟨Bm, 0, none⟩)] W fun e W' => (∃ v, e = .returned v) ∧ ((∃ xs, (xs.map (·.1)).Perm A ∧ J xs W') ∨ (∃ pre, True ∧ Jx pre W')) := by
  refine callsIn_of_wp Tryz.func226 rfl h8 ?_ hro
  simp only [Tryz.ntmps226, List.size_toArray, List.length_cons, List.length_nil, Nat.reduceAdd, Nat.reduceSub, Array.replicate_succ, Array.replicate_zero, List.push_toArray, List.append_toArray, List.nil_append, List.cons_append]
  gi_wp2_with (first
    | (gi_at_range; refine wpListIn_range_F rfl _ 122 rfl 9 131 (Maps.string_keyed Tryz.underlying9) Tryz.underlying122 m A.length f rfl hM ?_; intro w0 cnt0 hrg0 hg0 hs0)
    | gi_in)
  go_frame
  gi_loopw [4] (fun _ wr => ∃ (left : Lit → Bool) (cnt : Nat) (ps : List (Of A)), RanF wr Tryz.prog 9 m W.heap.size A.length f left cnt ∧ ps.length + cnt ≤ A.length ∧ ps.Nodup ∧ (∀ q : Of A, left (keyS (nm 3 q.1)) = false ↔ q ∈ ps) ∧ J ps wr) (fun _ wr => wr.rangeLeft m W.heap.size)
  case atStart => exact ⟨_, cnt0, [], hrg0, by simpa using hrg0.le, List.nodup_nil, fun q => ⟨fun h => absurd ((hK _).2 ⟨q.1, q.2, rfl⟩) (by rw [h]; decide), (fun h => nomatch h)⟩, hJ [] W w0 none h0 hg0 (fun r e => by cases e)⟩
  case round =>
    obtain ⟨left, cnt, ps, hrg, hcs, hps, hL, hJs⟩ := hrel
    gi_wp2_with (first
      | (gi_at_next; refine wpListIn_next_F rfl _ rfl 9 (Maps.string_keyed Tryz.underlying9) Tryz.underlying9 m W.heap.size A.length f left cnt rfl hrg ?_ ?_)
      | gi_in)
    · intro _ hl0
      gi_wp2
      go_end0
      refine ⟨⟨_, rfl⟩, .inl ⟨ps, ?_, hJs⟩⟩
      have hA : A.Nodup := by
        rw [List.Nodup, List.pairwise_map] at hnd
        exact hnd.imp (fun h e => h (by rw [e]))
      refine (List.perm_ext_iff_of_nodup ?_ hA).2 (fun x => ?_)
      · rw [List.Nodup, List.pairwise_map]
        exact List.Pairwise.imp (fun h e => h (Subtype.ext e)) hps
      · rw [List.mem_map]
        exact ⟨fun ⟨q, _, e⟩ => e ▸ q.2, fun hx => ⟨⟨x, hx⟩, (hL ⟨x, hx⟩).1 (hl0 _), rfl⟩⟩
    · intro x c w2 cnt2 hx hlx hfx hr2 hlt hg2 hs2 hen
      obtain ⟨q, hq, ek⟩ := (hK (.string x.data.toList)).1 (by rw [hfx]; rfl)
      have ex : x = bs (nm 3 q) := by
        have : x.data.toList = nm 3 q := by injection ek
        rw [← this]; rfl
      subst ex
      have ec : c = picV (pd q).1 (pd q).2 := Option.some.inj (hfx.symm.trans (hpd q hq))
      subst ec
      have hJ2 := hJ ps wr w2 (some W.heap.size) hJs hg2 (fun r e => by cases e; exact ⟨Nat.le_refl _, hrg.walk⟩)
      have hJ3 := hJ ps w2 (w2.alloc (.cells #[.map (some (pd q).1), .int .i64 (pd q).2] 131)) none hJ2 (World.grownBy_alloc w2 _ none) (fun r e => by cases e)
      have hr3 := hr2.up (Below.alloc (Below.refl _ w2) (Nat.le_refl _) (.cells #[.map (some (pd q).1), .int .i64 (pd q).2] 131))
      obtain ⟨fn, tmps, assign, body, hy, hR⟩ := hY ps ⟨q, hq⟩ _ hJ3 (by omega)
      dsimp only [encP] at hy
      clear hs2
      gi_wp2
      refine hR.mono ?_
      have hL2 : ∀ z : Of A, (left (keyS (nm 3 z.1)) && !(keyS (nm 3 z.1)).sameKey (.string (bs (nm 3 q)).data.toList)) = false ↔ z ∈ ps ++ [⟨q, hq⟩] := fun z => by
        rw [List.mem_append, List.mem_singleton, Bool.and_eq_false_iff, hL z]
        constructor
        · rintro (h | h)
          · exact Or.inl h
          · have h2 : (keyS (nm 3 z.1)).sameKey (.string (bs (nm 3 q)).data.toList) = true := by simpa using h
            have h3 := WideAt.sameKey_eq h2
            exact Or.inr (Subtype.ext (nodup_eq hnd z.2 hq (by injection h3)))
        · rintro (h | h)
          · exact Or.inl h
          · rw [h]
            exact Or.inr (by rw [show (keyS (nm 3 q)).sameKey (.string (bs (nm 3 q)).data.toList) = true from WideAt.sameKey_self (show WideAt.IsKeyLit (keyS (nm 3 q)) from trivial)]; rfl)
      have hps2 : (ps ++ [(⟨q, hq⟩ : Of A)]).Nodup := by
        rw [List.nodup_append]
        refine ⟨hps, by simp, fun y hy z hz e => ?_⟩
        rw [List.mem_singleton] at hz
        rw [e, hz] at hy
        have := (hL ⟨q, hq⟩).2 hy
        rw [show left (keyS (nm 3 q)) = true from hlx] at this
        cases this
      rintro e W3 (⟨rfl, hJ3', hk3⟩ | ⟨rfl, hJx3⟩)
      · gi_wp2
        have hr4 := hr3.but hk3 hmb (by omega)
        go_roundw
        case rel => exact ⟨_, cnt2, ps ++ [⟨q, hq⟩], hr4, by simp; omega, hps2, hL2, hJ3'⟩
        case measure => rw [hr4.left_eq, hrg.left_eq]; exact hlt
      · gi_wp2
        refine bodyPost_ret (results_none rfl _ _ _) rfl ?_
        exact ⟨⟨_, rfl⟩, .inr ⟨_, trivial, hJx3⟩⟩
end Go.Proofs.YtaokifbpakbgdaaGreatDoor

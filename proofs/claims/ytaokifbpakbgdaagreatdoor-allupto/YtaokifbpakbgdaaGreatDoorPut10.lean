/-
  Several texts in one; what each one has stands at its head.
-/
import Derived.Test.YtaokifbpakbgdaaGreatDoorPut9
import Derived.RangeFuncNested
import Derived.RangeFuncBound
import Derived.RangeFuncCalls
import Derived.RangeFuncLeaves
import Derived.Shelf.Abstract
import Derived.OwnWalkIn
import Derived.TacticsInMore
import Derived.LoopNIn
import Derived.LoopIn
import Derived.Maps.OwnIn
import Derived.Sort.MapsRangeIn
import Derived.Test.YtaokifbpakbgdaaGreatDoorPut2
import Derived.Test.YtaokifbpakbgdaaGreatDoorPut3
import Derived.OwnWalk
/- The library's iterator over the values of a map (maps.Values), at the pictures of an archive, for every loop body that leaves that map and the iterator alone. -/
namespace Go.Proofs.YtaokifbpakbgdaaGreatDoor
open Go.RowKit Go.Maps Go.Shelf
attribute [local go_sem] Oper.semAt_some

section
variable {Fe : Fence} {nF : Nat} {P : Program} {w : World} {ops : Array Oper} {rest : List Oper} {o : Oper} {a : Act} {Q : Exit → Act → World → Prop}
/-- 'range m', in a fence. -/
theorem wpListIn_range_F (hg : o.guard = none) (m : Operand) (t : TypeId) (hop : o.op = Op.range t m) (k e : TypeId) (K : Keyed P k) (ht : P.underlying t = some (.map k e)) (b n : Nat) (f : Lit → Option Value) (hm : a.eval m = .map (some b)) (h : MapF w P k b n f)
    (hK : ∀ w' cnt, RanF w' P k b w.heap.size n f (fun kl => (f kl).isSome) cnt → w.grownBy w' none → w'.heap.size = w.heap.size + 1 → wpListIn Fe nF P ops Q rest (a.put o.dst (.pointer (some ⟨w.heap.size, 0, none⟩))) w') : wpListIn Fe nF P ops Q (o :: rest) a w := by
  obtain ⟨D, h1, rfl⟩ := h
  refine wpListIn_range_own w hg m t hop k e K ht heldR b n D hm h1 (fun w' h2 h3 h4 => hK w' (Maps.size D) ⟨D, by rw [has_view h1 K] at h2; exact h2, rfl⟩ h3 h4)
/-- The next entry, in a fence. -/
theorem wpListIn_next_F (hg : o.guard = none) (it : Operand) (hop : o.op = Op.next it false) (k : TypeId) (K : Keyed P k) (hk : P.underlying k = some .string) (b r n : Nat) (f : Lit → Option Value) (left : Lit → Bool) (cnt : Nat)
    (hit : a.eval it = .pointer (some ⟨r, 0, none⟩)) (h : RanF w P k b r n f left cnt)
    (hDone : cnt = 0 → (∀ kl, left kl = false) → wpListIn Fe nF P ops Q rest (a.put o.dst (.tuple #[.bool false])) w)
    (hMore : ∀ (x : ByteArray) (c : Value) (w' : World) (cnt' : Nat), x.size ≤ maxLen → left (.string x.data.toList) = true → f (.string x.data.toList) = some c → RanF w' P k b r n f (fun z => left z && !z.sameKey (.string x.data.toList)) cnt' → cnt' < cnt →
      w.grownBy w' (some r) → w'.heap.size = w.heap.size → (Instr.entry (.pointer (some ⟨r, 0, none⟩))).run P w' = .ok (.tuple #[.string x, c]) w' → wpListIn Fe nF P ops Q rest (a.put o.dst (.tuple #[.bool true, .string x, c])) w') : wpListIn Fe nF P ops Q (o :: rest) a w := by
  obtain ⟨D, h1, rfl⟩ := h
  refine wpListIn_next_ranges w hg it hop k K heldR (fun x : ByteArray => .string x) (fun c : Value => c) (fun key kl hkey => Maps.keyOf_string_inv hk hkey) (fun v y _ => ⟨v, rfl⟩) b r n D left cnt hit h1 hDone (fun x c kl y w' cnt' h2 h3 h4 h5 h6 h7 h8 h9 h10 => ?_)
  have hx : x.size ≤ maxLen := by
    by_cases hs : x.size ≤ maxLen
    · exact hs
    · rw [keyOf_string hk] at h2
      simp [mapKey, hk, hs] at h2
  have e : kl = .string x.data.toList := Option.some.inj (h2.symm.trans (WideMaps.keyOf_string_mk hk hx))
  subst e
  refine hMore x c w' cnt' hx h3 ?_ ⟨D, h6, rfl⟩ h7 h8 h9 h10
  unfold heldR at h4
  injection h4 with h4
  unfold view
  rw [h5 .nil, ← h4]
end
/-- Every map and every walk over one lies as it lay, but for the map of that block; below 'lo' all does. -/
structure KeepsBut (nb lo : Nat) (W W' : World) : Prop where
  size : W.heap.size ≤ W'.heap.size
  same : ∀ (k : Nat) (o : Obj), k ≠ nb → W.heap[k]? = some o → o.isWalk = true → W'.heap[k]? = some o
  low : ∀ k : Nat, k < lo → W'.heap[k]? = W.heap[k]?
theorem KeepsBut.trans {nb lo : Nat} {A B C : World} (h : KeepsBut nb lo A B) (k : KeepsBut nb lo B C) : KeepsBut nb lo A C := ⟨Nat.le_trans h.size k.size, fun i o hi h1 h2 => k.same i o hi (h.same i o hi h1 h2) h2, fun j hj => (k.low j hj).trans (h.low j hj)⟩
theorem KeepsBut.book {nb lo : Nat} {w : World} (hlo : lo ≤ w.heap.size) (W : World) (l : Nat) (o o' : Obj) (hl : w.heap.size ≤ l) (h : W.heap[l]? = some o) (_ : o.isCells = false) (hw : o.isWalk = false) : KeepsBut nb lo W (W.putObj l o') := ⟨(KeepsWalks.putObj _ h hw).size, fun k x _ h1 h2 => (KeepsWalks.putObj _ h hw).same k x h1 h2, fun k hk => World.putObj_heap_other (fun e => by omega)⟩
theorem RanF.but {w w' : World} {P : Program} {k : TypeId} {b r n : Nat} {f : Lit → Option Value} {left : Lit → Bool} {cnt nb lo : Nat} (h : RanF w P k b r n f left cnt) (hk : KeepsBut nb lo w w') (hb : b ≠ nb) (hr : r ≠ nb) : RanF w' P k b r n f left cnt := by
  obtain ⟨D, ⟨es, clock, since, seen, c0, h1, h2, h3, h4, h5, h6⟩, h7⟩ := h
  exact ⟨D, ⟨es, clock, since, seen, c0, hk.same _ _ hb h1 rfl, h2, h3, h4, hk.same _ _ hr h5 rfl, h6⟩, h7⟩
theorem RanF.walk {w : World} {P : Program} {k : TypeId} {b r n : Nat} {f : Lit → Option Value} {left : Lit → Bool} {cnt : Nat} (h : RanF w P k b r n f left cnt) : ∃ o : Obj, w.heap[r]? = some o ∧ o.isWalk = true := by
  obtain ⟨D, h1, _⟩ := h
  exact h1.iter_walk
theorem RanF.le {w : World} {P : Program} {k : TypeId} {b r n : Nat} {f : Lit → Option Value} {left : Lit → Bool} {cnt : Nat} (h : RanF w P k b r n f left cnt) : cnt ≤ n := by
  obtain ⟨D, ⟨es, clock, since, seen, c0, h1, h2, h3, h4, h5, h6, h7, h8⟩, _⟩ := h
  rw [← h7]
  refine Nat.le_trans ?_ h3
  unfold Go.leftOf
  exact Array.size_filter_le ..
/-- The pictures, as the data sets that they are of. -/
abbrev Of {n : Nat} (A : List (List (El (n + 2)))) := { l : List (El (n + 2)) // l ∈ A }
abbrev encP {n : Nat} {A : List (List (El (n + 2)))} (pd : List (El (n + 2)) → Nat × Int) (x : Of A) : Array Value := #[picV (pd x.1).1 (pd x.1).2]
set_option maxRecDepth 100000 in
set_option maxHeartbeats 2000000 in
theorem values1_in (Fe : Fence) (nF : Nat) (h8 : Fe.fn 226) (hro : Fe.round = none) (hn : 1 ≤ nF) {n : Nat} (l Bm m nb lo : Nat) (A : List (List (El (n + 2)))) (f : Lit → Option Value) (pd : List (El (n + 2)) → Nat × Int) (J Jx : List (Of A) → World → Prop)
    (hY : ∀ pre x W, J pre W → pre.length < A.length → YieldAt Fe (nF - 1) Tryz.prog l (encP pd x) W fun e W' => (e = .returned (.bool true) ∧ J (pre ++ [x]) W' ∧ KeepsBut nb lo W W') ∨ (e = .returned (.bool false) ∧ Jx (pre ++ [x]) W'))
    (W : World) (hJ : AbidesFrom W.heap.size J) (hm : W.cell? ⟨Bm, 0, none⟩ = some (.map (some m))) (hM : MapF W Tryz.prog 9 m A.length f) (hK : ∀ k, (f k).isSome = true ↔ ∃ l ∈ A, k = keyS (nm 3 l)) (hpd : ∀ l ∈ A, f (keyS (nm 3 l)) = some (picV (pd l).1 (pd l).2)) (hnd : (A.map (nm 3)).Nodup) (hnb : nb < W.heap.size) (hmb : m ≠ nb) (h0 : J [] W) :
    CallsIn Fe nF Tryz.prog 226 #[.func (.yield l) #[] #[], .pointer (some ⟨Bm, 0, none⟩)] W fun e W' => (∃ v, e = .returned v) ∧ ((∃ xs, (xs.map (·.1)).Perm A ∧ J xs W') ∨ (∃ pre, True ∧ Jx pre W')) := by
  refine callsIn_of_wp Tryz.func226 rfl h8 ?_ hro
  simp only [Tryz.ntmps226, List.size_toArray, List.length_cons, List.length_nil, Nat.reduceAdd, Nat.reduceSub, Array.replicate_succ, Array.replicate_zero, List.push_toArray, List.append_toArray, List.nil_append, List.cons_append]
  gi_wp2_with (first
    | (gi_at_range; refine wpListIn_range_F rfl _ 122 rfl 9 131 (Maps.string_keyed Tryz.underlying9) Tryz.underlying122 m A.length f rfl hM ?_; intro w0 cnt0 hrg0 hg0 hs0)
    | gi_in)
  go_frame
  gi_loopw [4] (fun _ wr => ∃ (left : Lit → Bool) (cnt : Nat) (ps : List (Of A)), RanF wr Tryz.prog 9 m W.heap.size A.length f left cnt ∧ ps.length + cnt ≤ A.length ∧ ps.Nodup ∧ (∀ q : Of A, left (keyS (nm 3 q.1)) = false ↔ q ∈ ps) ∧ J ps wr) (fun _ wr => wr.rangeLeft m W.heap.size)
  case atStart => exact ⟨_, cnt0, [], hrg0, by simpa using hrg0.le, List.nodup_nil, fun q => ⟨fun h => absurd ((hK _).2 ⟨q.1, q.2, rfl⟩) (by rw [h]; decide), (fun h => nomatch h)⟩, hJ [] W w0 none h0 hg0 (fun r e => by cases e)⟩
  case round =>
    obtain ⟨left, cnt, ps, hrg, hcs, hps, hL, hJs⟩ := hrel
    gi_wp2_with (first
      | (gi_at_next; refine wpListIn_next_F rfl _ rfl 9 (Maps.string_keyed Tryz.underlying9) Tryz.underlying9 m W.heap.size A.length f left cnt rfl hrg ?_ ?_)
      | gi_in)
    · intro _ hl0
      gi_wp2
      go_end0
      refine ⟨⟨_, rfl⟩, .inl ⟨ps, ?_, hJs⟩⟩
      have hA : A.Nodup := by
        rw [List.Nodup, List.pairwise_map] at hnd
        exact hnd.imp (fun h e => h (by rw [e]))
      refine (List.perm_ext_iff_of_nodup ?_ hA).2 (fun x => ?_)
      · rw [List.Nodup, List.pairwise_map]
        exact List.Pairwise.imp (fun h e => h (Subtype.ext e)) hps
      · rw [List.mem_map]
        exact ⟨fun ⟨q, _, e⟩ => e ▸ q.2, fun hx => ⟨⟨x, hx⟩, (hL ⟨x, hx⟩).1 (hl0 _), rfl⟩⟩
    · intro x c w2 cnt2 hx hlx hfx hr2 hlt hg2 hs2 hen
      obtain ⟨q, hq, ek⟩ := (hK (.string x.data.toList)).1 (by rw [hfx]; rfl)
      have ex : x = bs (nm 3 q) := by
        have : x.data.toList = nm 3 q := by injection ek
        rw [← this]; rfl
      subst ex
      have ec : c = picV (pd q).1 (pd q).2 := Option.some.inj (hfx.symm.trans (hpd q hq))
      subst ec
      have hJ2 := hJ ps wr w2 (some W.heap.size) hJs hg2 (fun r e => by cases e; exact ⟨Nat.le_refl _, hrg.walk⟩)
      have hJ3 := hJ ps w2 (w2.alloc (.cells #[.map (some (pd q).1), .int .i64 (pd q).2] 131)) none hJ2 (World.grownBy_alloc w2 _ none) (fun r e => by cases e)
      have hr3 := hr2.up (Below.alloc (Below.refl _ w2) (Nat.le_refl _) (.cells #[.map (some (pd q).1), .int .i64 (pd q).2] 131))
      obtain ⟨fn, tmps, assign, body, hy, hR⟩ := hY ps ⟨q, hq⟩ _ hJ3 (by omega)
      dsimp only [encP] at hy
      clear hs2
      gi_wp2
      refine hR.mono ?_
      have hL2 : ∀ z : Of A, (left (keyS (nm 3 z.1)) && !(keyS (nm 3 z.1)).sameKey (.string (bs (nm 3 q)).data.toList)) = false ↔ z ∈ ps ++ [⟨q, hq⟩] := fun z => by
        rw [List.mem_append, List.mem_singleton, Bool.and_eq_false_iff, hL z]
        constructor
        · rintro (h | h)
          · exact Or.inl h
          · have h2 : (keyS (nm 3 z.1)).sameKey (.string (bs (nm 3 q)).data.toList) = true := by simpa using h
            have h3 := WideAt.sameKey_eq h2
            exact Or.inr (Subtype.ext (nodup_eq hnd z.2 hq (by injection h3)))
        · rintro (h | h)
          · exact Or.inl h
          · rw [h]
            exact Or.inr (by rw [show (keyS (nm 3 q)).sameKey (.string (bs (nm 3 q)).data.toList) = true from WideAt.sameKey_self (show WideAt.IsKeyLit (keyS (nm 3 q)) from trivial)]; rfl)
      have hps2 : (ps ++ [(⟨q, hq⟩ : Of A)]).Nodup := by
        rw [List.nodup_append]
        refine ⟨hps, by simp, fun y hy z hz e => ?_⟩
        rw [List.mem_singleton] at hz
        rw [e, hz] at hy
        have := (hL ⟨q, hq⟩).2 hy
        rw [show left (keyS (nm 3 q)) = true from hlx] at this
        cases this
      rintro e W3 (⟨rfl, hJ3', hk3⟩ | ⟨rfl, hJx3⟩)
      · gi_wp2
        have hr4 := hr3.but hk3 hmb (by omega)
        go_roundw
        case rel => exact ⟨_, cnt2, ps ++ [⟨q, hq⟩], hr4, by simp; omega, hps2, hL2, hJ3'⟩
        case measure => rw [hr4.left_eq, hrg.left_eq]; exact hlt
      · gi_wp2
        refine bodyPost_ret (results_none rfl _ _ _) rfl ?_
        exact ⟨⟨_, rfl⟩, .inr ⟨_, trivial, hJx3⟩⟩
end Go.Proofs.YtaokifbpakbgdaaGreatDoor

/- Dates and times written in digits: they are values of their kinds, and their order is that of their numbers (no program). -/
namespace Go.Proofs.YtaokifbpakbgdaaGreatDoor
open Go.RowKit

def dgs : Nat → Nat → Bs
  | 0, _ => []
  | k + 1, n => UInt8.ofNat (48 + n / 10 ^ k % 10) :: dgs k n
/-- A date of these numbers, and how far it is along. -/
def dateOf (y m d : Nat) : Bs := dgs 4 y ++ dgs 2 m ++ dgs 2 d
def timeOf (n : Nat) : Bs := dgs 2 (n / 3600) ++ dgs 2 (n / 60 % 60) ++ dgs 2 (n % 60)
theorem dgs_len : ∀ (k n : Nat), (dgs k n).length = k
  | 0, _ => rfl
  | k + 1, n => by rw [dgs, List.length_cons, dgs_len k n]
/-- What the four patterns answer. -/
def Between (k a b c : Bs) (af bf : Bool) : Prop :=
  (matchV k (a ++ [45] ++ b) c = (af && bf) ∧ matchE k (a ++ [45] ++ b) c = 0) ∧ (matchV k (a ++ [45]) c = af ∧ matchE k (a ++ [45]) c = 0) ∧
  (matchV k ([45] ++ b) c = bf ∧ matchE k ([45] ++ b) c = 0) ∧ (matchV k a a = true ∧ matchE k a a = 0)

theorem fold_num : ∀ (l : Bs) (a : Int), l.foldl (fun n c => 10 * n + (nb c - 48)) a = a * 10 ^ l.length + num l
  | [], a => by simp [num]
  | c :: l, a => by
    have h1 := fold_num l (10 * a + (nb c - 48))
    have h2 := fold_num l (10 * 0 + (nb c - 48))
    have e : num (c :: l) = l.foldl (fun n c => 10 * n + (nb c - 48)) (10 * 0 + (nb c - 48)) := rfl
    rw [List.foldl_cons, h1, e, h2, List.length_cons, Int.pow_succ, Int.add_mul, Int.add_mul, Int.mul_comm (10 ^ l.length) 10, ← Int.mul_assoc, Int.mul_comm a 10]
    omega
theorem num_append (a b : Bs) : num (a ++ b) = num a * 10 ^ b.length + num b := by
  unfold num
  rw [List.foldl_append]
  exact fold_num b _
theorem num_cons (c : UInt8) (l : Bs) : num (c :: l) = (nb c - 48) * 10 ^ l.length + num l := by
  have := num_append [c] l
  simpa [num] using this
theorem digitsB_cons (c : UInt8) (l : Bs) : digitsB (c :: l) = true ↔ dg c = true ∧ digitsB l = true := by simp [digitsB]
theorem digitsB_append (a b : Bs) : digitsB (a ++ b) = true ↔ digitsB a = true ∧ digitsB b = true := by simp [digitsB]
theorem less_num : ∀ (a b : Bs), a.length = b.length → digitsB a = true → digitsB b = true → (Op.bytesLess a b = true ↔ num a < num b) ∧ (a = b ↔ num a = num b)
  | [], [], _, _, _ => by simp [Op.bytesLess]
  | x :: a, y :: b, hl, ha, hb => by
    rw [digitsB_cons] at ha hb
    have hl' : a.length = b.length := by simpa using hl
    obtain ⟨i1, i2⟩ := less_num a b hl' ha.2 hb.2
    have ba := num_bd a ha.2
    have bb := num_bd b hb.2
    rw [num_cons, num_cons, hl']
    rw [hl'] at ba
    generalize (10 : Int) ^ b.length = T at ba bb ⊢
    have hx := UInt8.toNat_inj (a := x) (b := y)
    have hlt : x < y ↔ nb x < nb y := by rw [UInt8.lt_iff_toNat_lt]; unfold nb; omega
    have heq : x = y ↔ nb x = nb y := by rw [← hx]; unfold nb; omega
    rcases Int.lt_trichotomy (nb x) (nb y) with h | h | h
    · obtain ⟨d, hd⟩ : ∃ d : Nat, nb y - 48 = (nb x - 48) + 1 + d := ⟨(nb y - nb x - 1).toNat, by omega⟩
      have hT : (nb y - 48) * T = (nb x - 48) * T + T + d * T := by rw [hd, Int.add_mul, Int.add_mul, Int.one_mul]
      have hd0 : 0 ≤ (d : Int) * T := Int.mul_nonneg (by omega) (by omega)
      have hne : ¬ x = y := fun e => by rw [heq] at e; omega
      refine ⟨?_, ?_⟩
      · simp only [Op.bytesLess, decide_eq_true (hlt.2 h), Bool.true_or, true_iff]; omega
      · simp only [List.cons.injEq, hne, false_and, false_iff]; omega
    · have e : x = y := heq.2 h
      subst e
      refine ⟨?_, ?_⟩
      · simp only [Op.bytesLess, UInt8.lt_irrefl, decide_false, Bool.false_or, BEq.rfl, Bool.true_and]
        rw [i1]; omega
      · simp only [List.cons.injEq, true_and]
        rw [i2]; omega
    · obtain ⟨d, hd⟩ : ∃ d : Nat, nb x - 48 = (nb y - 48) + 1 + d := ⟨(nb x - nb y - 1).toNat, by omega⟩
      have hT : (nb x - 48) * T = (nb y - 48) * T + T + d * T := by rw [hd, Int.add_mul, Int.add_mul, Int.one_mul]
      have hd0 : 0 ≤ (d : Int) * T := Int.mul_nonneg (by omega) (by omega)
      have hne : ¬ x = y := fun e => by rw [heq] at e; omega
      have hnl : ¬ x < y := fun e => by rw [hlt] at e; omega
      have hb : (x == y) = false := by simpa using hne
      refine ⟨?_, ?_⟩
      · simp only [Op.bytesLess, decide_eq_false hnl, hb, Bool.false_or, Bool.false_and, Bool.false_eq_true, false_iff]; omega
      · simp only [List.cons.injEq, hne, false_and, false_iff]; omega
theorem leB_num (a b : Bs) (hl : a.length = b.length) (ha : digitsB a = true) (hb : digitsB b = true) : leB a b = decide (num a ≤ num b) := by
  obtain ⟨h1, h2⟩ := less_num a b hl ha hb
  rw [Bool.eq_iff_iff]
  simp only [leB, Bool.or_eq_true, beq_iff_eq, decide_eq_true_eq]
  rw [h1, h2]; omega
theorem dgs_digits : ∀ (k n : Nat), digitsB (dgs k n) = true
  | 0, _ => rfl
  | k + 1, n => by
    rw [dgs, digitsB_cons]
    refine ⟨?_, dgs_digits k n⟩
    rw [dg_iff]
    have : (UInt8.ofNat (48 + n / 10 ^ k % 10)).toNat = 48 + n / 10 ^ k % 10 := by rw [UInt8.toNat_ofNat']; omega
    unfold nb; rw [this]; omega
theorem dgs_num : ∀ (k n : Nat), num (dgs k n) = ((n % 10 ^ k : Nat) : Int)
  | 0, n => by simp [dgs, num, Nat.mod_one]
  | k + 1, n => by
    rw [dgs, num_cons, dgs_num k n, dgs_len]
    have e : (UInt8.ofNat (48 + n / 10 ^ k % 10)).toNat = 48 + n / 10 ^ k % 10 := by rw [UInt8.toNat_ofNat']; omega
    unfold nb
    rw [e, Nat.mod_pow_succ]
    have e2 : ((48 + n / 10 ^ k % 10 : Nat) : Int) - 48 = ((n / 10 ^ k % 10 : Nat) : Int) := by omega
    have e3 : (10 : Int) ^ k = ((10 ^ k : Nat) : Int) := by simp
    rw [e2, e3, ← Int.natCast_mul, ← Int.natCast_add, Nat.add_comm, Nat.mul_comm]

theorem no_dash (l : Bs) (h : digitsB l = true) : (45 : UInt8) ∉ l := fun hm => by
  unfold digitsB at h
  rw [List.all_eq_true] at h
  have := h 45 hm
  revert this; decide
theorem cut_hit (a b : Bs) (h : (45 : UInt8) ∉ a) : cutB (a ++ 45 :: b) = (a, b, true) := by
  unfold cutB Lib.cut
  rcases index_one 45 (a ++ 45 :: b) with ⟨_, h2⟩ | ⟨i, h1, h2, h3, h4⟩
  · exact absurd (by simp) h2
  · have hi : i = a.length := by
      rcases Nat.lt_trichotomy i a.length with hl | hl | hl
      · exfalso
        have e1 : (a ++ 45 :: b)[i]? = some 45 := by
          rw [h3, List.getElem?_append_right (by simp; omega)]
          have : i - (List.take i (a ++ 45 :: b)).length = 0 := by simp; omega
          rw [this]; rfl
        rw [List.getElem?_append_left hl] at e1
        exact h (List.mem_of_getElem? e1)
      · exact hl
      · exfalso
        apply h4
        rw [List.take_append]
        simp
        right
        obtain ⟨d, hd⟩ : ∃ d, i - a.length = d + 1 := ⟨i - a.length - 1, by omega⟩
        rw [hd]; simp
    subst hi
    rw [if_pos (by omega), h1]
    simp
theorem cut_miss (a : Bs) (h : (45 : UInt8) ∉ a) : cutB a = (a, [], false) := by
  unfold cutB Lib.cut
  rcases index_one 45 a with ⟨h1, _⟩ | ⟨i, h1, h2, h3, h4⟩
  · rw [if_neg (by omega)]
  · exact absurd (by rw [h3]; simp) h
/-- Two kinds: dates and times. -/
theorem chk_nil (k : Bs) (hk : k = [68, 65] ∨ k = [84, 77]) : chk k [] = 0 := by rcases hk with rfl | rfl <;> decide
theorem chk_of {k l : Bs} (h : chkF k l = 0) : chk k l = 0 := by unfold chk; rw [if_neg (by rw [h]; omega), h]
theorem pat_span (k p : Bs) (hk : k = [68, 65] ∨ k = [84, 77]) : isPatB k p = spanB k p := by
  unfold isPatB; rcases hk with rfl | rfl <;> rfl
theorem span_dash (k a b : Bs) (ha : (45 : UInt8) ∉ a) (ca : chk k a = 0) (cb : chk k b = 0) (hn : ¬ (a ++ 45 :: b) = [45]) : spanB k (a ++ 45 :: b) = true := by
  unfold spanB
  rw [cut_hit a b ha]
  simp [ca, cb, hn]
theorem span_one (k a : Bs) (ha : (45 : UInt8) ∉ a) (ca : chkF k a = 0) : spanB k a = true := by
  unfold spanB
  rw [cut_miss a ha]
  simp [ca]
theorem match_fit (k p v : Bs) (hc : chk k v = 0) (hp : p ≠ []) (hi : isPatB k p = true) : matchV k p v = fitsB k p v ∧ matchE k p v = 0 := by
  refine ⟨?_, ?_⟩
  · unfold matchV; rw [if_neg (fun h => h hc), if_neg hp, hi]; rfl
  · unfold matchE; rw [if_neg (fun h => h hc), if_neg hp, hi]; rfl
theorem fits_date (p v : Bs) (hv : v ≠ []) : fitsB [68, 65] p v = fitsDateB p v := by
  unfold fitsB
  rw [if_neg (by decide), if_neg (by decide), if_neg hv, if_pos rfl]
theorem fits_time (p v : Bs) (hv : v ≠ []) : fitsB [84, 77] p v = fitsTimeB p v := by
  unfold fitsB
  rw [if_neg (by decide), if_neg (by decide), if_neg hv, if_neg (by decide), if_pos rfl]
theorem leB_nil (v : Bs) (h : v ≠ []) : leB [] v = true := by
  cases v with
  | nil => exact absurd rfl h
  | cons x v => rfl
theorem between_date (a b c : Bs) (ha : chkF [68, 65] a = 0) (hb : chkF [68, 65] b = 0) (hc : chkF [68, 65] c = 0) (da : digitsB a = true) (na : a ≠ []) (nb' : b ≠ []) (nc : c ≠ []) :
    Between [68, 65] a b c (leB a c) (leB c b) := by
  have xa := no_dash a da
  have hk : ([68, 65] : Bs) = [68, 65] ∨ ([68, 65] : Bs) = [84, 77] := Or.inl rfl
  refine ⟨?_, ?_, ?_, ?_⟩
  · rw [List.append_assoc, List.singleton_append]
    have := match_fit [68, 65] (a ++ 45 :: b) c (chk_of hc) (by simp) (by rw [pat_span _ _ hk]; exact span_dash _ a b xa (chk_of ha) (chk_of hb) (by cases a with | nil => exact absurd rfl na | cons x a => simp))
    refine ⟨?_, this.2⟩
    rw [this.1, fits_date _ _ nc, fitsDateB, cut_hit a b xa]
    simp [withinB, nb']
  · have := match_fit [68, 65] (a ++ 45 :: []) c (chk_of hc) (by simp) (by rw [pat_span _ _ hk]; exact span_dash _ a [] xa (chk_of ha) (chk_nil _ hk) (by cases a with | nil => exact absurd rfl na | cons x a => simp))
    refine ⟨?_, this.2⟩
    rw [this.1, fits_date _ _ nc, fitsDateB, cut_hit a [] xa]
    simp [withinB]
  · have := match_fit [68, 65] ([] ++ 45 :: b) c (chk_of hc) (by simp) (by rw [pat_span _ _ hk]; exact span_dash _ [] b (by simp) (chk_nil _ hk) (chk_of hb) (by simpa using nb'))
    refine ⟨?_, this.2⟩
    rw [show ([45] ++ b : Bs) = [] ++ 45 :: b from rfl, this.1, fits_date _ _ nc, fitsDateB, cut_hit [] b (by simp)]
    simp [withinB, nb', leB_nil c nc]
  · have := match_fit [68, 65] a a (chk_of ha) na (by rw [pat_span _ _ hk]; exact span_one _ a xa ha)
    refine ⟨?_, this.2⟩
    rw [this.1, fits_date _ _ na, fitsDateB, cut_miss a xa]
    simp
theorem filled6 (a m : Bs) (h : a.length = 6) : filledB a m = a := fill_stop _ _ _ (fun e => by omega)
theorem filled_nil (m : Bs) : filledB [] m = [] := fill_stop _ _ _ (fun e => e.1 rfl)
theorem between_time (a b c : Bs) (ha : chkF [84, 77] a = 0) (hb : chkF [84, 77] b = 0) (hc : chkF [84, 77] c = 0) (da : digitsB a = true) (la : a.length = 6) (lb : b.length = 6) (lc : c.length = 6) :
    Between [84, 77] a b c (leB a c) (leB c b) := by
  have xa := no_dash a da
  have na : a ≠ [] := fun e => by rw [e] at la; cases la
  have nb' : b ≠ [] := fun e => by rw [e] at lb; cases lb
  have nc : c ≠ [] := fun e => by rw [e] at lc; cases lc
  have hk : ([84, 77] : Bs) = [68, 65] ∨ ([84, 77] : Bs) = [84, 77] := Or.inr rfl
  refine ⟨?_, ?_, ?_, ?_⟩
  · rw [List.append_assoc, List.singleton_append]
    have := match_fit [84, 77] (a ++ 45 :: b) c (chk_of hc) (by simp) (by rw [pat_span _ _ hk]; exact span_dash _ a b xa (chk_of ha) (chk_of hb) (by cases a with | nil => exact absurd rfl na | cons x a => simp))
    refine ⟨?_, this.2⟩
    rw [this.1, fits_time _ _ nc, fitsTimeB, cut_hit a b xa]
    simp [withinB, nb', filled6 a _ la, filled6 b _ lb, filled6 c _ lc]
  · have := match_fit [84, 77] (a ++ 45 :: []) c (chk_of hc) (by simp) (by rw [pat_span _ _ hk]; exact span_dash _ a [] xa (chk_of ha) (chk_nil _ hk) (by cases a with | nil => exact absurd rfl na | cons x a => simp))
    refine ⟨?_, this.2⟩
    rw [this.1, fits_time _ _ nc, fitsTimeB, cut_hit a [] xa]
    simp [withinB, filled6 a _ la, filled6 c _ lc, filled_nil]
  · have := match_fit [84, 77] ([] ++ 45 :: b) c (chk_of hc) (by simp) (by rw [pat_span _ _ hk]; exact span_dash _ [] b (by simp) (chk_nil _ hk) (chk_of hb) (by simpa using nb'))
    refine ⟨?_, this.2⟩
    rw [show ([45] ++ b : Bs) = [] ++ 45 :: b from rfl, this.1, fits_time _ _ nc, fitsTimeB, cut_hit [] b (by simp)]
    simp [withinB, nb', leB_nil c nc, filled6 b _ lb, filled6 c _ lc, filled_nil]
  · have := match_fit [84, 77] a a (chk_of ha) na (by rw [pat_span _ _ hk]; exact span_one _ a xa ha)
    refine ⟨?_, this.2⟩
    rw [this.1, fits_time _ _ na, fitsTimeB, cut_miss a xa]
    simp [Lib.hasPrefix]
/- Dates. -/
theorem date_len (y m d : Nat) : (dateOf y m d).length = 8 := by simp [dateOf, dgs_len]
theorem date_dig (y m d : Nat) : digitsB (dateOf y m d) = true := by
  unfold dateOf; rw [digitsB_append, digitsB_append]; exact ⟨⟨dgs_digits _ _, dgs_digits _ _⟩, dgs_digits _ _⟩
theorem date_num (y m d : Nat) (hy : y ≤ 9999) (hm : m ≤ 99) (hd : d ≤ 99) : num (dateOf y m d) = 10000 * y + 100 * m + d := by
  unfold dateOf
  rw [num_append, num_append, dgs_num, dgs_num, dgs_num, dgs_len, dgs_len, Nat.mod_eq_of_lt (by omega), Nat.mod_eq_of_lt (by omega), Nat.mod_eq_of_lt (by omega)]
  omega
theorem date_chk (y m d : Nat) (hy : y ≤ 9999) (hm1 : 1 ≤ m) (hm : m ≤ 12) (hd1 : 1 ≤ d) (hd : d ≤ 28) : chkF [68, 65] (dateOf y m d) = 0 := by
  have e : dateB (dateOf y m d) = true := by
    have h4 : (dateOf y m d).take 4 = dgs 4 y := by
      unfold dateOf; rw [List.append_assoc, List.take_append_of_le_length (by rw [dgs_len]; omega), List.take_of_length_le (by rw [dgs_len]; omega)]
    have h6 : (dateOf y m d).drop 6 = dgs 2 d := by
      unfold dateOf; rw [List.drop_append, List.drop_eq_nil_of_le (by simp [dgs_len])]; simp [dgs_len]
    have h46 : ((dateOf y m d).drop 4).take 2 = dgs 2 m := by
      unfold dateOf; rw [List.append_assoc, List.drop_append, List.drop_eq_nil_of_le (by simp [dgs_len])]
      simp only [dgs_len, Nat.sub_self, List.drop_zero, List.nil_append]
      rw [List.take_append_of_le_length (by rw [dgs_len]; omega), List.take_of_length_le (by rw [dgs_len]; omega)]
    unfold dateB
    rw [date_len, date_dig, h4, h6, h46, dgs_num, dgs_num, dgs_num, Nat.mod_eq_of_lt (by omega), Nat.mod_eq_of_lt (by omega), Nat.mod_eq_of_lt (by omega)]
    have hdays : 28 ≤ daysOf y m := by
      unfold daysOf
      split
      · omega
      · split
        · omega
        · split
          · split <;> omega
          · omega
    simp
    omega
  show (if dateB (dateOf y m d) then (0 : Int) else 6) = 0
  rw [e]; rfl
/- Times. -/
theorem tm_len (n : Nat) : (timeOf n).length = 6 := by simp [timeOf, dgs_len]
theorem tm_digs (n : Nat) : digitsB (timeOf n) = true := by
  unfold timeOf; rw [digitsB_append, digitsB_append]; exact ⟨⟨dgs_digits _ _, dgs_digits _ _⟩, dgs_digits _ _⟩
theorem tm_num (n : Nat) (h : n < 86400) : num (timeOf n) = 10000 * ((n / 3600 : Nat) : Int) + 100 * ((n / 60 % 60 : Nat) : Int) + ((n % 60 : Nat) : Int) := by
  unfold timeOf
  rw [num_append, num_append, dgs_num, dgs_num, dgs_num, dgs_len, dgs_len, Nat.mod_eq_of_lt (a := n / 3600) (by omega), Nat.mod_eq_of_lt (a := n / 60 % 60) (by omega), Nat.mod_eq_of_lt (a := n % 60) (by omega)]
  omega
theorem tm_chk (n : Nat) (h : n < 86400) : chkF [84, 77] (timeOf n) = 0 := by
  have e : timeB (timeOf n) = true := by
    have h2 : (timeOf n).take 2 = dgs 2 (n / 3600) := by
      unfold timeOf; rw [List.append_assoc, List.take_append_of_le_length (by rw [dgs_len]; omega), List.take_of_length_le (by rw [dgs_len]; omega)]
    have h24 : ((timeOf n).drop 2).take 2 = dgs 2 (n / 60 % 60) := by
      unfold timeOf; rw [List.append_assoc, List.drop_append, List.drop_eq_nil_of_le (by simp [dgs_len])]
      simp only [dgs_len, Nat.sub_self, List.drop_zero, List.nil_append]
      rw [List.take_append_of_le_length (by rw [dgs_len]; omega), List.take_of_length_le (by rw [dgs_len]; omega)]
    have h46 : ((timeOf n).drop 4).take 2 = dgs 2 (n % 60) := by
      unfold timeOf; rw [List.drop_append, List.drop_eq_nil_of_le (by simp [dgs_len])]
      simp only [List.length_append, dgs_len, Nat.sub_self, List.drop_zero, List.nil_append]
      rw [List.take_of_length_le (by rw [dgs_len]; omega)]
    unfold timeB
    rw [tm_len, tm_digs, h2, h24, h46, dgs_num, dgs_num, dgs_num, Nat.mod_eq_of_lt (a := n / 3600) (by omega), Nat.mod_eq_of_lt (a := n / 60 % 60) (by omega), Nat.mod_eq_of_lt (a := n % 60) (by omega)]
    simp
    omega
  show (if timeB (timeOf n) then (0 : Int) else 6) = 0
  rw [e]; rfl
end Go.Proofs.YtaokifbpakbgdaaGreatDoor

/- Numbers in decimal digits with a sign: two tellings of them agree (no program). -/
namespace Go.Proofs.YtaokifbpakbgdaaGreatDoor

def rdig (l : Bs) : Int := if 1 ≤ l.length ∧ l.length ≤ 12 ∧ digitsB l = true then num l else -1
/-- The number that digits spell behind others. -/
def val (acc : Nat) (t : Bs) : Nat := t.foldl (fun n c => 10 * n + (c.toNat - 48)) acc
theorem val_cons (acc : Nat) (c : UInt8) (t : Bs) : val acc (c :: t) = val (10 * acc + (c.toNat - 48)) t := by unfold val; rw [List.foldl_cons]
theorem val_mono (t : Bs) : ∀ acc, acc ≤ val acc t := by
  induction t with
  | nil => exact fun acc => Nat.le_refl _
  | cons c t ih =>
    intro acc
    have h := ih (10 * acc + (c.toNat - 48))
    rw [val_cons]
    generalize val (10 * acc + (c.toNat - 48)) t = v at h
    omega
theorem val_num : ∀ (t : Bs) (acc : Nat), digitsB t = true → ((val acc t : Nat) : Int) = t.foldl (fun n c => 10 * n + (nb c - 48)) (acc : Int)
  | [], _, _ => rfl
  | c :: t, acc, h => by
    rw [digitsB_cons, dg_iff] at h
    unfold nb at h
    rw [val_cons, val_num t _ h.2, List.foldl_cons]
    congr 1
    unfold nb
    omega
theorem parse_ok (M : Nat) (hM : M < 1844674407370955162) : ∀ (t : Bs) (acc : Nat), digitsB t = true → val acc t ≤ M → Lib.parseUintM M acc t = .ok (val acc t)
  | [], _, _, _ => rfl
  | c :: t, acc, h, hv => by
    rw [digitsB_cons, dg_iff] at h
    unfold nb at h
    rw [val_cons] at hv ⊢
    have hm := val_mono t (10 * acc + (c.toNat - 48))
    rw [Lib.parseUintM, if_pos (by omega), if_neg (by omega), if_neg (by omega), show acc * 10 + (c.toNat - 48) = 10 * acc + (c.toNat - 48) by omega]
    exact parse_ok M hM t _ h.2 hv
theorem ok_parse (M : Nat) : ∀ (t : Bs) (acc u : Nat), acc ≤ M → Lib.parseUintM M acc t = .ok u → digitsB t = true ∧ u = val acc t ∧ val acc t ≤ M
  | [], acc, u, ha, h => by
    have e : acc = u := by simpa [Lib.parseUintM] using h
    exact ⟨rfl, e.symm, ha⟩
  | c :: t, acc, u, ha, h => by
    rw [Lib.parseUintM] at h
    by_cases h1 : 48 ≤ c.toNat ∧ c.toNat ≤ 57
    · rw [if_pos h1] at h
      by_cases h2 : 1844674407370955162 ≤ acc
      · rw [if_pos h2] at h; cases h
      · rw [if_neg h2] at h
        by_cases h3 : M < acc * 10 + (c.toNat - 48)
        · rw [if_pos h3] at h; cases h
        · rw [if_neg h3, show acc * 10 + (c.toNat - 48) = 10 * acc + (c.toNat - 48) by omega] at h
          obtain ⟨e1, e2, e3⟩ := ok_parse M t _ u (by omega) h
          refine ⟨?_, e2, e3⟩
          rw [digitsB_cons, dg_iff]
          unfold nb
          exact ⟨by omega, e1⟩
    · rw [if_neg h1] at h; cases h
theorem val_is_num (t : Bs) (h : digitsB t = true) : ((val 0 t : Nat) : Int) = num t := val_num t 0 h
/-- The sign, and the digits behind it. -/
def sgn (l : Bs) : Int := if l.head? = some 45 then -1 else 1
def tl (l : Bs) : Bs := if l.head? = some 43 ∨ l.head? = some 45 then l.drop 1 else l
def rnumBad (l : Bs) : Bool := decide (rdig (tl l) < 0) || decide (12 < l.length)
def rnumV (l : Bs) : Int := if rnumBad l then 0 else sgn l * rdig (tl l)
def rnumOk (l : Bs) : Bool := !rnumBad l && decide (-2147483648 ≤ sgn l * rdig (tl l)) && decide (sgn l * rdig (tl l) ≤ 2147483647)
theorem parse_tl (l : Bs) (hl : l.length ≤ 12) (u : Nat) (h : Lib.parseUintB 32 (tl l) = .ok u) : rdig (tl l) = u ∧ 0 ≤ rdig (tl l) := by
  unfold Lib.parseUintB at h
  by_cases e : tl l = []
  · rw [if_pos e] at h; cases h
  · rw [if_neg e] at h
    obtain ⟨h1, h2, h3⟩ := ok_parse _ _ _ _ (by omega) h
    have hlen : 1 ≤ (tl l).length ∧ (tl l).length ≤ 12 := by
      constructor
      · cases ht : tl l with
        | nil => exact absurd ht e
        | cons a b => simp
      · have : (tl l).length ≤ l.length := by unfold tl; split <;> simp
        omega
    have : rdig (tl l) = num (tl l) := by unfold rdig; rw [if_pos ⟨hlen.1, hlen.2, h1⟩]
    rw [this, ← val_is_num _ h1, ← h2]
    exact ⟨rfl, by omega⟩
theorem tl_parse (l : Bs) (h : 0 ≤ rdig (tl l)) (hb : rdig (tl l) ≤ 4294967295) : ∃ u : Nat, Lib.parseUintB 32 (tl l) = .ok u ∧ rdig (tl l) = u := by
  have hd : 1 ≤ (tl l).length ∧ (tl l).length ≤ 12 ∧ digitsB (tl l) = true := by
    by_cases hc : 1 ≤ (tl l).length ∧ (tl l).length ≤ 12 ∧ digitsB (tl l) = true
    · exact hc
    · unfold rdig at h; rw [if_neg hc] at h; omega
  have e : rdig (tl l) = num (tl l) := by unfold rdig; rw [if_pos hd]
  have hv := val_is_num _ hd.2.2
  have hne : ¬ tl l = [] := fun e => by rw [e] at hd; simp at hd
  refine ⟨val 0 (tl l), ?_, by rw [e, hv]⟩
  unfold Lib.parseUintB
  rw [if_neg hne]
  exact parse_ok _ (by decide) _ _ hd.2.2 (by rw [e, ← hv] at hb; show _ ≤ 2 ^ 32 - 1; omega)
theorem toNat_lit (c : UInt8) (n : UInt8) : c.toNat = n.toNat ↔ c = n := UInt8.toNat_inj
theorem numB_ref (l : Bs) : numB l = if rnumOk l then some (rnumV l) else none := by
  unfold numB
  by_cases h12 : 12 < l.length
  · have hb : rnumBad l = true := by unfold rnumBad; rw [decide_eq_true h12, Bool.or_true]
    have : rnumOk l = false := by unfold rnumOk; rw [hb]; rfl
    rw [if_pos h12, this]; rfl
  · rw [if_neg h12]
    cases l with
    | nil => rfl
    | cons c r =>
      have htl : (if c.toNat = 43 ∨ c.toNat = 45 then r else c :: r) = tl (c :: r) := by
        unfold tl
        simp only [List.head?_cons, Option.some.injEq, List.drop_succ_cons, List.drop_zero]
        have e1 : (c.toNat = 43 ∨ c.toNat = 45) ↔ (c = 43 ∨ c = 45) := by rw [← toNat_lit c 43, ← toNat_lit c 45]; rfl
        by_cases h : c = 43 ∨ c = 45
        · rw [if_pos h, if_pos (e1.2 h)]
        · rw [if_neg h, if_neg (fun x => h (e1.1 x))]
      have hsg : (c.toNat = 45) ↔ (c :: r).head? = some 45 := by
        rw [List.head?_cons, Option.some.injEq, ← toNat_lit c 45]; rfl
      rw [Lib.parseIntB, htl]
      have hlen : (c :: r).length ≤ 12 := by omega
      rcases hp : Lib.parseUintB 32 (tl (c :: r)) with u | _ | _
      · obtain ⟨e1, e2⟩ := parse_tl (c :: r) hlen u hp
        have hb : rnumBad (c :: r) = false := by unfold rnumBad; rw [decide_eq_false (by omega), decide_eq_false h12]; rfl
        unfold rnumOk rnumV sgn
        rw [hb, e1]
        by_cases hn : c.toNat = 45
        · rw [if_pos (hsg.1 hn)]
          by_cases h31 : 2 ^ 31 < u
          · simp only [hn, not_true_eq_false, false_and, if_false, true_and]
            rw [if_pos h31, decide_eq_false (by omega : ¬ (-2147483648 ≤ -1 * (u : Int)))]; rfl
          · simp only [hn, not_true_eq_false, false_and, if_false, true_and]
            rw [if_neg h31, decide_eq_true (by omega : -2147483648 ≤ -1 * (u : Int)), decide_eq_true (by omega : -1 * (u : Int) ≤ 2147483647)]
            simp
        · rw [if_neg (fun h => hn (hsg.2 h))]
          by_cases h31 : 2 ^ 31 ≤ u
          · simp only [hn, not_false_eq_true, true_and]
            rw [if_pos h31, decide_eq_false (by omega : ¬ (1 * (u : Int) ≤ 2147483647))]; simp
          · simp only [hn, not_false_eq_true, true_and, false_and, if_false]
            rw [if_neg h31, decide_eq_true (by omega : -2147483648 ≤ 1 * (u : Int)), decide_eq_true (by omega : 1 * (u : Int) ≤ 2147483647)]
            simp
      all_goals
        have : rnumOk (c :: r) = false := by
          rw [Bool.eq_false_iff]
          intro ho
          unfold rnumOk rnumBad at ho
          simp only [Bool.and_eq_true, Bool.not_eq_true', Bool.or_eq_false_iff, decide_eq_false_iff_not, decide_eq_true_eq] at ho
          have hs : sgn (c :: r) = 1 ∨ sgn (c :: r) = -1 := by unfold sgn; split <;> simp
          have hb : rdig (tl (c :: r)) ≤ 4294967295 := by
            rcases hs with hs | hs <;> rw [hs] at ho <;> omega
          obtain ⟨u, hu, _⟩ := tl_parse (c :: r) (by omega) hb
          rw [hu] at hp
          cases hp
        rw [this]; rfl
end Go.Proofs.YtaokifbpakbgdaaGreatDoor

/- The document's answer (package folioref), first part: parts, digits, nameOK, line. -/
namespace Go.Proofs.YtaokifbpakbgdaaGreatDoor
open Go.RowKit

theorem info_string : (Tryz.prog.info? 9).map (fun i => (i.zero, i.size, i.bytes)) = some (some (.string ByteArray.empty), 1, 16) := by kernel_rfl
/-- Between f and k no sign stands. -/
def Free (c : UInt8) (l : Bs) (f k : Nat) : Prop := c ∉ (l.drop f).take (k - f)
theorem free_next {c : UInt8} {s : ByteArray} {f k : Nat} (h : Free c s.data.toList f k) (hf : f ≤ k) (hk : k < s.size) (hc : s[k] ≠ c) : Free c s.data.toList f (k + 1) := by
  unfold Free at h ⊢
  have hlt : k - f < (s.data.toList.drop f).length := by simp; omega
  rw [show k + 1 - f = k - f + 1 by omega, List.take_succ_eq_append_getElem hlt, List.mem_append, List.mem_singleton, List.getElem_drop]
  rintro (h' | h')
  · exact h h'
  · apply hc
    have : f + (k - f) = k := by omega
    simp only [this] at h'
    exact h'.symm
theorem free_hit {c : UInt8} {s : ByteArray} {f k : Nat} (h : Free c s.data.toList f k) (hf : f ≤ k) (hk : k < s.size) (hc : s[k] = c) :
    spl c (s.data.toList.drop f) = (s.extract f k).data.toList :: spl c (s.data.toList.drop (k + 1)) := by
  unfold Free at h
  have e : s.data.toList.drop f = (s.data.toList.drop f).take (k - f) ++ c :: s.data.toList.drop (k + 1) := by
    conv => lhs; rw [← List.take_append_drop (k - f) (s.data.toList.drop f)]
    rw [List.drop_drop, show f + (k - f) = k by omega]
    congr 1
    rw [List.drop_eq_getElem_cons (by simpa using hk)]
    congr 1
  rw [e, spl_hit c _ _ h, sub_data]
theorem free_end {c : UInt8} {s : ByteArray} {f : Nat} (h : Free c s.data.toList f s.size) : spl c (s.data.toList.drop f) = [(s.extract f s.size).data.toList] := by
  unfold Free at h
  rw [List.take_of_length_le (by simp)] at h
  rw [spl_none c _ h, sub_data, List.take_of_length_le (by simp)]
theorem one_cells (w : World) (z : Value) (t : TypeId) : ∀ (j : Nat) (u : Value), [z][j]? = some u → (w.alloc (.cells #[z] t)).cell? ((⟨w.heap.size, 0, none⟩ : Addr).add j) = some u := by
  intro j u hj
  match j, hj with
  | 0, hj => simp at hj; subst hj; simp [Addr.add]
theorem up_append {w wr w2 : World} {e : TypeId} {v : Value} {n : Nat} {xs : List Value} (hU : Up w wr) (hown : wr.ownsRow w.heap.size e 1 v n xs) (o : Obj) (hg : (wr.alloc o).grownBy w2 v.ownBlock) : Up w w2 :=
  Below.grown (Up.alloc hU o) hg (Nat.le_trans hU.size (by simp)) (fun k hk => ((hown.alloc o).lt k hk).1)
theorem own_cells {w' : World} {base : Nat} {e : TypeId} {v : Value} {zs : List ByteArray} (h : w'.ownsRow base e 1 v zs.length (zs.map Value.string)) (hn : ¬ v = .slice none 0 0) :
    ∃ b cap : Nat, v = .slice (some ⟨b, 0, none⟩) zs.length cap ∧ Hid (∀ (j : Nat) (h : j < zs.length), w'.cell? ⟨b, j, none⟩ = some (.string zs[j])) := by
  rcases h.2 with ⟨h0, _⟩ | ⟨g, cap, cur, rfl, _, _, _, _, _, _⟩
  · exact absurd h0 hn
  · refine ⟨g, cap, rfl, fun j hj => ?_⟩
    rw [h.cellAt j (by omega), List.getElem?_map, List.getElem?_eq_getElem hj]; rfl
set_option maxRecDepth 20000 in
theorem parts_any (s : ByteArray) (c : UInt8) (z : Int) (w : World) (hz : Hid (z = (c.toNat : Int))) (hs : s.size < 4294967281) :
    Calls Tryz.prog 87 #[.string s, .int .u8 z] w fun e w' => ∃ (b cap : Nat) (zs : List ByteArray), e = .returned (.slice (some ⟨b, 0, none⟩) zs.length cap) ∧
      Hid (zs.map (·.data.toList) = spl c s.data.toList) ∧ zs.length ≤ s.size + 1 ∧ Hid (∀ (j : Nat) (h : j < zs.length), w'.cell? ⟨b, j, none⟩ = some (.string zs[j])) ∧ Up w w' := by
  obtain ⟨i0, hi0, hz0, hz1, hz2⟩ := info_parts info_string
  have HI := hid hi0
  clear hi0
  go_enter Tryz.func87, Tryz.ntmps87
  go_wp2
  go_loopw [5, 6, 7] (fun a b d wr => ∃ (zs : List ByteArray) (f k : Nat), b = .int .i64 f ∧ d = .int .i64 k ∧ f ≤ k ∧ k ≤ s.size ∧ zs.length ≤ f ∧ Hid (wr.ownsRow w.heap.size 9 1 a zs.length (zs.map Value.string)) ∧
      Hid (zs.map (·.data.toList) ++ spl c (s.data.toList.drop f) = spl c s.data.toList) ∧ Hid (Free c s.data.toList f k) ∧ Hid (Up w wr)) (fun _ _ d _ => s.size - (intOf d).toNat)
  case atStart => exact ⟨[], 0, 0, rfl, rfl, by omega, by omega, by simp, World.ownsRow_nil _ _ _ _, rfl, by unfold Hid Free; simp, Up.refl _⟩
  case round =>
    obtain ⟨zs, f, k, rfl, rfl, hf, hk, hzl, hown, hsp, hfr, hU⟩ := hrel
    by_cases hlt : k < s.size
    · by_cases hc : (s[k].toNat : Int) = z
      · have HC : Hid (s[k] = c) := UInt8.toNat_inj.1 (by have := hz.out; omega)
        have hcb : ((s[k].toNat : Int) == z) = true := by simpa using hc
        clear hc
        go_wp2_with (at_builtin; refine wpList_append_own _ rfl _ _ 70 rfl w.heap.size 9 i0 (.string ByteArray.empty) 1 16 Tryz.underlying70 HI.out hz0 hz1 hz2 rfl (by decide) _ _ _ rfl (hown.out.alloc _) ⟨wr.heap.size, 0, none⟩ 1 1 [.string (s.extract f k)] rfl rfl (one_cells _ _ _) (by intro u hu; simp at hu; subst hu; rfl) (by unfold maxLen; omega) (by omega) (by have := hU.out.size; simp; omega) ?_)
        intro v' w2 hown' hg hne
        have U2 := hid (up_append hU.out hown.out _ hg)
        have O2 := hid hown'
        clear hown' hg
        go_wp2
        go_roundw
        case rel =>
          refine ⟨zs ++ [s.extract f k], k + 1, k + 1, by go_num, by go_num, Nat.le_refl _, by omega, by simp; omega, ?_, ?_, by unfold Hid Free; simp, U2⟩
          · unfold Hid
            rw [List.length_append, List.map_append]
            exact O2.out
          · unfold Hid
            rw [← hsp.out, free_hit hfr.out hf hlt HC.out]
            simp
        case measure => simp [intOf]; omega
      · have HC : Hid (s[k] ≠ c) := fun e => hc (by rw [e]; exact hz.out.symm)
        have hcb : ((s[k].toNat : Int) == z) = false := by simpa using hc
        clear hc
        go_wp2
        go_roundw
        case rel => exact ⟨zs, f, k + 1, rfl, by go_num, by omega, by omega, hzl, hown, hsp, free_next hfr.out hf hlt HC.out, hU⟩
        case measure => simp [intOf]; omega
    · obtain rfl : k = s.size := by omega
      go_wp2_with (at_builtin; refine wpList_append_own _ rfl _ _ 70 rfl w.heap.size 9 i0 (.string ByteArray.empty) 1 16 Tryz.underlying70 HI.out hz0 hz1 hz2 rfl (by decide) _ _ _ rfl (hown.out.alloc _) ⟨wr.heap.size, 0, none⟩ 1 1 [.string (s.extract f s.size)] rfl rfl (one_cells _ _ _) (by intro u hu; simp at hu; subst hu; rfl) (by unfold maxLen; omega) (by omega) (by have := hU.out.size; simp; omega) ?_)
      intro v' w2 hown' hg hne
      have U2 := hid (up_append hU.out hown.out _ hg)
      have e : zs.length + 1 = (zs ++ [s.extract f s.size]).length := by simp
      rw [e, show List.map Value.string zs ++ [Value.string (s.extract f s.size)] = (zs ++ [s.extract f s.size]).map Value.string by simp] at hown'
      obtain ⟨b, cap, rfl, hcells⟩ := own_cells hown' hne
      clear hown' hg e hne
      go_wp2
      go_ret
      refine ⟨b, cap, zs ++ [s.extract f s.size], rfl, ?_, by simp; omega, hcells, U2.out⟩
      unfold Hid
      rw [← hsp.out, free_end hfr.out]
      simp

theorem digit_of (c : UInt8) : dg c = true ↔ 48 ≤ (c.toNat : Int) ∧ (c.toNat : Int) ≤ 57 := dg_iff c
theorem digitsB_fail {s : ByteArray} {k : Nat} (h : k < s.size) (hp : dg s[k] = false) : digitsB s.data.toList = false := all_fail (p := dg) h hp
theorem rdigits_any (s : ByteArray) (w : World) (hs : s.size ≤ 9223372036854775807) :
    Calls Tryz.prog 145 #[.string s] w fun e w' => e = .returned (.int .i64 (rdig s.data.toList)) ∧ w' = w := by
  have hl : Hid (s.data.toList.length = s.size) := len_list s
  by_cases h1 : s.size < 1
  · have hR : Hid (rdig s.data.toList = -1) := by unfold Hid rdig; rw [if_neg (by rw [hl.out]; omega)]
    go_enter Tryz.func145, Tryz.ntmps145
    go_wp2
    go_ret
    exact ⟨vret_int hR.out.symm, rfl⟩
  · by_cases h12 : 12 < s.size
    · have hR : Hid (rdig s.data.toList = -1) := by unfold Hid rdig; rw [if_neg (by rw [hl.out]; omega)]
      have hd : decide ((12 : Int) < s.size) = true := by simp; omega
      go_enter Tryz.func145, Tryz.ntmps145
      go_wp2
      go_ret
      exact ⟨vret_int hR.out.symm, rfl⟩
    · have hd : decide ((12 : Int) < s.size) = false := by simp; omega
      go_enter Tryz.func145, Tryz.ntmps145
      go_wp2
      go_loop [3, 4] (fun n i => ∃ k : Nat, k ≤ s.size ∧ i = .int .i64 k ∧ n = .int .i64 (num (s.data.toList.take k)) ∧ Hid (digitsB (s.data.toList.take k) = true)) (fun _ i => s.size - (intOf i).toNat)
      case atStart => exact ⟨0, Nat.zero_le _, rfl, rfl, rfl⟩
      case round =>
        obtain ⟨k, hk, rfl, rfl, hdg⟩ := hrel
        by_cases hlt : k < s.size
        · have hb := num_lt (s.data.toList.take k) hdg.out 12 (by simp; omega) 1000000000000 rfl
          have HS : Hid (num (s.data.toList.take (k + 1)) = 10 * num (s.data.toList.take k) + (nb s[k] - 48)) := by rw [take_snoc s k hlt]; exact num_snoc _ _
          by_cases hc : 48 ≤ (s[k].toNat : Int) ∧ (s[k].toNat : Int) ≤ 57
          · have HD : Hid (digitsB (s.data.toList.take (k + 1)) = true) := all_next (p := dg) hlt hdg.out ((digit_of _).2 hc)
            obtain ⟨c1, c2⟩ := hc
            have c2' : decide ((57 : Int) < (s[k].toNat : Int)) = false := by simp; omega
            go_wp2
            go_round
            case rel => exact ⟨k + 1, by omega, by go_num, by rw [HS.out]; unfold nb; go_num, HD⟩
            case measure => simp [intOf]; omega
          · have hR : Hid (rdig s.data.toList = -1) := by
              unfold Hid rdig
              rw [if_neg (fun h => by rw [digitsB_fail hlt (by rw [Bool.eq_false_iff]; exact fun e => hc ((digit_of _).1 e))] at h; exact absurd h.2.2 (by decide))]
            have hcc : (s[k].toNat : Int) < 48 ∨ 57 < (s[k].toNat : Int) := by omega
            clear hc
            rcases hcc with hcc | hcc
            · go_wp2
              go_ret
              exact ⟨vret_int hR.out.symm, rfl⟩
            · have c2' : decide ((57 : Int) < (s[k].toNat : Int)) = true := by simp; omega
              go_wp2
              go_ret
              exact ⟨vret_int hR.out.symm, rfl⟩
        · have hR : Hid (rdig s.data.toList = num (s.data.toList.take k)) := by
            unfold Hid rdig
            have e : s.data.toList.take k = s.data.toList := List.take_of_length_le (by rw [hl.out]; omega)
            have hd := hdg.out
            rw [e] at hd ⊢
            rw [if_pos ⟨by rw [hl.out]; omega, by rw [hl.out]; omega, hd⟩]
          go_wp2
          go_ret
          exact ⟨vret_int hR.out.symm, rfl⟩

theorem line_any (s : ByteArray) (w : World) (hs : s.size ≤ 9223372036854775807) :
    Calls Tryz.prog 90 #[.string s] w fun e w' => e = .returned (.bool (isTextB s.data.toList)) ∧ w' = w := by
  have hl : Hid (s.data.toList.length = s.size) := len_list s
  go_enter Tryz.func90, Tryz.ntmps90
  go_wp2
  go_loop [3] (fun i => ∃ k : Nat, k ≤ s.size ∧ i = .int .i64 k ∧ Hid ((s.data.toList.take k).all textC = true)) (fun i => s.size - (intOf i).toNat)
  case atStart => exact ⟨0, Nat.zero_le _, rfl, rfl⟩
  case round =>
    obtain ⟨k, hk, rfl, ha⟩ := hrel
    by_cases hlt : k < s.size
    · by_cases h32 : (s[k].toNat : Int) < 32
      · go_wp2
        go_ret
        exact ⟨vret_bool (by unfold isTextB; rw [all_fail (p := textC) hlt (by simp [textC, nb]; omega), Bool.and_false]), rfl⟩
      · by_cases h126 : (126 : Int) < (s[k].toNat : Int)
        · have d1 : decide ((126 : Int) < (s[k].toNat : Int)) = true := decide_eq_true h126
          go_wp2
          go_ret
          exact ⟨vret_bool (by unfold isTextB; rw [all_fail (p := textC) hlt (by simp [textC, nb]; omega), Bool.and_false]), rfl⟩
        · have d1 : decide ((126 : Int) < (s[k].toNat : Int)) = false := decide_eq_false h126
          by_cases h92 : (s[k].toNat : Int) = 92
          · have d2 : ((s[k].toNat : Int) == 92) = true := by simpa using h92
            have H92 := hid h92
            clear h92
            go_wp2
            go_ret
            exact ⟨vret_bool (by unfold isTextB; rw [all_fail (p := textC) hlt (by simp [textC, nb, H92.out]), Bool.and_false]), rfl⟩
          · have d2 : ((s[k].toNat : Int) == 92) = false := by simpa using h92
            go_wp2
            go_round
            case rel => exact ⟨k + 1, by omega, by go_num, all_next hlt ha.out (by simp [textC, nb]; omega)⟩
            case measure => simp [intOf]; omega
    · have hA : Hid (s.data.toList.all textC = true) := all_end (p := textC) (by omega) ha.out
      go_wp2
      go_ret
      exact ⟨vret_bool (by unfold isTextB; rw [hA.out, hl.out, Bool.and_true]; exact decide_eq_decide.2 (by omega)), rfl⟩
end Go.Proofs.YtaokifbpakbgdaaGreatDoor

/- The document's answer (package folioref), second part: nameOK, textOK, dateOK, timeOK, number, valueOK, Check. -/
namespace Go.Proofs.YtaokifbpakbgdaaGreatDoor
open Go.RowKit

theorem digitsB_all {z : ByteArray} {m : Nat} (h : z.size ≤ m) (ha : digitsB (z.data.toList.take m) = true) : digitsB z.data.toList = true := all_end (p := dg) h ha
set_option maxHeartbeats 1000000 in
theorem rname_any (s : ByteArray) (w : World) (hs : s.size < 4294967281) :
    Calls Tryz.prog 82 #[.string s] w fun e w' => e = .returned (.bool (nameB s.data.toList)) ∧ Up w w' := by
  have hl : Hid (s.data.toList.length = s.size) := len_list s
  go_enter Tryz.func82, Tryz.ntmps82
  go_wp2_with fail
  go_at_call 87; refine (parts_any s 46 _ _ rfl hs).mono ?_; rintro e w1 ⟨b, cap, zs, rfl, hz, hzl, hcell, hup⟩
  have U := hid hup
  clear hup
  go_wp2_with fail
  go_loop [4] (fun i => ∃ k : Nat, k ≤ zs.length ∧ i = .int .i64 k ∧ Hid ((zs.take k).all (fun z => partB z.data.toList) = true)) (fun i => zs.length - (intOf i).toNat)
  case atStart => exact ⟨0, Nat.zero_le _, rfl, rfl⟩
  case round =>
    obtain ⟨k, hk, rfl, ha⟩ := hrel
    by_cases hlt : k < zs.length
    · have hc := hcell.out k hlt
      generalize hzk : zs[k] = z at hc
      have hsz : z.size ≤ 4294967281 := by have := part_size hz.out hlt; rw [hzk, hl.out] at this; omega
      have HZ : Hid (zs[k] = z) := hzk
      clear hzk
      have bad : Hid (partB z.data.toList = false → false = nameB s.data.toList) := fun h => by
        unfold nameB; rw [of_parts hz.out, takeAll_fail (p := fun z => partB z.data.toList) hlt (by rw [HZ.out]; exact h), Bool.and_false]
      by_cases he : z.toList = []
      · go_wp2
        go_ret
        exact ⟨vret_bool (bad.out (part_empty he)), U.out⟩
      · have h0 : 0 < z.size := by
          rcases Nat.eq_zero_or_pos z.size with h | h
          · exact absurd (by rw [Lib.toList_data]; exact List.eq_nil_of_length_eq_zero (by simpa using h)) he
          · exact h
        have hie : z.toList.isEmpty = false := by simpa using he
        by_cases hq : (z[0].toNat : Int) = 48 ∧ ¬ z.toList = [48]
        · obtain ⟨h48, hne⟩ := hq
          have hq' : (z.toList == [48]) = false := by simpa using hne
          go_wp2
          go_ret
          exact ⟨vret_bool (bad.out (part_zero h0 h48 hne)), U.out⟩
        · have hgo : Hid (digitsB z.data.toList = true → partB z.data.toList = true) := fun hd => by
            by_cases h48 : (z[0].toNat : Int) = 48
            · exact part_one (Classical.byContradiction fun h => hq ⟨h48, h⟩)
            · exact part_ok h0 hd h48
          have hway : (¬ (z[0].toNat : Int) = 48) ∨ ((z[0].toNat : Int) = 48 ∧ z.toList = [48]) := by
            by_cases h48 : (z[0].toNat : Int) = 48
            · exact Or.inr ⟨h48, Classical.byContradiction fun h => hq ⟨h48, h⟩⟩
            · exact Or.inl h48
          clear hq
          rcases hway with h48 | ⟨h48, hone⟩
          all_goals
            go_wp2
            go_loop [5] (fun i => ∃ m : Nat, m ≤ z.size ∧ i = .int .i64 m ∧ Hid (digitsB (z.data.toList.take m) = true)) (fun i => z.size - (intOf i).toNat)
            case atStart => exact ⟨0, Nat.zero_le _, rfl, rfl⟩
            case round =>
              obtain ⟨m, hm, rfl, hd⟩ := hrel
              by_cases hlt2 : m < z.size
              · by_cases c1 : (z[m].toNat : Int) < 48
                · go_wp2
                  go_ret
                  exact ⟨vret_bool (bad.out (part_dig (digitsB_fail hlt2 (by simp [dg, dgI, nb]; omega)))), U.out⟩
                · by_cases c2 : (57 : Int) < (z[m].toNat : Int)
                  · have d2 : decide ((57 : Int) < (z[m].toNat : Int)) = true := decide_eq_true c2
                    go_wp2
                    go_ret
                    exact ⟨vret_bool (bad.out (part_dig (digitsB_fail hlt2 (by simp [dg, dgI, nb]; omega)))), U.out⟩
                  · have d2 : decide ((57 : Int) < (z[m].toNat : Int)) = false := decide_eq_false c2
                    go_wp2
                    go_round
                    case rel => exact ⟨m + 1, by omega, by go_num, all_next (p := dg) hlt2 hd.out (by simp [dg, dgI, nb]; omega)⟩
                    case measure => simp [intOf]; omega
              · have hpart := hid (hgo.out (digitsB_all (by omega) hd.out))
                go_wp2
                go_round
                case rel => exact ⟨k + 1, by omega, by go_num, takeAll_next hlt ha.out (by rw [HZ.out]; exact hpart.out)⟩
                case measure => simp [intOf]; omega
    · have hA : Hid ((spl 46 s.data.toList).all partB = true) := by unfold Hid; rw [of_parts hz.out]; exact takeAll_end (by omega) ha.out
      go_wp2
      go_ret
      exact ⟨vret_bool (by unfold nameB; rw [hA.out, hl.out, Bool.and_true]; exact decide_eq_decide.2 (by omega)), U.out⟩
end Go.Proofs.YtaokifbpakbgdaaGreatDoor

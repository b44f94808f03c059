/-
  Several texts in one; what each one has stands at its head.
-/
import Derived.Test.YtaokifbpakbgdaaGreatDoorPut9
import Derived.RangeFuncNested
import Derived.RangeFuncBound
import Derived.RangeFuncCalls
import Derived.RangeFuncLeaves
import Derived.Shelf.Abstract
import Derived.OwnWalkIn
import Derived.TacticsInMore
import Derived.LoopNIn
import Derived.LoopIn
import Derived.Maps.OwnIn
import Derived.Sort.MapsRangeIn
import Derived.Test.YtaokifbpakbgdaaGreatDoorPut2
import Derived.Test.YtaokifbpakbgdaaGreatDoorPut3
import Derived.OwnWalk
import Derived.Test.YtaokifbpakbgdaaGreatDoorPut7
import Derived.Test.YtaokifbpakbgdaaGreatDoorPut4
import Derived.Test.YtaokifbpakbgdaaGreatDoorPut5
import Derived.Test.YtaokifbpakbgdaaGreatDoorPut8
import Derived.Maps.AppendAt
import Derived.Deep.RegionWith
/- The library's iterator over the values of a map (maps.Values), at the pictures of an archive, for every loop body that leaves that map and the iterator alone. -/
namespace Go.Proofs.YtaokifbpakbgdaaGreatDoor
open Go.RowKit Go.Maps Go.Shelf
attribute [local go_sem] Oper.semAt_some

section
variable {Fe : Fence} {nF : Nat} {P : Program} {w : World} {ops : Array Oper} {rest : List Oper} {o : Oper} {a : Act} {Q : Exit → Act → World → Prop}
/-- 'range m', in a fence. -/
theorem wpListIn_range_F (hg : o.guard = none) (m : Operand) (t : TypeId) (hop : o.op = Op.range t m) (k e : TypeId) (K : Keyed P k) (ht : P.underlying t = some (.map k e)) (b n : Nat) (f : Lit → Option Value) (hm : a.eval m = .map (some b)) (h : MapF w P k b n f)
    (hK : ∀ w' cnt, RanF w' P k b w.heap.size n f (fun kl => (f kl).isSome) cnt → w.grownBy w' none → w'.heap.size = w.heap.size + 1 → wpListIn Fe nF P ops Q rest (a.put o.dst (.pointer (some ⟨w.heap.size, 0, none⟩))) w') : wpListIn Fe nF P ops Q (o :: rest) a w := by
  obtain ⟨D, h1, rfl⟩ := h
  refine wpListIn_range_own w hg m t hop k e K ht heldR b n D hm h1 (fun w' h2 h3 h4 => hK w' (Maps.size D) ⟨D, by rw [has_view h1 K] at h2; exact h2, rfl⟩ h3 h4)
/-- The next entry, in a fence. -/
theorem wpListIn_next_F (hg : o.guard = none) (it : Operand) (hop : o.op = Op.next it false) (k : TypeId) (K : Keyed P k) (hk : P.underlying k = some .string) (b r n : Nat) (f : Lit → Option Value) (left : Lit → Bool) (cnt : Nat)
    (hit : a.eval it = .pointer (some ⟨r, 0, none⟩)) (h : RanF w P k b r n f left cnt)
    (hDone : cnt = 0 → (∀ kl, left kl = false) → wpListIn Fe nF P ops Q rest (a.put o.dst (.tuple #[.bool false])) w)
    (hMore : ∀ (x : ByteArray) (c : Value) (w' : World) (cnt' : Nat), x.size ≤ maxLen → left (.string x.data.toList) = true → f (.string x.data.toList) = some c → RanF w' P k b r n f (fun z => left z && !z.sameKey (.string x.data.toList)) cnt' → cnt' < cnt →
      w.grownBy w' (some r) → w'.heap.size = w.heap.size → (Instr.entry (.pointer (some ⟨r, 0, none⟩))).run P w' = .ok (.tuple #[.string x, c]) w' → wpListIn Fe nF P ops Q rest (a.put o.dst (.tuple #[.bool true, .string x, c])) w') : wpListIn Fe nF P ops Q (o :: rest) a w := by
  obtain ⟨D, h1, rfl⟩ := h
  refine wpListIn_next_ranges w hg it hop k K heldR (fun x : ByteArray => .string x) (fun c : Value => c) (fun key kl hkey => Maps.keyOf_string_inv hk hkey) (fun v y _ => ⟨v, rfl⟩) b r n D left cnt hit h1 hDone (fun x c kl y w' cnt' h2 h3 h4 h5 h6 h7 h8 h9 h10 => ?_)
  have hx : x.size ≤ maxLen := by
    by_cases hs : x.size ≤ maxLen
    · exact hs
    · rw [keyOf_string hk] at h2
      simp [mapKey, hk, hs] at h2
  have e : kl = .string x.data.toList := Option.some.inj (h2.symm.trans (WideMaps.keyOf_string_mk hk hx))
  subst e
  refine hMore x c w' cnt' hx h3 ?_ ⟨D, h6, rfl⟩ h7 h8 h9 h10
  unfold heldR at h4
  injection h4 with h4
  unfold view
  rw [h5 .nil, ← h4]
end
/-- Every map and every walk over one lies as it lay, but for the map of that block; below 'lo' all does. -/
structure KeepsBut (nb lo : Nat) (W W' : World) : Prop where
  size : W.heap.size ≤ W'.heap.size
  same : ∀ (k : Nat) (o : Obj), k ≠ nb → W.heap[k]? = some o → o.isWalk = true → W'.heap[k]? = some o
  low : ∀ k : Nat, k < lo → W'.heap[k]? = W.heap[k]?
theorem KeepsBut.trans {nb lo : Nat} {A B C : World} (h : KeepsBut nb lo A B) (k : KeepsBut nb lo B C) : KeepsBut nb lo A C := ⟨Nat.le_trans h.size k.size, fun i o hi h1 h2 => k.same i o hi (h.same i o hi h1 h2) h2, fun j hj => (k.low j hj).trans (h.low j hj)⟩
theorem KeepsBut.book {nb lo : Nat} {w : World} (hlo : lo ≤ w.heap.size) (W : World) (l : Nat) (o o' : Obj) (hl : w.heap.size ≤ l) (h : W.heap[l]? = some o) (_ : o.isCells = false) (hw : o.isWalk = false) : KeepsBut nb lo W (W.putObj l o') := ⟨(KeepsWalks.putObj _ h hw).size, fun k x _ h1 h2 => (KeepsWalks.putObj _ h hw).same k x h1 h2, fun k hk => World.putObj_heap_other (fun e => by omega)⟩
theorem RanF.but {w w' : World} {P : Program} {k : TypeId} {b r n : Nat} {f : Lit → Option Value} {left : Lit → Bool} {cnt nb lo : Nat} (h : RanF w P k b r n f left cnt) (hk : KeepsBut nb lo w w') (hb : b ≠ nb) (hr : r ≠ nb) : RanF w' P k b r n f left cnt := by
  obtain ⟨D, ⟨es, clock, since, seen, c0, h1, h2, h3, h4, h5, h6⟩, h7⟩ := h
  exact ⟨D, ⟨es, clock, since, seen, c0, hk.same _ _ hb h1 rfl, h2, h3, h4, hk.same _ _ hr h5 rfl, h6⟩, h7⟩
theorem RanF.walk {w : World} {P : Program} {k : TypeId} {b r n : Nat} {f : Lit → Option Value} {left : Lit → Bool} {cnt : Nat} (h : RanF w P k b r n f left cnt) : ∃ o : Obj, w.heap[r]? = some o ∧ o.isWalk = true := by
  obtain ⟨D, h1, _⟩ := h
  exact h1.iter_walk
theorem RanF.le {w : World} {P : Program} {k : TypeId} {b r n : Nat} {f : Lit → Option Value} {left : Lit → Bool} {cnt : Nat} (h : RanF w P k b r n f left cnt) : cnt ≤ n := by
  obtain ⟨D, ⟨es, clock, since, seen, c0, h1, h2, h3, h4, h5, h6, h7, h8⟩, _⟩ := h
  rw [← h7]
  refine Nat.le_trans ?_ h3
  unfold Go.leftOf
  exact Array.size_filter_le ..
/-- The pictures, as the data sets that they are of. -/
abbrev Of {n : Nat} (A : List (List (El (n + 2)))) := { l : List (El (n + 2)) // l ∈ A }
abbrev encP {n : Nat} {A : List (List (El (n + 2)))} (pd : List (El (n + 2)) → Nat × Int) (x : Of A) : Array Value := #[picV (pd x.1).1 (pd x.1).2]
set_option maxRecDepth 100000 in
set_option maxHeartbeats 2000000 in
theorem values1_in (Fe : Fence) (nF : Nat) (h8 : Fe.fn 226) (hro : Fe.round = none) (hn : 1 ≤ nF) {n : Nat} (l Bm m nb lo : Nat) (A : List (List (El (n + 2)))) (f : Lit → Option Value) (pd : List (El (n + 2)) → Nat × Int) (J Jx : List (Of A) → World → Prop)
    (hY : ∀ pre x W, J pre W → pre.length < A.length → YieldAt Fe (nF - 1) Tryz.prog l (encP pd x) W fun e W' => (e = .returned (.bool true) ∧ J (pre ++ [x]) W' ∧ KeepsBut nb lo W W') ∨ (e = .returned (.bool false) ∧ Jx (pre ++ [x]) W'))
    (W : World) (hJ : AbidesFrom W.heap.size J) (hm : W.cell? ⟨Bm, 0, none⟩ = some (.map (some m))) (hM : MapF W Tryz.prog 9 m A.length f) (hK : ∀ k, (f k).isSome = true ↔ ∃ l ∈ A, k = keyS (nm 3 l)) (hpd : ∀ l ∈ A, f (keyS (nm 3 l)) = some (picV (pd l).1 (pd l).2)) (hnd : (A.map (nm 3)).Nodup) (hnb : nb < W.heap.size) (hmb : m ≠ nb) (h0 : J [] W) :
    CallsIn Fe nF Tryz.prog 226 #[.func (.yield l) #[] #[], .pointer (some ⟨Bm, 0, none⟩)] W fun e W' => (∃ v, e = .returned v) ∧ ((∃ xs, (xs.map (·.1)).Perm A ∧ J xs W') ∨ (∃ pre, True ∧ Jx pre W')) := by
  refine callsIn_of_wp Tryz.func226 rfl h8 ?_ hro
  simp only [Tryz.ntmps226, List.size_toArray, List.length_cons, List.length_nil, Nat.reduceAdd, Nat.reduceSub, Array.replicate_succ, Array.replicate_zero, List.push_toArray, List.append_toArray, List.nil_append, List.cons_append]
  gi_wp2_with (first
    | (gi_at_range; refine wpListIn_range_F rfl _ 122 rfl 9 131 (Maps.string_keyed Tryz.underlying9) Tryz.underlying122 m A.length f rfl hM ?_; intro w0 cnt0 hrg0 hg0 hs0)
    | gi_in)
  go_frame
  gi_loopw [4] (fun _ wr => ∃ (left : Lit → Bool) (cnt : Nat) (ps : List (Of A)), RanF wr Tryz.prog 9 m W.heap.size A.length f left cnt ∧ ps.length + cnt ≤ A.length ∧ ps.Nodup ∧ (∀ q : Of A, left (keyS (nm 3 q.1)) = false ↔ q ∈ ps) ∧ J ps wr) (fun _ wr => wr.rangeLeft m W.heap.size)
  case atStart => exact ⟨_, cnt0, [], hrg0, by simpa using hrg0.le, List.nodup_nil, fun q => ⟨fun h => absurd ((hK _).2 ⟨q.1, q.2, rfl⟩) (by rw [h]; decide), (fun h => nomatch h)⟩, hJ [] W w0 none h0 hg0 (fun r e => by cases e)⟩
  case round =>
    obtain ⟨left, cnt, ps, hrg, hcs, hps, hL, hJs⟩ := hrel
    gi_wp2_with (first
      | (gi_at_next; refine wpListIn_next_F rfl _ rfl 9 (Maps.string_keyed Tryz.underlying9) Tryz.underlying9 m W.heap.size A.length f left cnt rfl hrg ?_ ?_)
      | gi_in)
    · intro _ hl0
      gi_wp2
      go_end0
      refine ⟨⟨_, rfl⟩, .inl ⟨ps, ?_, hJs⟩⟩
      have hA : A.Nodup := by
        rw [List.Nodup, List.pairwise_map] at hnd
        exact hnd.imp (fun h e => h (by rw [e]))
      refine (List.perm_ext_iff_of_nodup ?_ hA).2 (fun x => ?_)
      · rw [List.Nodup, List.pairwise_map]
        exact List.Pairwise.imp (fun h e => h (Subtype.ext e)) hps
      · rw [List.mem_map]
        exact ⟨fun ⟨q, _, e⟩ => e ▸ q.2, fun hx => ⟨⟨x, hx⟩, (hL ⟨x, hx⟩).1 (hl0 _), rfl⟩⟩
    · intro x c w2 cnt2 hx hlx hfx hr2 hlt hg2 hs2 hen
      obtain ⟨q, hq, ek⟩ := (hK (.string x.data.toList)).1 (by rw [hfx]; rfl)
      have ex : x = bs (nm 3 q) := by
        have : x.data.toList = nm 3 q := by injection ek
        rw [← this]; rfl
      subst ex
      have ec : c = picV (pd q).1 (pd q).2 := Option.some.inj (hfx.symm.trans (hpd q hq))
      subst ec
      have hJ2 := hJ ps wr w2 (some W.heap.size) hJs hg2 (fun r e => by cases e; exact ⟨Nat.le_refl _, hrg.walk⟩)
      have hJ3 := hJ ps w2 (w2.alloc (.cells #[.map (some (pd q).1), .int .i64 (pd q).2] 131)) none hJ2 (World.grownBy_alloc w2 _ none) (fun r e => by cases e)
      have hr3 := hr2.up (Below.alloc (Below.refl _ w2) (Nat.le_refl _) (.cells #[.map (some (pd q).1), .int .i64 (pd q).2] 131))
      obtain ⟨fn, tmps, assign, body, hy, hR⟩ := hY ps ⟨q, hq⟩ _ hJ3 (by omega)
      dsimp only [encP] at hy
      clear hs2
      gi_wp2
      refine hR.mono ?_
      have hL2 : ∀ z : Of A, (left (keyS (nm 3 z.1)) && !(keyS (nm 3 z.1)).sameKey (.string (bs (nm 3 q)).data.toList)) = false ↔ z ∈ ps ++ [⟨q, hq⟩] := fun z => by
        rw [List.mem_append, List.mem_singleton, Bool.and_eq_false_iff, hL z]
        constructor
        · rintro (h | h)
          · exact Or.inl h
          · have h2 : (keyS (nm 3 z.1)).sameKey (.string (bs (nm 3 q)).data.toList) = true := by simpa using h
            have h3 := WideAt.sameKey_eq h2
            exact Or.inr (Subtype.ext (nodup_eq hnd z.2 hq (by injection h3)))
        · rintro (h | h)
          · exact Or.inl h
          · rw [h]
            exact Or.inr (by rw [show (keyS (nm 3 q)).sameKey (.string (bs (nm 3 q)).data.toList) = true from WideAt.sameKey_self (show WideAt.IsKeyLit (keyS (nm 3 q)) from trivial)]; rfl)
      have hps2 : (ps ++ [(⟨q, hq⟩ : Of A)]).Nodup := by
        rw [List.nodup_append]
        refine ⟨hps, by simp, fun y hy z hz e => ?_⟩
        rw [List.mem_singleton] at hz
        rw [e, hz] at hy
        have := (hL ⟨q, hq⟩).2 hy
        rw [show left (keyS (nm 3 q)) = true from hlx] at this
        cases this
      rintro e W3 (⟨rfl, hJ3', hk3⟩ | ⟨rfl, hJx3⟩)
      · gi_wp2
        have hr4 := hr3.but hk3 hmb (by omega)
        go_roundw
        case rel => exact ⟨_, cnt2, ps ++ [⟨q, hq⟩], hr4, by simp; omega, hps2, hL2, hJ3'⟩
        case measure => rw [hr4.left_eq, hrg.left_eq]; exact hlt
      · gi_wp2
        refine bodyPost_ret (results_none rfl _ _ _) rfl ?_
        exact ⟨⟨_, rfl⟩, .inr ⟨_, trivial, hJx3⟩⟩
end Go.Proofs.YtaokifbpakbgdaaGreatDoor

/- Dates and times written in digits: they are values of their kinds, and their order is that of their numbers (no program). -/
namespace Go.Proofs.YtaokifbpakbgdaaGreatDoor
open Go.RowKit

def dgs : Nat → Nat → Bs
  | 0, _ => []
  | k + 1, n => UInt8.ofNat (48 + n / 10 ^ k % 10) :: dgs k n
/-- A date of these numbers, and how far it is along. -/
def dateOf (y m d : Nat) : Bs := dgs 4 y ++ dgs 2 m ++ dgs 2 d
def timeOf (n : Nat) : Bs := dgs 2 (n / 3600) ++ dgs 2 (n / 60 % 60) ++ dgs 2 (n % 60)
theorem dgs_len : ∀ (k n : Nat), (dgs k n).length = k
  | 0, _ => rfl
  | k + 1, n => by rw [dgs, List.length_cons, dgs_len k n]
theorem fold_num : ∀ (l : Bs) (a : Int), l.foldl (fun n c => 10 * n + (nb c - 48)) a = a * 10 ^ l.length + num l
  | [], a => by simp [num]
  | c :: l, a => by
    have h1 := fold_num l (10 * a + (nb c - 48))
    have h2 := fold_num l (10 * 0 + (nb c - 48))
    have e : num (c :: l) = l.foldl (fun n c => 10 * n + (nb c - 48)) (10 * 0 + (nb c - 48)) := rfl
    rw [List.foldl_cons, h1, e, h2, List.length_cons, Int.pow_succ, Int.add_mul, Int.add_mul, Int.mul_comm (10 ^ l.length) 10, ← Int.mul_assoc, Int.mul_comm a 10]
    omega
theorem num_append (a b : Bs) : num (a ++ b) = num a * 10 ^ b.length + num b := by
  unfold num
  rw [List.foldl_append]
  exact fold_num b _
theorem num_cons (c : UInt8) (l : Bs) : num (c :: l) = (nb c - 48) * 10 ^ l.length + num l := by
  have := num_append [c] l
  simpa [num] using this
theorem digitsB_cons (c : UInt8) (l : Bs) : digitsB (c :: l) = true ↔ dg c = true ∧ digitsB l = true := by simp [digitsB]
theorem digitsB_append (a b : Bs) : digitsB (a ++ b) = true ↔ digitsB a = true ∧ digitsB b = true := by simp [digitsB]
theorem dgs_digits : ∀ (k n : Nat), digitsB (dgs k n) = true
  | 0, _ => rfl
  | k + 1, n => by
    rw [dgs, digitsB_cons]
    refine ⟨?_, dgs_digits k n⟩
    rw [dg_iff]
    have : (UInt8.ofNat (48 + n / 10 ^ k % 10)).toNat = 48 + n / 10 ^ k % 10 := by rw [UInt8.toNat_ofNat']; omega
    unfold nb; rw [this]; omega
theorem dgs_num : ∀ (k n : Nat), num (dgs k n) = ((n % 10 ^ k : Nat) : Int)
  | 0, n => by simp [dgs, num, Nat.mod_one]
  | k + 1, n => by
    rw [dgs, num_cons, dgs_num k n, dgs_len]
    have e : (UInt8.ofNat (48 + n / 10 ^ k % 10)).toNat = 48 + n / 10 ^ k % 10 := by rw [UInt8.toNat_ofNat']; omega
    unfold nb
    rw [e, Nat.mod_pow_succ]
    have e2 : ((48 + n / 10 ^ k % 10 : Nat) : Int) - 48 = ((n / 10 ^ k % 10 : Nat) : Int) := by omega
    have e3 : (10 : Int) ^ k = ((10 ^ k : Nat) : Int) := by simp
    rw [e2, e3, ← Int.natCast_mul, ← Int.natCast_add, Nat.add_comm, Nat.mul_comm]

theorem chk_of {k l : Bs} (h : chkF k l = 0) : chk k l = 0 := by unfold chk; rw [if_neg (by rw [h]; omega), h]
/- Dates. -/
theorem date_len (y m d : Nat) : (dateOf y m d).length = 8 := by simp [dateOf, dgs_len]
theorem date_dig (y m d : Nat) : digitsB (dateOf y m d) = true := by
  unfold dateOf; rw [digitsB_append, digitsB_append]; exact ⟨⟨dgs_digits _ _, dgs_digits _ _⟩, dgs_digits _ _⟩
theorem date_num (y m d : Nat) (hy : y ≤ 9999) (hm : m ≤ 99) (hd : d ≤ 99) : num (dateOf y m d) = 10000 * y + 100 * m + d := by
  unfold dateOf
  rw [num_append, num_append, dgs_num, dgs_num, dgs_num, dgs_len, dgs_len, Nat.mod_eq_of_lt (by omega), Nat.mod_eq_of_lt (by omega), Nat.mod_eq_of_lt (by omega)]
  omega
theorem date_chk (y m d : Nat) (hy : y ≤ 9999) (hm1 : 1 ≤ m) (hm : m ≤ 12) (hd1 : 1 ≤ d) (hd : d ≤ 28) : chkF [68, 65] (dateOf y m d) = 0 := by
  have e : dateB (dateOf y m d) = true := by
    have h4 : (dateOf y m d).take 4 = dgs 4 y := by
      unfold dateOf; rw [List.append_assoc, List.take_append_of_le_length (by rw [dgs_len]; omega), List.take_of_length_le (by rw [dgs_len]; omega)]
    have h6 : (dateOf y m d).drop 6 = dgs 2 d := by
      unfold dateOf; rw [List.drop_append, List.drop_eq_nil_of_le (by simp [dgs_len])]; simp [dgs_len]
    have h46 : ((dateOf y m d).drop 4).take 2 = dgs 2 m := by
      unfold dateOf; rw [List.append_assoc, List.drop_append, List.drop_eq_nil_of_le (by simp [dgs_len])]
      simp only [dgs_len, Nat.sub_self, List.drop_zero, List.nil_append]
      rw [List.take_append_of_le_length (by rw [dgs_len]; omega), List.take_of_length_le (by rw [dgs_len]; omega)]
    unfold dateB
    rw [date_len, date_dig, h4, h6, h46, dgs_num, dgs_num, dgs_num, Nat.mod_eq_of_lt (by omega), Nat.mod_eq_of_lt (by omega), Nat.mod_eq_of_lt (by omega)]
    have hdays : 28 ≤ daysOf y m := by
      unfold daysOf
      split
      · omega
      · split
        · omega
        · split
          · split <;> omega
          · omega
    simp
    omega
  show (if dateB (dateOf y m d) then (0 : Int) else 6) = 0
  rw [e]; rfl
/- Times. -/
theorem tm_len (n : Nat) : (timeOf n).length = 6 := by simp [timeOf, dgs_len]
theorem tm_digs (n : Nat) : digitsB (timeOf n) = true := by
  unfold timeOf; rw [digitsB_append, digitsB_append]; exact ⟨⟨dgs_digits _ _, dgs_digits _ _⟩, dgs_digits _ _⟩
theorem tm_num (n : Nat) (h : n < 86400) : num (timeOf n) = 10000 * ((n / 3600 : Nat) : Int) + 100 * ((n / 60 % 60 : Nat) : Int) + ((n % 60 : Nat) : Int) := by
  unfold timeOf
  rw [num_append, num_append, dgs_num, dgs_num, dgs_num, dgs_len, dgs_len, Nat.mod_eq_of_lt (a := n / 3600) (by omega), Nat.mod_eq_of_lt (a := n / 60 % 60) (by omega), Nat.mod_eq_of_lt (a := n % 60) (by omega)]
  omega
theorem tm_chk (n : Nat) (h : n < 86400) : chkF [84, 77] (timeOf n) = 0 := by
  have e : timeB (timeOf n) = true := by
    have h2 : (timeOf n).take 2 = dgs 2 (n / 3600) := by
      unfold timeOf; rw [List.append_assoc, List.take_append_of_le_length (by rw [dgs_len]; omega), List.take_of_length_le (by rw [dgs_len]; omega)]
    have h24 : ((timeOf n).drop 2).take 2 = dgs 2 (n / 60 % 60) := by
      unfold timeOf; rw [List.append_assoc, List.drop_append, List.drop_eq_nil_of_le (by simp [dgs_len])]
      simp only [dgs_len, Nat.sub_self, List.drop_zero, List.nil_append]
      rw [List.take_append_of_le_length (by rw [dgs_len]; omega), List.take_of_length_le (by rw [dgs_len]; omega)]
    have h46 : ((timeOf n).drop 4).take 2 = dgs 2 (n % 60) := by
      unfold timeOf; rw [List.drop_append, List.drop_eq_nil_of_le (by simp [dgs_len])]
      simp only [List.length_append, dgs_len, Nat.sub_self, List.drop_zero, List.nil_append]
      rw [List.take_of_length_le (by rw [dgs_len]; omega)]
    unfold timeB
    rw [tm_len, tm_digs, h2, h24, h46, dgs_num, dgs_num, dgs_num, Nat.mod_eq_of_lt (a := n / 3600) (by omega), Nat.mod_eq_of_lt (a := n / 60 % 60) (by omega), Nat.mod_eq_of_lt (a := n % 60) (by omega)]
    simp
    omega
  show (if timeB (timeOf n) then (0 : Int) else 6) = 0
  rw [e]; rfl
end Go.Proofs.YtaokifbpakbgdaaGreatDoor

/- Numbers in decimal digits with a sign: two tellings of them agree (no program). -/
namespace Go.Proofs.YtaokifbpakbgdaaGreatDoor

/-- The number that digits spell behind others. -/
def val (acc : Nat) (t : Bs) : Nat := t.foldl (fun n c => 10 * n + (c.toNat - 48)) acc
end Go.Proofs.YtaokifbpakbgdaaGreatDoor

/- The document's answer (package folioref), third part: dateOK, timeOK. -/
namespace Go.Proofs.YtaokifbpakbgdaaGreatDoor
open Go.RowKit

/-- The days of a month, the 29th of February aside. -/
def tab (m : Int) : Int := if m = 2 then 28 else daysOf 1 m
end Go.Proofs.YtaokifbpakbgdaaGreatDoor

/- Package folioref on archives: without. -/
namespace Go.Proofs.YtaokifbpakbgdaaGreatDoor
open Go.RowKit

theorem info_set : (Tryz.prog.info? 59).map (fun i => (i.zero, i.size, i.bytes)) = some (some (.slice none 0 0), 1, 24) := by kernel_rfl
end Go.Proofs.YtaokifbpakbgdaaGreatDoor

/- The same reader of bytes, going on from place to place (no program). -/
namespace Go.Proofs.YtaokifbpakbgdaaGreatDoor

/-- One thing; things up to the end or to a mark. -/
def one {α : Type} (f : Nat → By → Option (α × By)) (s : By) : Option (α × By) := match tg s with
  | none => none
  | some (t, r) => f t r
end Go.Proofs.YtaokifbpakbgdaaGreatDoor

/- Package folioref on archives: Delete, Store. -/
namespace Go.Proofs.YtaokifbpakbgdaaGreatDoor
open Go.RowKit

/-- What Store answers, and what lies there behind it. -/
def stoE (A : List (List (El 3))) (s : By) : Int := if decE 3 s ≠ 0 then decE 3 s else match parse 3 s with
  | some l => layE A l
  | none => 1
def stoA (A : List (List (El 3))) (s : By) : List (List (El 3)) := if decE 3 s ≠ 0 then A else match parse 3 s with
  | some l => layA A l
  | none => A
end Go.Proofs.YtaokifbpakbgdaaGreatDoor

/- Package archive: New, Store. -/
namespace Go.Proofs.YtaokifbpakbgdaaGreatDoor
open Go.RowKit Go.Maps

theorem New_any (n : Nat) (F : Nat → Prop) (w : World) : Calls Tryz.prog 46 #[] w fun e w' => e = .returned (ptr (w.heap.size + 1)) ∧ Below w.heap.size w w' ∧ w'.heap.size = w.heap.size + 2 ∧ ProA w' F n (w.heap.size + 1) w.heap.size 0 [] := by
  have hmm := @run_makeMap Tryz.prog
  go_enter Tryz.func46, Tryz.ntmps46
  go_wp2
  go_ret
  refine ⟨rfl, (Below.alloc (Below.refl _ _) (Nat.le_refl _) _).alloc (by simp) _, by simp, ?_, _, [], (MapF.made w Tryz.prog 9).kept (Below.heap_alloc _ _ _ (by simp)), trivial, List.Pairwise.nil, (fun p hp => nomatch hp), fun k => ⟨fun h => (by cases h), fun ⟨_, h, _⟩ => (by cases h)⟩⟩
  have := heap_alloc_new (w.alloc (.map #[] 0)) (.cells #[.map (some w.heap.size), .int .i64 0] 124)
  rw [World.size_alloc] at this
  exact this
theorem ProA.ne {w : World} {F : Nat → Prop} {n a m : Nat} {T : Int} {A : List (List (El (n + 2)))} (h : ProA w F n a m T A) : a ≠ m := fun e => by
  subst e
  obtain ⟨h1, f, ps, ⟨D, ⟨es, clock, hb, _⟩, _⟩, _⟩ := h
  unfold Arc2 at h1
  rw [hb] at h1
  injection h1 with h1
  cases h1
theorem MapF.store {w : World} {P : Program} {t k e : TypeId} {b n : Nat} {f : Lit → Option Value} (h : MapF w P k b n f) (K : Keyed P k) (ht : P.underlying t = some (.map k e)) (hn : n < maxLen) {key : Value} {kl : Lit} (hkey : keyOf P k key = some kl) (hl : WideAt.IsKeyLit kl) (val : Value) :
    ∃ w', (Instr.mapUpdate t (.map (some b)) key val).run P w = .ok () w' ∧ MapF w' P k b (n + 1) (upd f kl (some val)) ∧ w.grownBy w' (some b) := by
  obtain ⟨D, h1, rfl⟩ := h
  obtain ⟨w', r1, r2, r3⟩ := h1.update K ht hn hkey (show heldR val = some (.held val, []) from rfl)
  exact ⟨w', r1, ⟨_, r2, view_put h1.isMap hl val⟩, r3⟩
/-- A picture more. -/
theorem Pics.snoc {w : World} {F : Nat → Prop} {n : Nat} {f : Lit → Option Value} {l : List (El (n + 2))} {p : Nat × Int} (h1 : f (keyS (nm 3 l)) = some (picV p.1 p.2)) (h2 : F p.1) (h3 : DMk w F (n + 1) p.1 24 (descG l)) : ∀ {A : List (List (El (n + 2)))} {ps : List (Nat × Int)}, Pics w F n f A ps → Pics w F n f (A ++ [l]) (ps ++ [p])
  | [], [], _ => ⟨h1, h2, h3, trivial⟩
  | [], _ :: _, h => h.elim
  | _ :: _, [], h => h.elim
  | l0 :: A, q :: ps, h => by
    obtain ⟨k1, k2, k3, k4⟩ := h
    exact ⟨k1, k2, k3, Pics.snoc h1 h2 h3 k4⟩
theorem ProA.stored {w w4 w5 w6 : World} {F : Nat → Prop} {n a m D N : Nat} {T : Int} {A : List (List (El (n + 2)))} {l : List (El (n + 2))} {f : Lit → Option Value} {ps : List (Nat × Int)}
    (hF : ∀ j, F j → j < w.heap.size ∧ j ≠ a ∧ j ≠ m) (hal : a < w.heap.size) (hml : m < w.heap.size) (HP : Pics w4 F n f A ps) (HW : (ps.map (·.2)).Pairwise (· < ·)) (HT : ∀ p ∈ ps, p.2 ≤ T) (HK : ∀ k, (f k).isSome = true ↔ ∃ l ∈ A, k = keyS (nm 3 l)) (hnd : (A.map (nm 3)).Nodup)
    (HA5 : Arc2 w5 a m (T + 1)) (h6a : w6.heap[a]? = w5.heap[a]?) (same6 : ∀ j, j < w4.heap.size → j ≠ a → j ≠ m → w6.heap[j]? = w4.heap[j]?) (z6 : w4.heap.size ≤ w6.heap.size)
    (HM6 : MapF w6 Tryz.prog 9 m N (upd f (keyS (nm 3 l)) (some (picV D (T + 1))))) (HD : DMk w4 (Nw F w w4) (n + 1) D 24 (descG l)) (hD : w.heap.size ≤ D) : ProA w6 (Nw F w w6) n a m (T + 1) (outA A (nm 3 l) ++ [l]) := by
  have hDl := HD.lt
  have hself : upd f (keyS (nm 3 l)) (some (picV D (T + 1))) (keyS (nm 3 l)) = some (picV D (T + 1)) := by
    unfold upd; rw [if_pos ((same_iff (show WideAt.IsKeyLit (keyS (nm 3 l)) from trivial)).2 rfl)]
  have hother : ∀ t, t ≠ nm 3 l → upd f (keyS (nm 3 l)) (some (picV D (T + 1))) (keyS t) = f (keyS t) := fun t ht => by
    unfold upd
    rw [if_neg (fun h => ht (by have := (same_iff (show WideAt.IsKeyLit (keyS (nm 3 l)) from trivial)).1 h; injection this))]
  have hnames : ((outA A (nm 3 l) ++ [l]).map (nm 3)).Nodup := by
    rw [List.map_append, List.nodup_append]
    refine ⟨out_nodup hnd _, by simp, fun x hx y hy e => ?_⟩
    rw [out_keys] at hx
    have h1 := (List.mem_filter.1 hx).2
    simp only [List.map_cons, List.map_nil, List.mem_singleton] at hy
    rw [e, hy] at h1
    simp at h1
  have hkeys : ∀ kl, kl ∈ (outA A (nm 3 l) ++ [l]).map (fun l => keyS (nm 3 l)) ↔ (upd f (keyS (nm 3 l)) (some (picV D (T + 1))) kl).isSome = true := fun kl => by
    rw [keyS_iff]
    by_cases e : kl = keyS (nm 3 l)
    · rw [e, hself]
      exact ⟨fun _ => rfl, fun _ => ⟨l, List.mem_append_right _ List.mem_cons_self, rfl⟩⟩
    · have e2 : upd f (keyS (nm 3 l)) (some (picV D (T + 1))) kl = f kl := by
        unfold upd
        rw [if_neg (fun h => e ((same_iff (show WideAt.IsKeyLit (keyS (nm 3 l)) from trivial)).1 h))]
      rw [e2, HK]
      constructor
      · rintro ⟨q, h1, h2⟩
        rcases List.mem_append.1 h1 with h1 | h1
        · exact ⟨q, (List.mem_filter.1 h1).1, h2⟩
        · rw [List.mem_singleton] at h1
          exact absurd (by rw [h2, h1]) e
      · rintro ⟨q, h1, h2⟩
        exact ⟨q, List.mem_append_left _ (List.mem_filter.2 ⟨h1, by simpa using fun e3 => e (by rw [h2, e3])⟩), h2⟩
  have hM := HM6.tight (Maps.string_keyed Tryz.underlying9) (ProA.keys hnames) hkeys
  rw [List.length_map] at hM
  obtain ⟨qs, q1, q2⟩ := (HP.keep (w' := w6) (F' := Nw F w w6) (fun j hj => Or.inl hj) (fun j hj hj2 => same6 j hj2 (hF j hj).2.1 (hF j hj).2.2)).out (f' := upd f (keyS (nm 3 l)) (some (picV D (T + 1)))) hother
  refine ⟨HA5.keep h6a, _, qs ++ [(D, T + 1)], hM, Pics.snoc hself (Or.inr ⟨hD, by omega⟩) (HD.keep (same6 D hDl (by omega) (by omega)) (fun j hj => ?_) (fun j hj hj2 => same6 j hj2 ?_ ?_)) q1, ?_, fun p hp => ?_, fun k => by rw [← hkeys, keyS_iff]⟩
  · rcases hj with hj | hj
    · exact Or.inl hj
    · exact Or.inr ⟨hj.1, by omega⟩
  · rcases hj with hj | hj
    · exact (hF j hj).2.1
    · omega
  · rcases hj with hj | hj
    · exact (hF j hj).2.2
    · omega
  · rw [List.map_append, List.pairwise_append]
    refine ⟨HW.sublist (q2.map _), by simp, fun x hx y hy => ?_⟩
    obtain ⟨p, hp, rfl⟩ := List.mem_map.1 hx
    simp only [List.map_cons, List.map_nil, List.mem_singleton] at hy
    have := HT p (q2.subset hp)
    omega
  · rcases List.mem_append.1 hp with hp | hp
    · have := HT p (q2.subset hp)
      omega
    · rw [List.mem_singleton] at hp
      rw [hp]
      exact Int.le_refl _
set_option maxRecDepth 20000 in
set_option maxHeartbeats 4000000 in
theorem Store_any (F : Nat → Prop) (w : World) (a m : Nat) (T : Int) (A : List (List (El 3))) (s : By) (h : ProA w F 1 a m T A) (hF : ∀ j, F j → j < w.heap.size ∧ j ≠ a ∧ j ≠ m) (hG : Good A) (hV : Vars w) (hN : NamesV w) (hT : 0 ≤ T ∧ T < 4611686018427387904) :
    Calls Tryz.prog 48 #[ptr a, .string (bs s)] w fun e w' => e = .returned (.int .i64 (stoE A s)) ∧ (∀ j, j < w.heap.size → j ≠ a → j ≠ m → w'.heap[j]? = w.heap[j]?) ∧ (w'.os = w.os ∧ w'.tape = w.tape ∧ w'.output = w.output) ∧ w.heap.size ≤ w'.heap.size ∧ ∃ T', T ≤ T' ∧ T' ≤ T + 1 ∧ ProA w' (Nw F w w') 1 a m T' (stoA A s) := by
  have hend : ∀ (w' : World), Below w.heap.size w w' → stoA A s = A → (∀ j, j < w.heap.size → j ≠ a → j ≠ m → w'.heap[j]? = w.heap[j]?) ∧ (w'.os = w.os ∧ w'.tape = w.tape ∧ w'.output = w.output) ∧ w.heap.size ≤ w'.heap.size ∧ ∃ T', T ≤ T' ∧ T' ≤ T + 1 ∧ ProA w' (Nw F w w') 1 a m T' (stoA A s) := fun w' u e => by
    refine ⟨fun j hj _ _ => u.block j hj, ⟨u.os, u.tape, u.output⟩, u.size, T, Int.le_refl _, by omega, ?_⟩
    rw [e]
    exact h.keep (u.block _ h.1.lt) (u.block _ h.mlt) (fun j hj => Or.inl hj) (fun j _ hj => u.block j hj)
  have HE := hid hend
  have HA := hid h
  have HF := hid hF
  have HG := hid hG
  have HV := hid hV
  have HN := hid hN
  clear h hF hG hV hN hend
  go_enter Tryz.func48, Tryz.ntmps48
  go_wp2_with fail
  go_at_call 58
  refine (Decode_any w 3 (Nat.le_refl _) s).mono ?_
  rintro e w1 ⟨u1, ⟨hd, rfl⟩ | ⟨hd, l, v, bl, hp, hle, rfl, how, hbl⟩⟩
  · have U1 := hid u1
    have hE := hid (show stoE A s = decE 3 s by rw [stoE, if_pos hd])
    have hA := hid (show stoA A s = A by rw [stoA, if_pos hd])
    have hd2 : (decE 3 s != 0) = true := by simpa using hd
    clear u1 hd
    generalize decE 3 s = ee at hE hd2
    go_wp2
    go_ret
    exact ⟨ret_int hE.out.symm, HE.out _ U1.out hA.out⟩
  have U1 := hid u1
  have hSn := hid (sane_of (n := 1) hle)
  have hll := (sane_of (n := 1) hle).1
  have hEr := hid hle
  have hE := hid (show stoE A s = layE A l by rw [stoE, if_neg (fun h => h hd), hp])
  have hA := hid (show stoA A s = layA A l by rw [stoA, if_neg (fun h => h hd), hp])
  have R1 := hid (how.rd _ _ _ _ (fun j => j ∈ bl) (fun j hj => hj))
  have N1 := hid hbl
  obtain ⟨ad, cap, rfl⟩ := R1.out.slice
  clear u1 hd hle hp how hbl
  have hpr := hid (errS_props (n := 2) hEr.out)
  go_wp2_with fail
  go_at_call 94
  refine (checkElements_any 1 (fun j => j ∈ bl) w1 _ l R1.out (fun j hj => (N1.out.2 j hj).2) hSn.out (fun x hx => (hpr.out.2.2 x hx).2.2.2.1) (HV.out.up U1.out)).mono ?_
  rintro e w2 ⟨rfl, u2⟩
  have U2 := hid (U1.out.trans (u2.mono U1.out.size))
  have R2 := hid (R1.out.up u2)
  have N2 := hid (N1.out.more u2.size)
  have hlay := hid (layE_eq A l)
  clear u2 R1 N1
  by_cases hde : celE l = 0
  case neg =>
    have hE2 := hid (show stoE A s = celE l by rw [hE.out, hlay.out, if_pos hde])
    have hA2 := hid (show stoA A s = A by rw [hA.out, layA, if_neg (by rw [hlay.out, if_pos hde]; exact hde)])
    have hd2 : (celE l != 0) = true := by simpa using hde
    clear hde hE hA hlay
    generalize celE l = ee at hE2 hd2
    go_wp2
    go_ret
    exact ⟨ret_int hE2.out.symm, HE.out _ U2.out hA2.out⟩
  have hE2 := hid (show stoE A s = plaE A l by rw [hE.out, hlay.out, if_neg (fun h => h hde)])
  have hA2 := hid (show stoA A s = if stoE A s = 0 then outA A (nm 3 l) ++ [l] else A by rw [hA.out, layA, ← hE.out])
  rw [hde]
  clear hde hE hA hlay
  go_wp2_with fail
  go_at_call 95
  refine (describe_any 1 (fun j => j ∈ bl) w2 _ l R2.out (fun j hj => (N2.out.2 j hj).2) hll hpr.out.2.1 (fun x hx => ⟨(hpr.out.2.2 x hx).2.1, (hSn.out.2 x hx).2.1, fun s hs => ((hSn.out.2 x hx).2.2 s hs).1⟩)).mono ?_
  rintro e w3 ⟨rfl, u3, d3⟩
  have U3 := hid (U2.out.trans (u3.mono U2.out.size))
  have hz2 := U2.out.size
  have D3 := hid (d3.keep (w' := w3) (F' := Nw F w w3) rfl (fun j hj => by
    rcases hj with hj | hj
    · exact Or.inr ⟨(N2.out.2 j hj).1, Nat.lt_of_lt_of_le (N2.out.2 j hj).2 u3.size⟩
    · exact Or.inr ⟨by omega, hj.2⟩) (fun _ _ _ => rfl))
  have hdl := D3.out.lt
  clear u3 d3 R2 N2
  have P3 := hid (HA.out.up U3.out)
  have hns := nm_short (n := 2) hEr.out 3
  go_wp2_with fail
  go_at_call 96
  refine (checkPlace_any 1 F (Nw F w w3) w3 a m w2.heap.size T A l P3.out D3.out (HN.out.up U3.out) HG.out.2.1 HG.out.1 hns).mono ?_
  rintro e w4 ⟨rfl, u4⟩
  have U4 := hid (U3.out.trans (u4.mono U3.out.size))
  have D4 := hid (D3.out.keep (w' := w4) (F' := Nw F w w4) (u4.block _ hdl) (fun j hj => by
    rcases hj with hj | hj
    · exact Or.inl hj
    · exact Or.inr ⟨hj.1, Nat.lt_of_lt_of_le hj.2 u4.size⟩) (fun j _ hj => u4.block j hj))
  have hdl4 := Nat.lt_of_lt_of_le hdl u4.size
  clear u4 D3 P3
  by_cases hpe : plaE A l = 0
  case neg =>
    have hA3 := hid (show stoA A s = A by rw [hA2.out, if_neg (by rw [hE2.out]; exact hpe)])
    have hd2 : (plaE A l != 0) = true := by simpa using hpe
    clear hpe hA2
    generalize plaE A l = ee at hE2 hd2
    go_wp2
    go_ret
    exact ⟨ret_int hE2.out.symm, HE.out _ U4.out hA3.out⟩
  have hA3 := hid (show stoA A s = outA A (nm 3 l) ++ [l] by rw [hA2.out, if_pos (hE2.out.trans hpe)])
  have hE3 := hid (hE2.out.trans hpe)
  have hout48 := hid (show (outA A (nm 3 l)).length < 48 by
    unfold plaE at hpe
    by_cases q1 : nm 0 l = [] ∨ nm 1 l = [] ∨ nm 2 l = [] ∨ nm 3 l = []
    · rw [if_pos q1] at hpe; cases hpe
    rw [if_neg q1] at hpe
    by_cases q2 : (outA A (nm 3 l)).any (clash l) = true
    · rw [if_pos q2] at hpe; cases hpe
    rw [if_neg q2] at hpe
    by_cases q3 : 48 ≤ (outA A (nm 3 l)).length
    · rw [if_pos q3] at hpe; cases hpe
    omega)
  rw [hpe]
  clear hpe hE2 hA2
  have P4 := hid (HA.out.up U4.out)
  obtain ⟨⟨b0, b1⟩, b2, b3⟩ := P4.out.1.cells
  have hTw : IntKind.i64.wrap (T + 1) = T + 1 := by rw [IntKind.wrap_i64]; omega
  have ham := HA.out.ne
  have hal := HA.out.1.lt
  have hml := HA.out.mlt
  have hz4 := U4.out.size
  go_wp2_with fail
  have A5 := P4.out.1.set (T + 1)
  have hb5 : ∀ j, j ≠ a → (w4.setCell ⟨a, 1, none⟩ (.int .i64 (T + 1))).heap[j]? = w4.heap[j]? := fun j hj => Below.heap_setCell _ _ _ _ hj
  have hs5 : (w4.setCell ⟨a, 1, none⟩ (.int .i64 (T + 1))).heap.size = w4.heap.size := by simp
  have ho5 : (w4.setCell ⟨a, 1, none⟩ (.int .i64 (T + 1))).os = w4.os ∧ (w4.setCell ⟨a, 1, none⟩ (.int .i64 (T + 1))).tape = w4.tape ∧ (w4.setCell ⟨a, 1, none⟩ (.int .i64 (T + 1))).output = w4.output := ⟨rfl, rfl, rfl⟩
  generalize w4.setCell ⟨a, 1, none⟩ (.int .i64 (T + 1)) = w5 at A5 hb5 hs5 ho5 ⊢
  obtain ⟨⟨q0, q1⟩, _⟩ := A5.cells
  obtain ⟨_, f, ps, hM, hP, hpw, hpT, hK⟩ := P4.out
  have hkey : keyOf Tryz.prog 9 (.string (bs (nm 3 l))) = some (keyS (nm 3 l)) := WideMaps.keyOf_string_mk Tryz.underlying9 (by rw [bs_size]; unfold maxLen; omega)
  have M5 : MapF w5.drew Tryz.prog 9 m A.length f := hM.kept (hb5 m (fun e => ham e.symm))
  obtain ⟨w6, hrun, hM6, hg6⟩ := M5.store (Maps.string_keyed Tryz.underlying9) Tryz.underlying122 (by have := HG.out.1; unfold maxLen; omega) hkey trivial (picV w2.heap.size (T + 1))
  have D5 : DMk w5.drew (Nw F w w4) 2 w2.heap.size 24 (descG l) := D4.out.keep (hb5 _ (by omega)) (fun _ h => h) (fun j hj _ => hb5 j (by
    rcases hj with hj | hj
    · exact (HF.out j hj).2.1
    · omega))
  have c5 := hid (dvalue_any w5.drew _ 2 _ 24 (descG l) 524312 D5 (by decide))
  have hv3 := hid (valG_desc l 3)
  change Hid (valG (descG l) 524312 = nm 3 l) at hv3
  rw [hv3.out] at c5
  have HM6 := hid hM6
  have HG6 := hid hg6
  have HP4 := hid hP
  have HPW := hid hpw
  have HPT := hid hpT
  have HK := hid hK
  have HD5 := hid D5
  have HA5 := hid A5
  have HB5 := hid hb5
  have HS5 := hid hs5
  have HO5 := hid ho5
  clear hM hP hpw hpT hK M5 hM6 hg6 D5 A5 hb5 hs5 ho5 b0 b1 b2 b3 hkey hTw
  go_region_with (go_at_call 97; refine c5.out.mono ?_; rintro e w7 ⟨rfl, rfl⟩)
  all_goals
    go_wp2
    go_ret
    refine ⟨ret_int hE3.out.symm, ?_⟩
    have z6 := HG6.out.size
    have z6' : w4.heap.size ≤ w6.heap.size := by have := HS5.out; simp at z6; omega
    have same6 : ∀ j, j < w4.heap.size → j ≠ a → j ≠ m → w6.heap[j]? = w4.heap[j]? := fun j hj h1 h2 => (HG6.out.block j (by have := HS5.out; simp; omega) (fun e => h2 (by simpa using e))).trans (HB5.out j h1)
    refine ⟨fun j hj h1 h2 => (same6 j (by omega) h1 h2).trans (U4.out.block j hj), ⟨?_, ?_, ?_⟩, by omega, T + 1, by omega, Int.le_refl _, ?_⟩
    · exact HG6.out.os.trans (HO5.out.1.trans U4.out.os)
    · exact HG6.out.tape.trans (HO5.out.2.1.trans U4.out.tape)
    · exact HG6.out.output.trans (HO5.out.2.2.trans U4.out.output)
    · rw [hA3.out]
      exact ProA.stored HF.out hal hml HP4.out HPW.out HPT.out HK.out HG.out.2.1 HA5.out (HG6.out.block a (by have := HS5.out; simp; omega) (fun e => ham (by simpa using e))) same6 z6' HM6.out D4.out (by omega)
end Go.Proofs.YtaokifbpakbgdaaGreatDoor

/- Pictures grouped by a name, in memory: a map of rows, and one picture more in it (no walk). -/
namespace Go.Proofs.YtaokifbpakbgdaaGreatDoor
open Go.RowKit Go.Maps

def pcs {n : Nat} {A : List (List (El (n + 2)))} (pd : List (El (n + 2)) → Nat × Int) (x : Of A) : List Value := [.map (some (pd x.1).1), .int .i64 (pd x.1).2]
def rowP {n : Nat} {A : List (List (El (n + 2)))} (pd : List (El (n + 2)) → Nat × Int) (xs : List (Of A)) : List Value := (xs.map (pcs pd)).flatten
/-- Those with a name on a level. -/
def grp {n : Nat} {A : List (List (El (n + 2)))} (lvl : Nat) (s : By) (xs : List (Of A)) : List (Of A) := xs.filter (fun x => nm lvl x.1 == s)
theorem grp_snoc {n : Nat} {A : List (List (El (n + 2)))} (lvl : Nat) (s : By) (xs : List (Of A)) (x : Of A) : grp lvl s (xs ++ [x]) = if nm lvl x.1 = s then grp lvl s xs ++ [x] else grp lvl s xs := by
  unfold grp
  rw [List.filter_append]
  by_cases h : nm lvl x.1 = s
  · rw [if_pos h, List.filter_cons_of_pos (by simpa using h), List.filter_nil]
  · rw [if_neg h, List.filter_cons_of_neg (by simpa using h), List.filter_nil, List.append_nil]
def Grps {n : Nat} {A : List (List (El (n + 2)))} (W : World) (B0 nb lvl : Nat) (pd : List (El (n + 2)) → Nat × Int) (pre : List (Of A)) (f : Lit → Option Value) (vs : By → Value) : Prop :=
  MapF W Tryz.prog 9 nb pre.length f ∧ (∀ s, grp lvl s pre = [] → f (keyS s) = none) ∧
  (∀ s, grp lvl s pre ≠ [] → f (keyS s) = some (vs s) ∧ W.ownsRow B0 131 2 (vs s) (grp lvl s pre).length (rowP pd (grp lvl s pre))) ∧
  (∀ s t, grp lvl s pre ≠ [] → grp lvl t pre ≠ [] → s ≠ t → (vs s).ownBlock ≠ (vs t).ownBlock) ∧ ∀ k, (f k).isSome = true → ∃ s, k = keyS s
/-- It lies on where the map and every row of cells from B0 on lie on. -/
theorem Grps.keep {n : Nat} {A : List (List (El (n + 2)))} {W W' : World} {B0 nb lvl : Nat} {pd : List (El (n + 2)) → Nat × Int} {pre : List (Of A)} {f : Lit → Option Value} {vs : By → Value} (h : Grps W B0 nb lvl pd pre f vs) (hb : W'.heap[nb]? = W.heap[nb]?)
    (hk : ∀ j o, B0 ≤ j → W.heap[j]? = some o → o.isCells = true → W'.heap[j]? = some o) : Grps W' B0 nb lvl pd pre f vs := by
  obtain ⟨h1, h2, h3, h4, h5⟩ := h
  refine ⟨h1.kept hb, h2, fun s hs => ⟨(h3 s hs).1, ownsRow_keep (h3 s hs).2 (fun j hj => ?_)⟩, h4, h5⟩
  have h6 := (h3 s hs).2
  have h7 := (h6.lt j (by simpa using hj)).1
  rcases id h6.2 with ⟨e, _⟩ | ⟨g, cap, cur, e, _, hh, _⟩
  · rw [e] at hj; cases hj
  · rw [e] at hj
    simp [Value.ownBlock] at hj
    subst hj
    rw [hk _ _ h7 hh rfl, hh]
theorem info_pic : (Tryz.prog.info? 131).map (fun i => (i.zero, i.size, i.bytes)) = some (some (.agg #[.map none, .int .i64 0]), 2, 16) := by kernel_rfl
theorem pair_cells (w : World) (T : TypeId) (c0 c1 : Value) : ∀ j u, [c0, c1][j]? = some u → (w.alloc (.cells #[c0, c1] T)).cell? ((⟨w.heap.size, 0, none⟩ : Addr).add j) = some u := by
  intro j u hj
  rw [Addr.add_lit]
  match j, hj with
  | 0, hj | 1, hj => simp at hj; subst hj; simp
  | j + 2, hj => simp at hj
theorem MapF.look1 {w : World} {P : Program} {t k e : TypeId} {b n : Nat} {f : Lit → Option Value} (h : MapF w P k b n f) (K : Keyed P k) (ht : P.underlying t = some (.map k e)) {z : Value} (hz : (zeroValue e).run P w = .ok z w) {key : Value} {kl : Lit} (hkey : keyOf P k key = some kl) :
    (Instr.lookup t (.map (some b)) key false).run P w = .ok ((f kl).getD z) w := by
  obtain ⟨D, h1, rfl⟩ := h
  obtain ⟨v, ps, hrun, hv⟩ := h1.lookup K ht hz (zd := .held z) (zp := []) rfl hkey
  obtain ⟨e1, _⟩ := look_view hv
  rw [hrun, e1]
theorem Grps.step {n : Nat} {A : List (List (El (n + 2)))} {W : World} {B0 nb lvl : Nat} {pd : List (El (n + 2)) → Nat × Int} {pre : List (Of A)} {f : Lit → Option Value} {vs : By → Value} (h : Grps W B0 nb lvl pd pre f vs) (x : Of A) (hlen : pre.length < 100) (hs : (nm lvl x.1).length ≤ 64) (hnb : nb < B0) (hB0 : B0 ≤ W.heap.size) :
    ∃ v v' W2 W3, (Instr.lookup 136 (.map (some nb)) (.string (bs (nm lvl x.1))) false).run Tryz.prog W = .ok v W ∧
      (Instr.lookup 136 (.map (some nb)) (.string (bs (nm lvl x.1))) false).run Tryz.prog (W.alloc (.cells #[.map (some (pd x.1).1), .int .i64 (pd x.1).2] 131)) = .ok v (W.alloc (.cells #[.map (some (pd x.1).1), .int .i64 (pd x.1).2] 131)) ∧
      (Builtin.append_ #[144, 144] 144 #[v, .slice (some ⟨W.heap.size, 0, none⟩) 1 1]).run Tryz.prog (W.alloc (.cells #[.map (some (pd x.1).1), .int .i64 (pd x.1).2] 131)) = .ok v' W2 ∧
      (Instr.mapUpdate 136 (.map (some nb)) (.string (bs (nm lvl x.1))) v').run Tryz.prog W2 = .ok () W3 ∧
      (∃ f' vs', Grps W3 B0 nb lvl pd (pre ++ [x]) f' vs') ∧ (W3.os = W.os ∧ W3.tape = W.tape ∧ W3.output = W.output) ∧ W.heap.size ≤ W3.heap.size ∧ (∀ j, j < B0 → j ≠ nb → W3.heap[j]? = W.heap[j]?) ∧
      (∀ j o, j ≠ nb → W.heap[j]? = some o → o.isCells = false → W3.heap[j]? = some o) ∧ (∀ j, j < B0 → W2.heap[j]? = W.heap[j]?) := by
  obtain ⟨i0, hi0, hz0, hz1, hz2⟩ := info_parts info_pic
  obtain ⟨h1, h2, h3, h4, h5⟩ := id h
  have hkey : keyOf Tryz.prog 9 (.string (bs (nm lvl x.1))) = some (keyS (nm lvl x.1)) := WideMaps.keyOf_string_mk Tryz.underlying9 (by rw [bs_size]; unfold maxLen; omega)
  obtain ⟨X, hX⟩ : ∃ X : Obj, X = .cells #[.map (some (pd x.1).1), .int .i64 (pd x.1).2] 131 := ⟨_, rfl⟩
  have hl1 := h1.look1 (Maps.string_keyed Tryz.underlying9) Tryz.underlying136 (Tryz.zeroValue144 _) hkey
  have hm1 : MapF (W.alloc X) Tryz.prog 9 nb pre.length f := h1.kept (Below.heap_alloc _ _ _ h1.lt)
  have hl2 := hm1.look1 (Maps.string_keyed Tryz.underlying9) Tryz.underlying136 (Tryz.zeroValue144 _) hkey
  have hglen : (grp lvl (nm lvl x.1) pre).length ≤ pre.length := List.length_filter_le _ _
  -- the row of that name
  have hrow : W.ownsRow B0 131 2 ((f (keyS (nm lvl x.1))).getD (.slice none 0 0)) (grp lvl (nm lvl x.1) pre).length (rowP pd (grp lvl (nm lvl x.1) pre)) := by
    by_cases e : grp lvl (nm lvl x.1) pre = []
    · rw [h2 _ e, e]; exact World.ownsRow_nil _ _ _ _
    · rw [(h3 _ e).1]; exact (h3 _ e).2
  generalize hv : (f (keyS (nm lvl x.1))).getD (.slice none 0 0) = v at hl1 hl2 hrow
  obtain ⟨v', W2, ha, hr', hg, hne, hat⟩ := run_append_own_at (P := Tryz.prog) (W.alloc X) B0 144 144 131 i0 _ 2 16 Tryz.underlying144 hi0 hz0 hz1 hz2 rfl (by decide) v _ _ (hrow.alloc X) ⟨W.heap.size, 0, none⟩ 1 1 (pcs pd x) rfl (by rw [hX]; exact pair_cells _ _ _ _) (by intro u hu; simp [pcs] at hu; rcases hu with rfl | rfl <;> rfl) (by unfold maxLen; omega) (by omega) (by simp; omega)
  have hnblt := h1.lt
  have hown : ∀ j, v.ownBlock = some j → B0 ≤ j ∧ ∃ o : Obj, W.heap[j]? = some o ∧ o.isCells = true := fun j hj => by
    rcases id hrow.2 with ⟨e, _⟩ | ⟨g, cap, cur, e, hb, hh, _⟩
    · rw [e] at hj; cases hj
    · rw [e] at hj
      simp [Value.ownBlock] at hj
      subst hj
      exact ⟨hb, _, hh, rfl⟩
  have hm2 : MapF W2 Tryz.prog 9 nb pre.length f := hm1.kept (hg.block nb (by simp; omega) (fun e => by have := (hown nb e.symm).1; omega))
  obtain ⟨W3, hu, hm3, hg3⟩ := hm2.store (Maps.string_keyed Tryz.underlying9) Tryz.underlying136 (by unfold maxLen; omega) hkey trivial v'
  have z2 := hg.size
  have z3 := hg3.size
  rw [World.size_alloc] at z2
  have same : ∀ j, j < W.heap.size → j ≠ nb → some j ≠ v.ownBlock → W3.heap[j]? = W.heap[j]? := fun j hj h1 h2 => by
    rw [hg3.block j (by omega) (fun e => h1 (by simpa using e)), hg.block j (by simp; omega) h2, Below.heap_alloc _ _ _ hj]
  rw [hX] at hl2 ha
  have hvs : grp lvl (nm lvl x.1) pre ≠ [] → v = vs (nm lvl x.1) := fun e => by rw [← hv, (h3 _ e).1]; rfl
  have hvn : grp lvl (nm lvl x.1) pre = [] → v = .slice none 0 0 := fun e => by rw [← hv, h2 _ e]; rfl
  have hself : upd f (keyS (nm lvl x.1)) (some v') (keyS (nm lvl x.1)) = some v' := by
    unfold upd; rw [if_pos ((same_iff (show WideAt.IsKeyLit (keyS (nm lvl x.1)) from trivial)).2 rfl)]
  have hother : ∀ t, t ≠ nm lvl x.1 → upd f (keyS (nm lvl x.1)) (some v') (keyS t) = f (keyS t) := fun t ht => by
    unfold upd
    rw [if_neg (fun h => ht (by have := (same_iff (show WideAt.IsKeyLit (keyS (nm lvl x.1)) from trivial)).1 h; injection this))]
  have hg1 : ∀ t, t ≠ nm lvl x.1 → grp lvl t (pre ++ [x]) = grp lvl t pre := fun t ht => by rw [grp_snoc, if_neg (fun e => ht e.symm)]
  have hg2 : grp lvl (nm lvl x.1) (pre ++ [x]) = grp lvl (nm lvl x.1) pre ++ [x] := by rw [grp_snoc, if_pos rfl]
  have hblk : ∀ t, grp lvl t pre ≠ [] → ∃ g, (vs t).ownBlock = some g ∧ B0 ≤ g ∧ g < W.heap.size := fun t ht => by
    have h6 := (h3 t ht).2
    rcases id h6.2 with ⟨_, e⟩ | ⟨g, cap, cur, e, hb, hh, _⟩
    · exact absurd (List.eq_nil_of_length_eq_zero e) ht
    · exact ⟨g, by rw [e]; rfl, hb, (Array.getElem?_eq_some_iff.1 hh).1⟩
  have hapart : ∀ t, t ≠ nm lvl x.1 → grp lvl t pre ≠ [] → v.ownBlock ≠ (vs t).ownBlock := fun t ht hn => by
    by_cases e : grp lvl (nm lvl x.1) pre = []
    · rw [hvn e]
      obtain ⟨g, hg, _⟩ := hblk t hn
      rw [hg]
      simp [Value.ownBlock]
    · rw [hvs e]
      exact h4 _ _ e hn (fun e => ht e.symm)
  have hapart' : ∀ t, t ≠ nm lvl x.1 → grp lvl t pre ≠ [] → v'.ownBlock ≠ (vs t).ownBlock := fun t ht hn => by
    rcases hat with e | e
    · rw [e]; exact hapart t ht hn
    · rw [e]
      obtain ⟨g, hg, _, hlt⟩ := hblk t hn
      rw [hg, World.size_alloc]
      simp
      omega
  refine ⟨v, v', W2, W3, hl1, hl2, ha, hu, ?_, ⟨?_, ?_, ?_⟩, by omega, fun j hj h => same j (by omega) h (fun e => by have := (hown j e.symm).1; omega), fun j o h ho hc => ?_, fun j hj => ?_⟩
  · refine ⟨_, fun t => if t = nm lvl x.1 then v' else vs t, by rw [List.length_append]; exact hm3, fun t ht => ?_, fun t ht => ?_, fun t1 t2 n1 n2 h12 => ?_, fun k hk => ?_⟩
    · by_cases e : t = nm lvl x.1
      · rw [e, hg2] at ht; simp at ht
      · rw [hother t e]
        rw [hg1 t e] at ht
        exact h2 t ht
    · dsimp only []
      by_cases e : t = nm lvl x.1
      · rw [e, hg2, if_pos rfl, hself]
        refine ⟨rfl, ?_⟩
        rw [List.length_append, show rowP pd (grp lvl (nm lvl x.1) pre ++ [x]) = rowP pd (grp lvl (nm lvl x.1) pre) ++ pcs pd x by unfold rowP; rw [List.map_append, List.flatten_append]; simp]
        refine ownsRow_keep hr' (fun j hj => hg3.block j (ownsRow_lt hr' j hj) (fun e => ?_))
        have := (hr'.lt j (by simpa using hj)).1
        have : j = nb := by simpa using e
        omega
      · rw [hother t e, if_neg e]
        rw [hg1 t e] at ht ⊢
        refine ⟨(h3 t ht).1, ownsRow_keep (h3 t ht).2 (fun j hj => same j (ownsRow_lt (h3 t ht).2 j hj) (fun e2 => ?_) (fun e2 => ?_))⟩
        · have := ((h3 t ht).2.lt j (by simpa using hj)).1
          omega
        · exact hapart t e ht (by rw [← e2]; exact (by simpa using hj : (vs t).ownBlock = some j).symm)
    · dsimp only []
      by_cases e1 : t1 = nm lvl x.1
      · have e2 : t2 ≠ nm lvl x.1 := fun e => h12 (e1.trans e.symm)
        rw [if_pos e1, if_neg e2]
        rw [hg1 t2 e2] at n2
        exact hapart' t2 e2 n2
      · rw [if_neg e1]
        rw [hg1 t1 e1] at n1
        by_cases e2 : t2 = nm lvl x.1
        · rw [if_pos e2]
          exact fun e => hapart' t1 e1 n1 e.symm
        · rw [if_neg e2]
          rw [hg1 t2 e2] at n2
          exact h4 t1 t2 n1 n2 h12
    · by_cases e : k = keyS (nm lvl x.1)
      · exact ⟨_, e⟩
      · refine h5 k ?_
        unfold upd at hk
        rw [if_neg (fun h => e ((same_iff (show WideAt.IsKeyLit (keyS (nm lvl x.1)) from trivial)).1 h))] at hk
        exact hk
  · exact hg3.os.trans hg.os
  · exact hg3.tape.trans hg.tape
  · exact hg3.output.trans hg.output
  · have hj := (Array.getElem?_eq_some_iff.1 ho).1
    rw [same j hj h (fun e => ?_), ho]
    obtain ⟨_, o2, h3, h4⟩ := hown j e.symm
    rw [ho] at h3
    cases h3
    rw [hc] at h4
    cases h4
  · rw [hg.block j (by simp; omega) (fun e => by have := (hown j e.symm).1; omega), Below.heap_alloc _ _ _ (by omega)]
end Go.Proofs.YtaokifbpakbgdaaGreatDoor

/-
  Package foliolaw on archives: pick, counted, simple.
-/
import Derived.Test.YtaokifbpakbgdaaGreatDoorArB3
import Derived.Test.YtaokifbpakbgdaaGreatDoorRefd3
import Derived.ChangeKeysEq
namespace Go.Proofs.YtaokifbpakbgdaaGreatDoor
open Go.RowKit

def pkL (k n : Int) : Int := if k < 0 then -(k + 1) % n else k % n
theorem pkL_bd {k n : Int} (h : 0 < n) : 0 ≤ pkL k n ∧ pkL k n < n := by
  unfold pkL
  split
  · exact ⟨Int.emod_nonneg _ (by omega), Int.emod_lt_of_pos _ h⟩
  · exact ⟨Int.emod_nonneg _ (by omega), Int.emod_lt_of_pos _ h⟩
theorem lpick_any (k n : Int) (w : World) (h1 : -9223372036854775808 ≤ k) (h2 : k ≤ 9223372036854775807) (h3 : 0 < n) (h4 : n ≤ 9223372036854775807) :
    Calls Tryz.prog 47 #[.int .i64 k, .int .i64 n] w fun e w' => e = .returned (.int .i64 (pkL k n)) ∧ w' = w := by
  by_cases h : k < 0
  · have e : Hid (pkL k n = -(k + 1) % n) := by unfold Hid pkL; rw [if_pos h]
    go_enter Tryz.func47, Tryz.ntmps47
    go_wp2
    go_ret
    refine ⟨congrArg (fun i => Ending.returned (Value.int .i64 i)) ?_, rfl⟩
    rw [e.out, ← Int.neg_tmod, Int.tmod_eq_emod_of_nonneg (by omega)]
  · have e : Hid (pkL k n = k % n) := by unfold Hid pkL; rw [if_neg h]
    go_enter Tryz.func47, Tryz.ntmps47
    go_wp2
    go_ret
    exact ⟨congrArg (fun i => Ending.returned (Value.int .i64 i)) e.out.symm, rfl⟩
/-- A pair: an archive and the document's. -/
def PairAt (w : World) (p a b : Nat) : Prop := w.heap[p]? = some (.cells #[ptr a, ptr b] 97 (0, 0))
theorem PairAt.cells {w : World} {p a b : Nat} (h : PairAt w p a b) : w.cell? ⟨p, 0, none⟩ = some (ptr a) ∧ w.cell? ⟨p, 1, none⟩ = some (ptr b) := by
  unfold PairAt at h
  simp [World.cell?, h]
theorem PairAt.lt {w : World} {p a b : Nat} (h : PairAt w p a b) : p < w.heap.size := lt_of_block h
theorem PairAt.keep {w w' : World} {p a b : Nat} (h : PairAt w p a b) (k : w'.heap[p]? = w.heap[p]?) : PairAt w' p a b := k.trans h
theorem info_int : ∃ i, Tryz.prog.info? 3 = some i := by
  have h : (Tryz.prog.info? 3).isSome = true := by kernel_rfl
  exact Option.isSome_iff_exists.1 h
theorem same4 (c0 c1 c2 c3 : Int) (w : World) : (Op.equalIn 10000 66 (.agg #[.int .i64 c0, .int .i64 c1, .int .i64 c2, .int .i64 c3]) (.agg #[.int .i64 c0, .int .i64 c1, .int .i64 c2, .int .i64 c3])).run Tryz.prog w = .ok true w := by
  obtain ⟨i, hi⟩ := info_int
  have hc : Tryz.prog.cellsOf 3 = 1 := by kernel_rfl
  rw [show (10000 : Nat) = 9999 + 1 from rfl, run_equalIn_array w 9999 _ _ Tryz.underlying66 hi, hc, show List.range 4 = [0, 1, 2, 3] from rfl]
  simp only [Op.eqItems]
  go_simp
set_option maxRecDepth 20000 in
set_option maxHeartbeats 2000000 in
theorem counted_any (F : Nat → Prop) (w : World) (p a m b : Nat) (T : Int) (A : List (List (El 3))) (hp : PairAt w p a b) (h : ProA w F 1 a m T A) (hR : RefA w F 2 b A) (hF : ∀ j, F j → j < w.heap.size) (hG : Good A) (hs : ∀ l ∈ A, l.length ≤ 24) (hV : NamesV w) :
    Calls Tryz.prog 18 #[ptr p] w fun e w' => e = .returned (.bool true) ∧ Below w.heap.size w w' := by
  obtain ⟨p0, p1⟩ := hp.cells
  have hc : ∀ i, (cntA A i : Int) ≤ 48 := fun i => by have := cntA_le A i; have := hG.1; omega
  have HP := hid hp
  have H := hid h
  have HR := hid hR
  have HF := hid hF
  have HG := hid hG
  have HS := hid hs
  have HV := hid hV
  have hpl := hp.lt
  clear hp h hR hF hG hs hV
  go_enter Tryz.func18, Tryz.ntmps18
  go_wp2_with fail
  go_at_call 53
  refine (Count_any 1 F w a m T A H.out HG.out HV.out).mono ?_
  rintro e w2 ⟨rfl, u2⟩
  have U2 := hid u2
  have hpl2 : p < w2.heap.size := Nat.lt_of_lt_of_le hpl u2.size
  obtain ⟨q0, q1⟩ := (HP.out.keep (u2.block _ hpl)).cells
  clear u2 p0 p1
  simp only [arr4]
  have hc0 := hc 0
  have hc1 := hc 1
  have hc2 := hc 2
  have hc3 := hc 3
  have E := hid (show arr4 (fun i => (cntA A i : Int)) = .agg #[.int .i64 (cntA A 0), .int .i64 (cntA A 1), .int .i64 (cntA A 2), .int .i64 (cntA A 3)] from rfl)
  generalize (cntA A 0 : Int) = c0 at *
  generalize (cntA A 1 : Int) = c1 at *
  generalize (cntA A 2 : Int) = c2 at *
  generalize (cntA A 3 : Int) = c3 at *
  clear hc
  go_wp2_with fail
  have u3 : Below w.heap.size w (w2.alloc (.cells #[.int .i64 c0, .int .i64 c1, .int .i64 c2, .int .i64 c3] 66)) := Below.alloc U2.out U2.out.size _
  have d4 : F4 (w2.alloc (.cells #[.int .i64 c0, .int .i64 c1, .int .i64 c2, .int .i64 c3] 66)) w2.heap.size (fun i => if i = 0 then c0 else if i = 1 then c1 else if i = 2 then c2 else c3) := heap_alloc_new _ _
  have U3 := hid u3
  have D4 := hid d4
  have hz4 := d4.lt
  clear u3 d4 q0 q1
  go_at_call 54
  refine (rCount_any 2 F _ b A (HR.out.keep (U3.out.block _ HR.out.lt) (fun _ h => h) (fun j _ hj => U3.out.block j hj)) (fun j hj => Nat.lt_of_lt_of_le (HF.out j hj) U3.out.size) HG.out.1 HS.out).mono ?_
  rintro e w4 ⟨rfl, u4⟩
  have D5 := D4.out.keep (u4.block _ hz4)
  have U4 := hid (U3.out.trans (u4.mono U3.out.size))
  have hz5 := D5.lt
  have x0 : w4.cell? ⟨w2.heap.size, 0, none⟩ = some (.int .i64 c0) := (D5.cell (k := 0) (by omega)).1
  have x1 : w4.cell? ⟨w2.heap.size, 1, none⟩ = some (.int .i64 c1) := (D5.cell (k := 1) (by omega)).1
  have x2 : w4.cell? ⟨w2.heap.size, 2, none⟩ = some (.int .i64 c2) := (D5.cell (k := 2) (by omega)).1
  have x3 : w4.cell? ⟨w2.heap.size, 3, none⟩ = some (.int .i64 c3) := (D5.cell (k := 3) (by omega)).1
  clear u4 D5 D4 U3
  rw [E.out]
  clear hz4
  have hq := same4 c0 c1 c2 c3
  go_wp2
  go_ret
  exact ⟨rfl, Below.alloc U4.out U4.out.size _⟩
def mkEl (n : Nat) (x : Int × By × By) : El (n + 1) := (x.1, x.2.1, x.2.2, [])
theorem els_at (w : World) (T : TypeId) (xs : List (Int × By × By)) (n : Nat) (F : Nat → Prop) (hF : F w.heap.size) (cap : Nat) :
    Rd (w.alloc (.cells ((xs.flatMap (fun x => [.int .i64 x.1, .string (bs x.2.1), .string (bs x.2.2), .slice none 0 0])).toArray) T)) F (n + 1) (.slice (some ⟨w.heap.size, 0, none⟩) xs.length cap) (xs.map (mkEl n)) := by
  rw [Rd_succ]
  refine ⟨some ⟨w.heap.size, 0, none⟩, cap, by rw [List.length_map], fun i x hx => ⟨⟨w.heap.size, 0, none⟩, rfl, hF, ?_⟩⟩
  rw [List.getElem?_map, Option.map_eq_some_iff] at hx
  obtain ⟨y, hy, rfl⟩ := hx
  have hcell : ∀ k v, [Value.int .i64 y.1, .string (bs y.2.1), .string (bs y.2.2), .slice none 0 0][k]? = some v → (w.alloc (.cells ((xs.flatMap (fun x => [Value.int .i64 x.1, .string (bs x.2.1), .string (bs x.2.2), .slice none 0 0])).toArray) T)).cell? ⟨w.heap.size, 4 * i + k, none⟩ = some v := fun k v hk => by
    have hkl : k < 4 := by have := (List.getElem?_eq_some_iff.1 hk).1; simpa using this
    have : (xs.flatMap (fun x => [Value.int .i64 x.1, .string (bs x.2.1), .string (bs x.2.2), .slice none 0 0]))[4 * i + k]? = some v := by
      clear hF
      induction xs generalizing i with
      | nil => simp at hy
      | cons z zs ih =>
        cases i with
        | zero =>
          simp at hy; subst hy
          rw [List.flatMap_cons, List.getElem?_append_left (by simp; omega)]
          simpa using hk
        | succ i =>
          rw [List.flatMap_cons, List.getElem?_append_right (by simp; omega)]
          have := ih i (by simpa using hy)
          rw [← this]
          congr 1
          simp; omega
    generalize xs.flatMap (fun x => [Value.int .i64 x.1, .string (bs x.2.1), .string (bs x.2.2), .slice none 0 0]) = L at this ⊢
    have hb := heap_alloc_new w (.cells L.toArray T)
    generalize w.alloc (.cells L.toArray T) = W at hb ⊢
    simp [World.cell?, hb, this]
  have e : ∀ o j : Nat, (⟨w.heap.size, o, none⟩ : Addr).add j = ⟨w.heap.size, o + j, none⟩ := fun o j => by
    unfold Addr.add
    split
    · next h => subst h; rfl
    · rfl
  rw [e 0 (4 * i), Nat.zero_add, e, e, e]
  exact ⟨hcell 0 _ rfl, hcell 1 _ rfl, hcell 2 _ rfl, _, hcell 3 _ rfl, RdI.nil _ _ _⟩
theorem simple_any (w : World) : Calls Tryz.prog 16 #[] w fun e w' => ∃ s : By, e = .returned (.string (bs s)) ∧ s.length ≤ 274877906944 ∧ Below w.heap.size w w' := by
  have H := hid (fun T => els_at w T [(524312, [85, 73], [57, 46, 57]), (1048608, [76, 79], [90, 57]), (2097165, [85, 73], [57]), (2097166, [85, 73], [57, 46, 48])] 2 (fun j => j = w.heap.size) rfl 4)
  go_enter Tryz.func16, Tryz.ntmps16
  go_wp2_with fail
  go_at_call 45
  have hle := hid (show (wrS false 0 3 ([(524312, [85, 73], [57, 46, 57]), (1048608, [76, 79], [90, 57]), (2097165, [85, 73], [57]), (2097166, [85, 73], [57, 46, 48])].map (mkEl 2))).length ≤ 274877906944 by decide)
  refine (rEncode_any 3 (by omega) _ _ _ _ (H.out _) hle.out).mono ?_
  rintro e w' ⟨u, h⟩
  have U := hid u
  rcases h with ⟨_, rfl⟩ | ⟨_, rfl⟩
  · go_wp2
    go_ret
    exact ⟨_, rfl, by simp, (Below.alloc (Below.refl _ _) (Nat.le_refl _) _).trans (U.out.mono (by simp))⟩
  · clear u
    generalize wrS false 0 3 _ = t at hle ⊢
    go_wp2
    go_ret
    exact ⟨_, rfl, hle.out, (Below.alloc (Below.refl _ _) (Nat.le_refl _) _).trans (U.out.mono (by simp))⟩
end Go.Proofs.YtaokifbpakbgdaaGreatDoor

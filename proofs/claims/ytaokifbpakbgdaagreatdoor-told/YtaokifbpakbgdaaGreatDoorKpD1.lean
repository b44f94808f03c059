/-
  What the walk of described leans on: its rows, its tables, its end.
-/
import Derived.Test.YtaokifbpakbgdaaGreatDoorPut16
import Derived.Test.YtaokifbpakbgdaaGreatDoorPut17
namespace Go.Proofs.YtaokifbpakbgdaaGreatDoor
open Go.RowKit
theorem arr5 {xs : Array Value} (h : xs.size = 5) : ∃ x0 x1 x2 x3 x4, xs = #[x0, x1, x2, x3, x4] := by
  obtain ⟨l⟩ := xs
  match l, h with
  | [x0, x1, x2, x3, x4], _ => exact ⟨x0, x1, x2, x3, x4, rfl⟩
theorem cls.free {w : World} {b : Nat} {xs : Array Value} {T : TypeId} (h : cls w b xs T) (i : Nat) : w.frozen? ⟨b, i, none⟩ = false := by
  unfold cls at h
  simp [World.frozen?, h]
theorem cls_set5 {w : World} {b : Nat} {T : TypeId} {x0 x1 x2 x3 x4 : Value} (h : cls w b #[x0, x1, x2, x3, x4] T) (u0 u1 u2 u3 u4 : Value) : cls (((((w.setCell ⟨b, 0, none⟩ u0).setCell ⟨b, 1, none⟩ u1).setCell ⟨b, 2, none⟩ u2).setCell ⟨b, 3, none⟩ u3).setCell ⟨b, 4, none⟩ u4) b #[u0, u1, u2, u3, u4] T :=
  set_block (set_block (set_block (set_block (set_block h u0) u1) u2) u3) u4
theorem Below.set5 {B : Nat} {w w' : World} (h : Below B w w') {g : Nat} (hg : B ≤ g) (c0 c1 c2 c3 c4 : Value) : Below B w (((((w'.setCell ⟨g, 0, none⟩ c0).setCell ⟨g, 1, none⟩ c1).setCell ⟨g, 2, none⟩ c2).setCell ⟨g, 3, none⟩ c3).setCell ⟨g, 4, none⟩ c4) :=
  (Below.set4 h hg 0 1 2 3 c0 c1 c2 c3).setCell (p := ⟨g, 4, none⟩) hg _
/-- The cells of an element without items. -/
def FlC (c : List Value) (x : El 3) (b : List Nat) : Prop := b = [] ∧ c = [.int .i64 x.1, .string (bs x.2.1), .string (bs x.2.2.1), .slice none 0 0] ∧ x.2.2.2 = []
theorem own_lift {base : Nat} {w W w7 : World} {e : TypeId} {k n m : Nat} {v v6 : Value} {xs ys : List Value} (h0 : w.ownsRow base e k v n xs) (h6 : w7.ownsRow 0 e k v6 m ys) (hm : Moved W v v6) (hs : base ≤ W.heap.size) : w7.ownsRow base e k v6 m ys := by
  refine ⟨h6.1, ?_⟩
  rcases h6.2 with h | ⟨g, cap, cur, rfl, _, hr⟩
  · exact Or.inl h
  · refine Or.inr ⟨g, cap, cur, rfl, ?_, hr⟩
    rcases hm with e | h
    · exact (h0.lt g (by rw [← e]; rfl)).1
    · exact Nat.le_trans hs (h g (by simp [Value.ownBlock]))
theorem dig_last {l : Bs} (h : digitsB l = true) : l.getLast? ≠ some 32 := fun e => by
  have hm : (32 : UInt8) ∈ l := List.mem_of_getLast? e
  have := List.all_eq_true.1 h 32 hm
  exact absurd this (by decide)
theorem shr_bd (z : Int) (k : Nat) (hk : k < 7) (h1 : -9223372036854775808 ≤ z) (h2 : z ≤ 9223372036854775807) : -9223372036854775808 ≤ z / 2 ^ k ∧ z / 2 ^ k ≤ 9223372036854775807 := by
  rcases (show k = 0 ∨ k = 1 ∨ k = 2 ∨ k = 3 ∨ k = 4 ∨ k = 5 ∨ k = 6 by omega) with rfl | rfl | rfl | rfl | rfl | rfl | rfl <;> omega
theorem up_grow2 {w wr w2 : World} {e : TypeId} {k : Nat} {v : Value} {n : Nat} {xs : List Value} (hU : Below w.heap.size w wr) (hown : wr.ownsRow w.heap.size e k v n xs) (o : Obj) (hg : (wr.alloc o).grownBy w2 v.ownBlock) : Below w.heap.size w w2 := up_grow hU hown o hg
theorem up_grow3 {B : Nat} {w wr w2 : World} {e : TypeId} {k : Nat} {v : Value} {n : Nat} {xs : List Value} (hU : Below B w wr) (hown : wr.ownsRow B e k v n xs) (o : Obj) (hg : (wr.alloc o).grownBy w2 v.ownBlock) (hB : B ≤ wr.heap.size) : Below B w w2 :=
  Below.grown (Below.alloc hU hB o) hg (by simp; omega) (fun j hj => (hown.lt j hj).1)
theorem one_at' (w : World) (T : TypeId) (c0 : Value) (b : Nat) (hb : b = w.heap.size) : ∀ j u, [c0][j]? = some u → (w.alloc (.cells #[c0] T)).cell? ((⟨b, 0, none⟩ : Addr).add j) = some u := by
  subst hb
  exact one_at w T c0
/-- An item more: what lies in it, and all blocks apart. -/
theorem item_more {wY wr w23 w4 : World} {ul : ByteArray} {n : Nat} {zs : List Value} {its : Its 2} {cs : List Nat} {v : Value} (hul : LetS ul) (hn : n < 10) (hli : Ls 1 (ItK wr) zs its cs) (hni : New wY wr (v.ownBlock.toList ++ cs)) (hui : Below wY.heap.size wY wr) (X3 : Below wr.heap.size wr w23) (x4 : Below w23.heap.size w23 w4)
    (C4 : cls w4 w23.heap.size #[.int .i64 524544, .string (bs LO), .string ul, .slice none 0 0, .int .i64 524548, .string (bs LO), .string (bs (109 :: dgs 1 n)), .slice none 0 0] 73) :
    Ls 1 (ItK w4) zs its cs ∧ ItK w4 [.slice (some ⟨w23.heap.size, 0, none⟩) 2 2] (itW ul.data.toList (109 :: dgs 1 n)) [w23.heap.size] ∧ New wY w4 (v.ownBlock.toList ++ cs ++ [w23.heap.size]) := by
  have k := X3.trans (x4.mono X3.size)
  refine ⟨hli.mono (fun c s b hb _ h => ItK.keep _ _ _ _ _ h (fun j hj => k.block j (hni.2 j (List.mem_append_right _ (hb j hj))).2)), ⟨_, _, _, rfl, rfl, let_Nm hul, mean_Nm n hn, rfl, C4⟩, ?_⟩
  refine New.add hni ⟨by simp, fun j hj => ?_⟩ hui.size k.size
  rw [List.mem_singleton] at hj
  subst hj
  exact ⟨X3.size, C4.lt⟩
theorem nmL_take (p s e c : Nat) {k : Nat} (h : k < 4) : (nmL p s e c).take (k + 1) = (nmL p s e c).take k ++ [flE 2 (nameT k) (kindT (nameT k)) (nmP p s e c k)] := by
  rcases (show k = 0 ∨ k = 1 ∨ k = 2 ∨ k = 3 by omega) with rfl | rfl | rfl | rfl <;> rfl
def tab4 : List (Option Nat) := [none, none, none, none, none, none, some 23, none, none, none, none, none, none, none, none, none, none, none, none, none, none, none, none, none, none, none, none, none, none, none, none, none, none, none, none, none, none, some 0, some 1, some 2, some 3, some 4, some 5, some 6, some 7, some 8, some 9, some 10, some 11, some 12, some 13, some 14, some 15, some 16, some 17, some 18, some 19, some 20, some 21, some 22, none, none, none, none, none, none, none, none, none, none, none, none, none, none, none, none, none, none, none, none, none, none, none, none, none, none, none, none, none, none, none, none, none, none, none, none, none, none, none, none, none, none, none, none, none, none, none, none, none, none, none, none, none, none, none, none, none, none, none, none, none, none, none, none, none, none, none, none, none, none, none, none, none, none, none, none, none, none, none, none, none, none, none, none, none, none, none, none, none, none, none, none, none, none, none, none, none, none, none, none, none, none, none, none, none, none, none, none, none, none, none, none, none, none, none, none, none, none, none, none, none, none, none, none, none, none, none, none, none, none, none]
def VL4 (pb B p s e c : Nat) (z : Int) (a1 : Option Addr) (n1 c1 : Nat) : List (Value → World → Prop) :=
  [fun v _ => v = .int .i64 p,
   fun v _ => v = .string (bs (dgs 1 p)),
   fun v _ => v = .string (bs (nmP p s e c 0)),
   fun v _ => v = .int .i64 s,
   fun v _ => v = .int .i64 ((s : Int) + 10),
   fun v _ => v = .string (bs (dgs 2 (s + 10))),
   fun v _ => v = .string (bs (nmP p s e c 1)),
   fun v _ => v = .int .i64 e,
   fun v _ => v = .int .i64 ((e : Int) + 10),
   fun v _ => v = .string (bs (dgs 2 (e + 10))),
   fun v _ => v = .string (bs (nmP p s e c 2)),
   fun v _ => v = .int .i64 e,
   fun v _ => v = .int .i64 (7 * (e : Int)),
   fun v _ => v = .pointer (some ⟨pb, 0, none⟩),
   fun v _ => v = .slice a1 n1 c1,
   fun v _ => v = .int .i64 z,
   fun v _ => v = .int .i64 c,
   fun v _ => v = .int .i64 (7 * (e : Int) + c),
   fun v _ => v = .int .i64 (7 * (e : Int) + c + 100),
   fun v _ => v = .string (bs (dgs 3 (7 * e + c + 100))),
   fun v _ => v = .string (bs (nmP p s e c 3)),
   fun v _ => v = .agg #[.string (bs (nmP p s e c 0)), .string (bs (nmP p s e c 1)), .string (bs (nmP p s e c 2)), .string (bs (nmP p s e c 3))],
   fun v _ => v = factV (nmP p s e c) (.slice none 0 0),
   fun v W => ∃ g xs, v = .pointer (some ⟨g, 0, none⟩) ∧ B ≤ g ∧ cls W g xs 61 ∧ xs.size = 5]
theorem VL4.up {pb B p s e c : Nat} {z : Int} {a1 : Option Addr} {n1 c1 : Nat} {W W' : World} (hb : Below W.heap.size W W') : ∀ p' ∈ VL4 pb B p s e c z a1 n1 c1, ∀ u, p' u W → p' u W' :=
  List.forall_mem_cons.2 ⟨fun _ h => h, List.forall_mem_cons.2 ⟨fun _ h => h, List.forall_mem_cons.2 ⟨fun _ h => h, List.forall_mem_cons.2 ⟨fun _ h => h, List.forall_mem_cons.2 ⟨fun _ h => h, List.forall_mem_cons.2 ⟨fun _ h => h, List.forall_mem_cons.2 ⟨fun _ h => h, List.forall_mem_cons.2 ⟨fun _ h => h, List.forall_mem_cons.2 ⟨fun _ h => h, List.forall_mem_cons.2 ⟨fun _ h => h, List.forall_mem_cons.2 ⟨fun _ h => h, List.forall_mem_cons.2 ⟨fun _ h => h, List.forall_mem_cons.2 ⟨fun _ h => h, List.forall_mem_cons.2 ⟨fun _ h => h, List.forall_mem_cons.2 ⟨fun _ h => h, List.forall_mem_cons.2 ⟨fun _ h => h, List.forall_mem_cons.2 ⟨fun _ h => h, List.forall_mem_cons.2 ⟨fun _ h => h, List.forall_mem_cons.2 ⟨fun _ h => h, List.forall_mem_cons.2 ⟨fun _ h => h, List.forall_mem_cons.2 ⟨fun _ h => h, List.forall_mem_cons.2 ⟨fun _ h => h, List.forall_mem_cons.2 ⟨fun _ h => h, List.forall_mem_cons.2 ⟨fun _ ⟨g, xs, h1, h2, h3, h4⟩ => ⟨g, xs, h1, h2, h3.up hb, h4⟩, List.forall_mem_nil _⟩⟩⟩⟩⟩⟩⟩⟩⟩⟩⟩⟩⟩⟩⟩⟩⟩⟩⟩⟩⟩⟩⟩⟩
def tab14 : List (Option Nat) := [none, none, none, none, none, none, none, none, none, none, none, none, none, none, none, none, none, none, none, none, none, none, none, none, none, none, none, none, none, none, none, none, none, none, none, none, none, none, none, none, none, none, none, none, none, none, none, none, none, none, none, none, none, none, none, none, none, none, none, none, none, none, none, none, none, none, none, none, none, none, none, none, none, none, none, none, none, none, none, none, none, none, none, none, none, none, none, none, none, none, none, none, none, none, some 0, some 1, some 2, some 3, some 4, some 5, some 6, some 7, some 8, some 9, some 10, some 11, some 12, some 13, some 14, some 15, some 16, some 17, some 18, some 19, some 20, some 21, some 22, some 23, some 24, some 25, some 26, some 27, some 28, some 29, some 30, some 31, some 32, some 33, some 34, some 35, some 36, some 37, some 38, some 39, none, none, none, none, none, none, none, none, none, none, none, none, none, none, none, none, none, none, none, none, none, none, none, none, none, none, none, none, none, none, none, none, none, none, none, none, none, none, none, none, none, none, none, none, none, none, none, none, none, none, none, none, none, none, none, none, none]
def VL14 (pb B n2 c2 k5 k6 k7 : Nat) (Z2 : Nat → Int) (a2 : Option Addr) (sd st : ByteArray) : List (Value → World → Prop) :=
  [fun v _ => v = .pointer (some ⟨pb, 1, none⟩),
   fun v _ => v = .slice a2 n2 c2,
   fun v _ => v = .int .i64 (rawI n2 Z2 2),
   fun v _ => v = .pointer (some ⟨pb, 1, none⟩),
   fun v _ => v = .slice a2 n2 c2,
   fun v _ => v = .int .i64 (rawI n2 Z2 3),
   fun v W => ∃ b, v = .slice (some ⟨b, 0, none⟩) 2 2 ∧ Ints W b 0 2 (fun j => rawI n2 Z2 (2 + j)),
   fun v _ => ∃ u, v = .string u ∧ LetS u,
   fun v _ => ∃ u, v = .agg #[.int .i64 1048592, .string ⟨#[80, 78]⟩, .string u, .slice none 0 0] ∧ LetS u,
   fun v _ => v = .string sd,
   fun v _ => v = .agg #[.int .i64 524320, .string ⟨#[68, 65]⟩, .string sd, .slice none 0 0],
   fun v _ => v = .string st,
   fun v _ => v = .agg #[.int .i64 524336, .string ⟨#[84, 77]⟩, .string st, .slice none 0 0],
   fun v _ => v = .pointer (some ⟨pb, 1, none⟩),
   fun v _ => v = .slice a2 n2 c2,
   fun v _ => v = .int .i64 (rawI n2 Z2 4),
   fun v W => ∃ b, v = .slice (some ⟨b, 0, none⟩) 1 1 ∧ Ints W b 0 1 (fun j => rawI n2 Z2 (4 + j)),
   fun v _ => ∃ u, v = .string u ∧ LetS u,
   fun v _ => ∃ u, v = .agg #[.int .i64 524368, .string ⟨#[76, 79]⟩, .string u, .slice none 0 0] ∧ LetS u,
   fun v W => ∃ b, v = .slice (some ⟨b, 0, none⟩) 3 3 ∧ cls W b #[.string ⟨#[67, 84]⟩, .string ⟨#[77, 82]⟩, .string ⟨#[85, 83]⟩] 9,
   fun v _ => v = .pointer (some ⟨pb, 1, none⟩),
   fun v _ => v = .slice a2 n2 c2,
   fun v _ => v = .int .i64 (rawI n2 Z2 5),
   fun v _ => v = .int .i64 (k5 : Nat),
   fun v W => ∃ b, v = .pointer (some ⟨b, k5, none⟩) ∧ W.cell? ⟨b, k5, none⟩ = some (.string (bs (way k5))),
   fun v _ => v = .string (bs (way k5)),
   fun v _ => v = .agg #[.int .i64 524384, .string ⟨#[67, 83]⟩, .string (bs (way k5)), .slice none 0 0],
   fun v _ => v = .pointer (some ⟨pb, 1, none⟩),
   fun v _ => v = .slice a2 n2 c2,
   fun v _ => v = .int .i64 (rawI n2 Z2 6),
   fun v _ => v = .int .i64 (k6 : Nat),
   fun v _ => v = .string (bs (dgs 2 k6)),
   fun v _ => v = .agg #[.int .i64 2097169, .string ⟨#[73, 83]⟩, .string (bs (dgs 2 k6)), .slice none 0 0],
   fun v _ => v = .pointer (some ⟨pb, 1, none⟩),
   fun v _ => v = .slice a2 n2 c2,
   fun v _ => v = .int .i64 (rawI n2 Z2 7),
   fun v _ => v = .int .i64 (k7 : Nat),
   fun v _ => v = .string (bs (dgs 1 k7)),
   fun v _ => v = .agg #[.int .i64 2097171, .string ⟨#[73, 83]⟩, .string (bs (dgs 1 k7)), .slice none 0 0],
   fun v W => ∃ b u1 u2, v = .slice (some ⟨b, 0, none⟩) 7 7 ∧ B ≤ b ∧ cls W b (vals7 sd st u1 u2 k5 k6 k7) 73 ∧ LetS u1 ∧ LetS u2]
theorem VL14.up {pb B n2 c2 k5 k6 k7 : Nat} {Z2 : Nat → Int} {a2 : Option Addr} {sd st : ByteArray} {W W' : World} (hb : Below W.heap.size W W') : ∀ p' ∈ VL14 pb B n2 c2 k5 k6 k7 Z2 a2 sd st, ∀ u, p' u W → p' u W' :=
  List.forall_mem_cons.2 ⟨fun _ h => h, List.forall_mem_cons.2 ⟨fun _ h => h, List.forall_mem_cons.2 ⟨fun _ h => h, List.forall_mem_cons.2 ⟨fun _ h => h, List.forall_mem_cons.2 ⟨fun _ h => h, List.forall_mem_cons.2 ⟨fun _ h => h, List.forall_mem_cons.2 ⟨fun _ ⟨b, h1, h2⟩ => ⟨b, h1, h2.up hb⟩, List.forall_mem_cons.2 ⟨fun _ h => h, List.forall_mem_cons.2 ⟨fun _ h => h, List.forall_mem_cons.2 ⟨fun _ h => h, List.forall_mem_cons.2 ⟨fun _ h => h, List.forall_mem_cons.2 ⟨fun _ h => h, List.forall_mem_cons.2 ⟨fun _ h => h, List.forall_mem_cons.2 ⟨fun _ h => h, List.forall_mem_cons.2 ⟨fun _ h => h, List.forall_mem_cons.2 ⟨fun _ h => h, List.forall_mem_cons.2 ⟨fun _ ⟨b, h1, h2⟩ => ⟨b, h1, h2.up hb⟩, List.forall_mem_cons.2 ⟨fun _ h => h, List.forall_mem_cons.2 ⟨fun _ h => h, List.forall_mem_cons.2 ⟨fun _ ⟨b, h1, h2⟩ => ⟨b, h1, h2.up hb⟩, List.forall_mem_cons.2 ⟨fun _ h => h, List.forall_mem_cons.2 ⟨fun _ h => h, List.forall_mem_cons.2 ⟨fun _ h => h, List.forall_mem_cons.2 ⟨fun _ h => h, List.forall_mem_cons.2 ⟨fun _ ⟨b, h1, h2⟩ => ⟨b, h1, (hb.cell (World.block_lt_of_cell? _ _ h2)).trans h2⟩, List.forall_mem_cons.2 ⟨fun _ h => h, List.forall_mem_cons.2 ⟨fun _ h => h, List.forall_mem_cons.2 ⟨fun _ h => h, List.forall_mem_cons.2 ⟨fun _ h => h, List.forall_mem_cons.2 ⟨fun _ h => h, List.forall_mem_cons.2 ⟨fun _ h => h, List.forall_mem_cons.2 ⟨fun _ h => h, List.forall_mem_cons.2 ⟨fun _ h => h, List.forall_mem_cons.2 ⟨fun _ h => h, List.forall_mem_cons.2 ⟨fun _ h => h, List.forall_mem_cons.2 ⟨fun _ h => h, List.forall_mem_cons.2 ⟨fun _ h => h, List.forall_mem_cons.2 ⟨fun _ h => h, List.forall_mem_cons.2 ⟨fun _ h => h, List.forall_mem_cons.2 ⟨fun _ ⟨b, u1, u2, h1, h2, h3, h4⟩ => ⟨b, u1, u2, h1, h2, h3.up hb, h4⟩, List.forall_mem_nil _⟩⟩⟩⟩⟩⟩⟩⟩⟩⟩⟩⟩⟩⟩⟩⟩⟩⟩⟩⟩⟩⟩⟩⟩⟩⟩⟩⟩⟩⟩⟩⟩⟩⟩⟩⟩⟩⟩⟩⟩
theorem ints2 (W : World) (x y : Int) (h1 : -9223372036854775808 ≤ x ∧ x ≤ 9223372036854775807) (h2 : -9223372036854775808 ≤ y ∧ y ≤ 9223372036854775807) {Z : Nat → Int} (e1 : Z 0 = x) (e2 : Z 1 = y) : Ints (W.alloc (.cells #[.int .i64 x, .int .i64 y] 3)) W.heap.size 0 2 Z := by
  intro j hj
  have hb : cls (W.alloc (.cells #[.int .i64 x, .int .i64 y] 3)) W.heap.size #[.int .i64 x, .int .i64 y] 3 := heap_alloc_new _ _
  rcases (show j = 0 ∨ j = 1 by omega) with rfl | rfl
  · rw [e1]; exact ⟨hb.at rfl, h1⟩
  · rw [e2]; exact ⟨hb.at rfl, h2⟩
theorem ints1 (W : World) (x : Int) (h1 : -9223372036854775808 ≤ x ∧ x ≤ 9223372036854775807) {Z : Nat → Int} (e1 : Z 0 = x) : Ints (W.alloc (.cells #[.int .i64 x] 3)) W.heap.size 0 1 Z := by
  intro j hj
  have hb : cls (W.alloc (.cells #[.int .i64 x] 3)) W.heap.size #[.int .i64 x] 3 := heap_alloc_new _ _
  obtain rfl : j = 0 := by omega
  rw [e1]; exact ⟨hb.at rfl, h1⟩
theorem way_at {W : World} {b k : Nat} (h : cls W b #[.string ⟨#[67, 84]⟩, .string ⟨#[77, 82]⟩, .string ⟨#[85, 83]⟩] 9) (hk : k < 3) : W.cell? ⟨b, k, none⟩ = some (.string (bs (way k))) := by
  rcases (show k = 0 ∨ k = 1 ∨ k = 2 by omega) with rfl | rfl | rfl <;> exact h.at rfl
theorem fl_cp {w : World} {F : Nat → Prop} {ys : List Value} {l : List (El 3)} (h : Ls 4 FlC ys l []) : Ls 4 (CpE w F 2) ys l [] :=
  h.mono (fun c x b _ _ k => by
    obtain ⟨h1, h2, h3⟩ := k
    refine ⟨h1, _, h2, ?_⟩
    rw [h3]
    exact RdI.nil _ _ _)
/-- A row of elements without items reads. -/
theorem fl_rd {W : World} {base : Nat} {v : Value} {ys : List Value} {l : List (El 3)} {m : Nat} (O : W.ownsRow base 73 4 v m ys) (hm : m = l.length) (L : Ls 4 FlC ys l []) {F : Nat → Prop} (hF : ∀ j ∈ v.ownBlock.toList, F j) : Rd W F 3 v l :=
  rd_cp (w := W) (F := F) (n := 2) (b := v.ownBlock.toList) ⟨ys, [], by rw [← hm]; exact ownsRow_low O, fl_cp L, by simp⟩ (Below.refl _ _) (fun _ h => h) hF
/-- An element of items. -/
def prE (its : Its 2) : El 3 := (533016, SQ, [], its)
/-- ... and one with items behind it. -/
theorem parts_rd {wY wr w8 : World} {v8 iv : Value} {ys zs : List Value} {l : List (El 3)} {its : Its 2} {cs : List Nat} {m q : Nat} {F : Nat → Prop} (hown8 : w8.ownsRow 0 73 4 v8 (m + 1) (ys ++ [.int .i64 533016, .string (bs SQ), .string (bs []), iv])) (hm : m = l.length) (L : Ls 4 FlC ys l [])
    (hoi : wr.ownsRow 0 182 1 iv q zs) (hli : Ls 1 (ItK wr) zs its cs) (hil : its.length = q) (hni : New wY wr (iv.ownBlock.toList ++ cs)) (hk : ∀ j, wY.heap.size ≤ j → j < wr.heap.size → w8.heap[j]? = wr.heap[j]?) (hF : ∀ j, wY.heap.size ≤ j → j < wr.heap.size → F j) (hF8 : ∀ j ∈ v8.ownBlock.toList, F j) :
    Rd w8 F 3 v8 (l ++ [prE its]) := by
  have h1 : RdI wr (fun j => wY.heap.size ≤ j ∧ j < wr.heap.size) 2 iv its := its_rd ⟨zs, cs, by rw [hil]; exact hoi, hli, rfl⟩ (fun j hj => hni.2 j hj)
  have h2 : RdI w8 F 2 iv its := h1.keep (fun j hj => hF j hj.1 hj.2) (fun j hj _ => hk j hj.1 hj.2)
  refine rd_cp (w := w8) (F := F) (n := 2) (b := v8.ownBlock.toList) ⟨_, [], by rw [List.length_append, ← hm]; exact hown8, Ls.snoc (k := 4) (R := CpE w8 F 2) (c := [.int .i64 533016, .string (bs SQ), .string (bs []), iv]) (x := prE its) (b := []) rfl ⟨rfl, iv, rfl, h2⟩ (fl_cp L), by simp⟩ (Below.refl _ _) (fun _ h => h) hF8
theorem its_dok {wr : World} {zs : List Value} {its : Its 2} {cs : List Nat} (hli : Ls 1 (ItK wr) zs its cs) (h2 : its.length ≤ 2) : DOk (prE its) := by
  unfold prE
  refine dok_parts h2 (fun s hs => ?_)
  obtain ⟨i, hi⟩ := List.getElem?_of_mem hs
  obtain ⟨c, b, ⟨gb, v1, v2, _, _, k1, k2, k3, _⟩, _⟩ := hli.at i s hi
  exact ⟨v1, v2, k1, k2, k3⟩
/-- What the call gives: a fact, its set in new blocks. -/
def FactEnd (w : World) (e : Ending) (w' : World) : Prop := ∃ (sv : Value) (l : List (El 3)), e = .returned (factV (fun i => nm (n := 2) i l) sv) ∧ Below w.heap.size w w' ∧ Rd w' (fun j => w.heap.size ≤ j ∧ j < w'.heap.size) 3 sv l ∧ Desc l
theorem nmL_nm {p s e c : Nat} {r : List (El 3)} (hr : (r.map (·.1)).Sublist restT) : ∀ i, i < 4 → nm (n := 2) i (srtE (n := 2) (nmL p s e c ++ r)) = nmP p s e c i := fun i hi => by
  have hnd : ((nmL p s e c ++ r).map (·.1)).Nodup := by
    rw [List.map_append]
    have hs : ((nmL p s e c).map (·.1) ++ r.map (·.1)).Sublist ([1048608, 2097165, 2097166, 524312] ++ restT) := List.Sublist.append (List.Sublist.refl _) hr
    exact hs.nodup (by decide)
  unfold nm
  rw [textE_srt hnd]
  have : findE (n := 2) (nmL p s e c ++ r) (nameT i) = some (flE 2 (nameT i) (if i = 0 then [76, 79] else [85, 73]) (nmP p s e c i)) := by
    refine (findE_iff hnd).2 ⟨List.mem_append_left _ ?_, rfl⟩
    unfold nmL
    rcases (show i = 0 ∨ i = 1 ∨ i = 2 ∨ i = 3 by omega) with rfl | rfl | rfl | rfl
    · exact List.mem_cons_self
    · exact List.mem_cons_of_mem _ List.mem_cons_self
    · exact List.mem_cons_of_mem _ (List.mem_cons_of_mem _ List.mem_cons_self)
    · exact List.mem_cons_of_mem _ (List.mem_cons_of_mem _ (List.mem_cons_of_mem _ List.mem_cons_self))
  unfold textE
  rw [this]
  rfl
theorem desc_fin {w wZ w9 wE : World} {B : Nat} {p s e c : Nat} {r : List (El 3)} {v9 : Value} (hNO : NumsOk p s e c) (hr : (r.map (·.1)).Sublist restT) (hx : ∀ x ∈ r, DOk x) (hB : w.heap.size + 1 < B) (hBZ : B ≤ wZ.heap.size) (u9 : Below wZ.heap.size wZ w9)
    (hr9 : Row w9 73 4 (CpE wZ (fun j => B ≤ j ∧ j < wZ.heap.size) 2) v9 (srtE (n := 2) (nmL p s e c ++ r)) v9.ownBlock.toList) (hn9 : New wZ w9 v9.ownBlock.toList)
    (hE : Below w.heap.size w wE) (hs : w9.heap.size ≤ wE.heap.size) (hk : ∀ j, B ≤ j → wE.heap[j]? = w9.heap[j]?) : FactEnd w (.returned (factV (nmP p s e c) v9)) wE := by
  have hq := rd_cp (F' := fun j => B ≤ j ∧ j < w9.heap.size) hr9 u9 (fun j hj => ⟨hj.1, Nat.lt_of_lt_of_le hj.2 u9.size⟩) (fun j hj => ⟨Nat.le_trans hBZ (hn9.2 j hj).1, (hn9.2 j hj).2⟩)
  have hn := nmL_nm (p := p) (s := s) (e := e) (c := c) hr
  refine ⟨v9, _, ?_, hE, Rd.keep (w := w9) (F := fun j => B ≤ j ∧ j < w9.heap.size) (fun j hj => ⟨by omega, by omega⟩) (fun j hj _ => hk j hj.1) 3 v9 _ hq, desc_mk hNO hr hx⟩
  unfold factV
  rw [← hn 0 (by decide), ← hn 1 (by decide), ← hn 2 (by decide), ← hn 3 (by decide)]
theorem desc_fin2 {w w6 wZ w9 : World} {G : Nat} {p s e c : Nat} {r : List (El 3)} {v9 : Value} (hNO : NumsOk p s e c) (hr : (r.map (·.1)).Sublist restT) (hx : ∀ x ∈ r, DOk x) (V8 : Below w.heap.size w w6) (XZ : Below w6.heap.size w6 wZ) (u9 : Below wZ.heap.size wZ w9)
    (hr9 : Row w9 73 4 (CpE wZ (fun j => w6.heap.size ≤ j ∧ j < wZ.heap.size) 2) v9 (srtE (n := 2) (nmL p s e c ++ r)) v9.ownBlock.toList) (hn9 : New wZ w9 v9.ownBlock.toList) (hR : w.heap.size + 1 < w6.heap.size) (hG : w.heap.size ≤ G ∧ G < w6.heap.size) (u0 u1 u2 u3 u4 u5 : Value) :
    FactEnd w (.returned (factV (nmP p s e c) v9)) ((((((w9.setCell ⟨G, 4, none⟩ u0).setCell ⟨w.heap.size + 1, 0, none⟩ u1).setCell ⟨w.heap.size + 1, 1, none⟩ u2).setCell ⟨w.heap.size + 1, 2, none⟩ u3).setCell ⟨w.heap.size + 1, 3, none⟩ u4).setCell ⟨w.heap.size + 1, 4, none⟩ u5) := by
  have b9 : Below w.heap.size w w9 := (V8.trans (XZ.mono V8.size)).trans (u9.mono (Nat.le_trans V8.size XZ.size))
  refine desc_fin (B := w6.heap.size) hNO hr hx hR XZ.size u9 hr9 hn9 (Below.set5 (b9.setCell (p := ⟨G, 4, none⟩) hG.1 u0) (by omega) u1 u2 u3 u4 u5) (by simp) (fun j hj => ?_)
  have hs : ∀ (W : World) (b i : Nat) (u : Value), j ≠ b → (W.setCell ⟨b, i, none⟩ u).heap[j]? = W.heap[j]? := fun W b i u h => Below.heap_setCell _ _ _ _ (by exact h)
  rw [hs _ _ _ _ (by omega), hs _ _ _ _ (by omega), hs _ _ _ _ (by omega), hs _ _ _ _ (by omega), hs _ _ _ _ (by omega), hs _ _ _ _ (by omega)]
end Go.Proofs.YtaokifbpakbgdaaGreatDoor

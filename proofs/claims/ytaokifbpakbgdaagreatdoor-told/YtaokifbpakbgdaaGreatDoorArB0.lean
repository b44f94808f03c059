/-
  One region of byName ('named[name] = append(named[name], p)'), in whatever order its operations come: one theorem for each set of operations that are done, the last first (by program: wip/tools/genreg.py).
-/
import Derived.Test.YtaokifbpakbgdaaGreatDoorPut10
import Derived.Shelf.RegionOpen
namespace Go.Proofs.YtaokifbpakbgdaaGreatDoor
open Go.RowKit Go.Maps Go.Shelf
attribute [local go_sem] Oper.semAt_some

abbrev regOps : Array Oper := #[{ dst := some 17, op := Op.load 136 (Operand.tmp 5), type := 136, pos := "level.go:29", after := #[], guard := none }, { dst := some 18, op := Op.move (Operand.tmp 7), type := 9, pos := "level.go:29", after := #[], guard := none }, { dst := some 19, op := Op.load 136 (Operand.tmp 5), type := 136, pos := "level.go:29", after := #[], guard := none }, { dst := some 20, op := Op.move (Operand.tmp 7), type := 9, pos := "level.go:29", after := #[], guard := none }, { dst := some 21, op := Op.lookup 136 (Operand.tmp 19) (Operand.tmp 20) false, type := 144, pos := "level.go:29", after := #[{ on := 2, ground := Ground.data }, { on := 3, ground := Ground.data }], guard := none }, { dst := some 22, op := Op.load 131 (Operand.tmp 6), type := 131, pos := "level.go:29", after := #[], guard := none }, { dst := some 23, op := Op.buildSlice 144 1 #[(0, Operand.tmp 22)], type := 144, pos := "level.go:29", after := #[{ on := 5, ground := Ground.data }], guard := none }, { dst := some 24, op := Op.call { callee := Callee.builtin Builtin.append, args := #[Operand.tmp 21, Operand.tmp 23], argTypes := #[144, 144] }, type := 144, pos := "level.go:29", after := #[{ on := 4, ground := Ground.data }, { on := 6, ground := Ground.data }], guard := none }, { dst := none, op := Op.mapUpdate 136 (Operand.tmp 17) (Operand.tmp 18) (Operand.tmp 24), type := 0, pos := "level.go:29", after := #[{ on := 0, ground := Ground.data }, { on := 1, ground := Ground.data }, { on := 7, ground := Ground.data }, { on := 7, ground := Ground.chain }, { on := 0, ground := Ground.phase }, { on := 1, ground := Ground.phase }, { on := 2, ground := Ground.phase }, { on := 3, ground := Ground.phase }, { on := 4, ground := Ground.phase }, { on := 5, ground := Ground.phase }, { on := 6, ground := Ground.phase }, { on := 7, ground := Ground.phase }], guard := none }]
abbrev regQ (W3 : World) : Exit → Act → World → Prop := fun e _ w' => e = Exit.normal ∧ w' = W3
theorem allReady_append {F : Fence} {n : Nat} {P : Program} {md : Region.Mode} {ops : Array Oper} {Q : Exit → Act → World → Prop} {fuel : Nat} {listed : Array Bool} {a : Act} {w : World} {i : Nat} {o : Oper} {rs : List Nat} (ho : ops[i]? = some o) (hg : o.guard = none)
    (s x : Operand) (t : TypeId) (hop : o.op = Op.call { callee := Callee.builtin Builtin.append, args := #[s, x], argTypes := #[t, t] }) (v' : Value) (w' : World)
    (hrun : (Builtin.append_ #[t, t] o.type #[a.eval s, a.eval x]).run P w = .ok v' w') (hK : wpAnyIn F n P md ops Q fuel (listed.setIfInBounds i true) (a.put o.dst v') w')
    (hs : AllReadyIn F n P md ops Q fuel listed a w rs) : AllReadyIn F n P md ops Q fuel listed a w (i :: rs) := by
  refine AllReadyIn.cons ho (fun K hK' => ?_) hs
  simp only [Region.wanted, hg, if_true]
  unfold Oper.wpIn
  refine ⟨?_, ?_⟩
  · simp [Oper.about, hop, resolve, Target.leads, Sem.run_pure]
  · rw [Oper.semAt_plain F _ _ (by rw [hop]; intro c hc'; cases hc')]
    simp [execOp, hop, resolve, invoke, builtin, hrun, Result.andThen]
    exact hK' _ _ hK

set_option linter.unusedVariables false
set_option linter.unusedSectionVars false
set_option maxRecDepth 100000
set_option maxHeartbeats 2000000
section
variable (l : Nat) (Wa W2 W3 : World) (bN nb Bx d : Nat) (t : Int) (s : ByteArray) (v v' : Value) (a0 a1 a2 a3 a4 a8 a9 a10 a11 a12 a13 a14 a15 a16 : Value)
    (d1 : Wa.cell? ⟨bN, 0, none⟩ = some (.map (some nb))) (d2 : Wa.cell? ⟨Bx, 0, none⟩ = some (.map (some d))) (d3 : Wa.cell? ⟨Bx, 1, none⟩ = some (.int .i64 t)) (d4 : (Wa.alloc (.cells #[.map (some d), .int .i64 t] 131)).cell? ⟨bN, 0, none⟩ = some (.map (some nb))) (d5 : W2.cell? ⟨bN, 0, none⟩ = some (.map (some nb)))
    (r1 : (Instr.lookup 136 (.map (some nb)) (.string s) false).run Tryz.prog Wa.drew = .ok v Wa.drew)
    (r2 : (Instr.lookup 136 (.map (some nb)) (.string s) false).run Tryz.prog (Wa.alloc (.cells #[.map (some d), .int .i64 t] 131)).drew = .ok v (Wa.alloc (.cells #[.map (some d), .int .i64 t] 131)).drew)
    (r3 : (Builtin.append_ #[144, 144] 144 #[v, .slice (some ⟨Wa.heap.size, 0, none⟩) 1 1]).run Tryz.prog (Wa.alloc (.cells #[.map (some d), .int .i64 t] 131)).drew = .ok v' W2)
    (r4 : (Instr.mapUpdate 136 (.map (some nb)) (.string s) v').run Tryz.prog W2 = .ok () W3)
include l Wa W2 W3 bN nb Bx d t s v v' a0 a1 a2 a3 a4 a8 a9 a10 a11 a12 a13 a14 a15 a16 d1 d2 d3 d4 d5 r1 r2 r3 r4
theorem ra_111111111 :
    wpAnyIn (Fence.wide.inRound l) 7 Tryz.prog .any regOps (regQ W3) 0 #[true, true, true, true, true, true, true, true, true] { tmps := #[a0, a1, a2, a3, a4, .pointer (some ⟨bN, 0, none⟩), .pointer (some ⟨Bx, 0, none⟩), .string s, a8, a9, a10, a11, a12, a13, a14, a15, a16, .map (some nb), .string s, .map (some nb), .string s, v, .agg #[.map (some d), .int .i64 t], .slice (some ⟨Wa.heap.size, 0, none⟩) 1 1, v', undef], defers := [] } W3 := by
  exact wpAnyIn_done (by kernel_rfl) ⟨rfl, rfl⟩ _
theorem ra_111111110 :
    wpAnyIn (Fence.wide.inRound l) 7 Tryz.prog .any regOps (regQ W3) 1 #[true, true, true, true, true, true, true, true, false] { tmps := #[a0, a1, a2, a3, a4, .pointer (some ⟨bN, 0, none⟩), .pointer (some ⟨Bx, 0, none⟩), .string s, a8, a9, a10, a11, a12, a13, a14, a15, a16, .map (some nb), .string s, .map (some nb), .string s, v, .agg #[.map (some d), .int .i64 t], .slice (some ⟨Wa.heap.size, 0, none⟩) 1 1, v', undef], defers := [] } W2 := by
  refine wpAnyIn_ready (rs := [8]) (by kernel_rfl) (by simp) ?_
  refine AllReadyIn.cons rfl (fun K hK => ?_) ?_
  · go_simp
    exact hK _ _ (ra_111111111 l Wa W2 W3 bN nb Bx d t s v v' a0 a1 a2 a3 a4 a8 a9 a10 a11 a12 a13 a14 a15 a16 d1 d2 d3 d4 d5 r1 r2 r3 r4)
  exact AllReadyIn.nil
theorem ra_011111110 :
    wpAnyIn (Fence.wide.inRound l) 7 Tryz.prog .any regOps (regQ W3) 2 #[false, true, true, true, true, true, true, true, false] { tmps := #[a0, a1, a2, a3, a4, .pointer (some ⟨bN, 0, none⟩), .pointer (some ⟨Bx, 0, none⟩), .string s, a8, a9, a10, a11, a12, a13, a14, a15, a16, undef, .string s, .map (some nb), .string s, v, .agg #[.map (some d), .int .i64 t], .slice (some ⟨Wa.heap.size, 0, none⟩) 1 1, v', undef], defers := [] } W2 := by
  refine wpAnyIn_ready (rs := [0]) (by kernel_rfl) (by simp) ?_
  refine AllReadyIn.cons rfl (fun K hK => ?_) ?_
  · go_simp
    exact hK _ _ (ra_111111110 l Wa W2 W3 bN nb Bx d t s v v' a0 a1 a2 a3 a4 a8 a9 a10 a11 a12 a13 a14 a15 a16 d1 d2 d3 d4 d5 r1 r2 r3 r4)
  exact AllReadyIn.nil
theorem ra_101111110 :
    wpAnyIn (Fence.wide.inRound l) 7 Tryz.prog .any regOps (regQ W3) 2 #[true, false, true, true, true, true, true, true, false] { tmps := #[a0, a1, a2, a3, a4, .pointer (some ⟨bN, 0, none⟩), .pointer (some ⟨Bx, 0, none⟩), .string s, a8, a9, a10, a11, a12, a13, a14, a15, a16, .map (some nb), undef, .map (some nb), .string s, v, .agg #[.map (some d), .int .i64 t], .slice (some ⟨Wa.heap.size, 0, none⟩) 1 1, v', undef], defers := [] } W2 := by
  refine wpAnyIn_ready (rs := [1]) (by kernel_rfl) (by simp) ?_
  refine AllReadyIn.cons rfl (fun K hK => ?_) ?_
  · go_simp
    exact hK _ _ (ra_111111110 l Wa W2 W3 bN nb Bx d t s v v' a0 a1 a2 a3 a4 a8 a9 a10 a11 a12 a13 a14 a15 a16 d1 d2 d3 d4 d5 r1 r2 r3 r4)
  exact AllReadyIn.nil
theorem ra_111111100 :
    wpAnyIn (Fence.wide.inRound l) 7 Tryz.prog .any regOps (regQ W3) 2 #[true, true, true, true, true, true, true, false, false] { tmps := #[a0, a1, a2, a3, a4, .pointer (some ⟨bN, 0, none⟩), .pointer (some ⟨Bx, 0, none⟩), .string s, a8, a9, a10, a11, a12, a13, a14, a15, a16, .map (some nb), .string s, .map (some nb), .string s, v, .agg #[.map (some d), .int .i64 t], .slice (some ⟨Wa.heap.size, 0, none⟩) 1 1, undef, undef], defers := [] } (Wa.alloc (.cells #[.map (some d), .int .i64 t] 131)).drew := by
  refine wpAnyIn_ready (rs := [7]) (by kernel_rfl) (by simp) ?_
  refine allReady_append rfl rfl (.tmp 21) (.tmp 23) 144 rfl v' W2 r3 (by go_simp; exact ra_111111110 l Wa W2 W3 bN nb Bx d t s v v' a0 a1 a2 a3 a4 a8 a9 a10 a11 a12 a13 a14 a15 a16 d1 d2 d3 d4 d5 r1 r2 r3 r4) ?_
  exact AllReadyIn.nil
theorem ra_011111100 :
    wpAnyIn (Fence.wide.inRound l) 7 Tryz.prog .any regOps (regQ W3) 3 #[false, true, true, true, true, true, true, false, false] { tmps := #[a0, a1, a2, a3, a4, .pointer (some ⟨bN, 0, none⟩), .pointer (some ⟨Bx, 0, none⟩), .string s, a8, a9, a10, a11, a12, a13, a14, a15, a16, undef, .string s, .map (some nb), .string s, v, .agg #[.map (some d), .int .i64 t], .slice (some ⟨Wa.heap.size, 0, none⟩) 1 1, undef, undef], defers := [] } (Wa.alloc (.cells #[.map (some d), .int .i64 t] 131)).drew := by
  refine wpAnyIn_ready (rs := [0, 7]) (by kernel_rfl) (by simp) ?_
  refine AllReadyIn.cons rfl (fun K hK => ?_) ?_
  · go_simp
    exact hK _ _ (ra_111111100 l Wa W2 W3 bN nb Bx d t s v v' a0 a1 a2 a3 a4 a8 a9 a10 a11 a12 a13 a14 a15 a16 d1 d2 d3 d4 d5 r1 r2 r3 r4)
  refine allReady_append rfl rfl (.tmp 21) (.tmp 23) 144 rfl v' W2 r3 (by go_simp; exact ra_011111110 l Wa W2 W3 bN nb Bx d t s v v' a0 a1 a2 a3 a4 a8 a9 a10 a11 a12 a13 a14 a15 a16 d1 d2 d3 d4 d5 r1 r2 r3 r4) ?_
  exact AllReadyIn.nil
theorem ra_101111100 :
    wpAnyIn (Fence.wide.inRound l) 7 Tryz.prog .any regOps (regQ W3) 3 #[true, false, true, true, true, true, true, false, false] { tmps := #[a0, a1, a2, a3, a4, .pointer (some ⟨bN, 0, none⟩), .pointer (some ⟨Bx, 0, none⟩), .string s, a8, a9, a10, a11, a12, a13, a14, a15, a16, .map (some nb), undef, .map (some nb), .string s, v, .agg #[.map (some d), .int .i64 t], .slice (some ⟨Wa.heap.size, 0, none⟩) 1 1, undef, undef], defers := [] } (Wa.alloc (.cells #[.map (some d), .int .i64 t] 131)).drew := by
  refine wpAnyIn_ready (rs := [1, 7]) (by kernel_rfl) (by simp) ?_
  refine AllReadyIn.cons rfl (fun K hK => ?_) ?_
  · go_simp
    exact hK _ _ (ra_111111100 l Wa W2 W3 bN nb Bx d t s v v' a0 a1 a2 a3 a4 a8 a9 a10 a11 a12 a13 a14 a15 a16 d1 d2 d3 d4 d5 r1 r2 r3 r4)
  refine allReady_append rfl rfl (.tmp 21) (.tmp 23) 144 rfl v' W2 r3 (by go_simp; exact ra_101111110 l Wa W2 W3 bN nb Bx d t s v v' a0 a1 a2 a3 a4 a8 a9 a10 a11 a12 a13 a14 a15 a16 d1 d2 d3 d4 d5 r1 r2 r3 r4) ?_
  exact AllReadyIn.nil
theorem ra_111101100 :
    wpAnyIn (Fence.wide.inRound l) 7 Tryz.prog .any regOps (regQ W3) 3 #[true, true, true, true, false, true, true, false, false] { tmps := #[a0, a1, a2, a3, a4, .pointer (some ⟨bN, 0, none⟩), .pointer (some ⟨Bx, 0, none⟩), .string s, a8, a9, a10, a11, a12, a13, a14, a15, a16, .map (some nb), .string s, .map (some nb), .string s, undef, .agg #[.map (some d), .int .i64 t], .slice (some ⟨Wa.heap.size, 0, none⟩) 1 1, undef, undef], defers := [] } (Wa.alloc (.cells #[.map (some d), .int .i64 t] 131)).drew := by
  refine wpAnyIn_ready (rs := [4]) (by kernel_rfl) (by simp) ?_
  refine AllReadyIn.cons rfl (fun K hK => ?_) ?_
  · go_simp
    exact hK _ _ (ra_111111100 l Wa W2 W3 bN nb Bx d t s v v' a0 a1 a2 a3 a4 a8 a9 a10 a11 a12 a13 a14 a15 a16 d1 d2 d3 d4 d5 r1 r2 r3 r4)
  exact AllReadyIn.nil
theorem ra_111111000 :
    wpAnyIn (Fence.wide.inRound l) 7 Tryz.prog .any regOps (regQ W3) 3 #[true, true, true, true, true, true, false, false, false] { tmps := #[a0, a1, a2, a3, a4, .pointer (some ⟨bN, 0, none⟩), .pointer (some ⟨Bx, 0, none⟩), .string s, a8, a9, a10, a11, a12, a13, a14, a15, a16, .map (some nb), .string s, .map (some nb), .string s, v, .agg #[.map (some d), .int .i64 t], undef, undef, undef], defers := [] } Wa.drew := by
  refine wpAnyIn_ready (rs := [6]) (by kernel_rfl) (by simp) ?_
  refine AllReadyIn.cons rfl (fun K hK => ?_) ?_
  · go_simp
    exact hK _ _ (ra_111111100 l Wa W2 W3 bN nb Bx d t s v v' a0 a1 a2 a3 a4 a8 a9 a10 a11 a12 a13 a14 a15 a16 d1 d2 d3 d4 d5 r1 r2 r3 r4)
  exact AllReadyIn.nil
theorem ra_001111110 :
    wpAnyIn (Fence.wide.inRound l) 7 Tryz.prog .any regOps (regQ W3) 3 #[false, false, true, true, true, true, true, true, false] { tmps := #[a0, a1, a2, a3, a4, .pointer (some ⟨bN, 0, none⟩), .pointer (some ⟨Bx, 0, none⟩), .string s, a8, a9, a10, a11, a12, a13, a14, a15, a16, undef, undef, .map (some nb), .string s, v, .agg #[.map (some d), .int .i64 t], .slice (some ⟨Wa.heap.size, 0, none⟩) 1 1, v', undef], defers := [] } W2 := by
  refine wpAnyIn_ready (rs := [0, 1]) (by kernel_rfl) (by simp) ?_
  refine AllReadyIn.cons rfl (fun K hK => ?_) ?_
  · go_simp
    exact hK _ _ (ra_101111110 l Wa W2 W3 bN nb Bx d t s v v' a0 a1 a2 a3 a4 a8 a9 a10 a11 a12 a13 a14 a15 a16 d1 d2 d3 d4 d5 r1 r2 r3 r4)
  refine AllReadyIn.cons rfl (fun K hK => ?_) ?_
  · go_simp
    exact hK _ _ (ra_011111110 l Wa W2 W3 bN nb Bx d t s v v' a0 a1 a2 a3 a4 a8 a9 a10 a11 a12 a13 a14 a15 a16 d1 d2 d3 d4 d5 r1 r2 r3 r4)
  exact AllReadyIn.nil
theorem ra_111001100 :
    wpAnyIn (Fence.wide.inRound l) 7 Tryz.prog .any regOps (regQ W3) 4 #[true, true, true, false, false, true, true, false, false] { tmps := #[a0, a1, a2, a3, a4, .pointer (some ⟨bN, 0, none⟩), .pointer (some ⟨Bx, 0, none⟩), .string s, a8, a9, a10, a11, a12, a13, a14, a15, a16, .map (some nb), .string s, .map (some nb), undef, undef, .agg #[.map (some d), .int .i64 t], .slice (some ⟨Wa.heap.size, 0, none⟩) 1 1, undef, undef], defers := [] } (Wa.alloc (.cells #[.map (some d), .int .i64 t] 131)).drew := by
  refine wpAnyIn_ready (rs := [3]) (by kernel_rfl) (by simp) ?_
  refine AllReadyIn.cons rfl (fun K hK => ?_) ?_
  · go_simp
    exact hK _ _ (ra_111101100 l Wa W2 W3 bN nb Bx d t s v v' a0 a1 a2 a3 a4 a8 a9 a10 a11 a12 a13 a14 a15 a16 d1 d2 d3 d4 d5 r1 r2 r3 r4)
  exact AllReadyIn.nil
theorem ra_111110000 :
    wpAnyIn (Fence.wide.inRound l) 7 Tryz.prog .any regOps (regQ W3) 4 #[true, true, true, true, true, false, false, false, false] { tmps := #[a0, a1, a2, a3, a4, .pointer (some ⟨bN, 0, none⟩), .pointer (some ⟨Bx, 0, none⟩), .string s, a8, a9, a10, a11, a12, a13, a14, a15, a16, .map (some nb), .string s, .map (some nb), .string s, v, undef, undef, undef, undef], defers := [] } Wa.drew := by
  refine wpAnyIn_ready (rs := [5]) (by kernel_rfl) (by simp) ?_
  refine AllReadyIn.cons rfl (fun K hK => ?_) ?_
  · go_simp
    exact hK _ _ (ra_111111000 l Wa W2 W3 bN nb Bx d t s v v' a0 a1 a2 a3 a4 a8 a9 a10 a11 a12 a13 a14 a15 a16 d1 d2 d3 d4 d5 r1 r2 r3 r4)
  exact AllReadyIn.nil
theorem ra_101111000 :
    wpAnyIn (Fence.wide.inRound l) 7 Tryz.prog .any regOps (regQ W3) 4 #[true, false, true, true, true, true, false, false, false] { tmps := #[a0, a1, a2, a3, a4, .pointer (some ⟨bN, 0, none⟩), .pointer (some ⟨Bx, 0, none⟩), .string s, a8, a9, a10, a11, a12, a13, a14, a15, a16, .map (some nb), undef, .map (some nb), .string s, v, .agg #[.map (some d), .int .i64 t], undef, undef, undef], defers := [] } Wa.drew := by
  refine wpAnyIn_ready (rs := [1, 6]) (by kernel_rfl) (by simp) ?_
  refine AllReadyIn.cons rfl (fun K hK => ?_) ?_
  · go_simp
    exact hK _ _ (ra_111111000 l Wa W2 W3 bN nb Bx d t s v v' a0 a1 a2 a3 a4 a8 a9 a10 a11 a12 a13 a14 a15 a16 d1 d2 d3 d4 d5 r1 r2 r3 r4)
  refine AllReadyIn.cons rfl (fun K hK => ?_) ?_
  · go_simp
    exact hK _ _ (ra_101111100 l Wa W2 W3 bN nb Bx d t s v v' a0 a1 a2 a3 a4 a8 a9 a10 a11 a12 a13 a14 a15 a16 d1 d2 d3 d4 d5 r1 r2 r3 r4)
  exact AllReadyIn.nil
theorem ra_011111000 :
    wpAnyIn (Fence.wide.inRound l) 7 Tryz.prog .any regOps (regQ W3) 4 #[false, true, true, true, true, true, false, false, false] { tmps := #[a0, a1, a2, a3, a4, .pointer (some ⟨bN, 0, none⟩), .pointer (some ⟨Bx, 0, none⟩), .string s, a8, a9, a10, a11, a12, a13, a14, a15, a16, undef, .string s, .map (some nb), .string s, v, .agg #[.map (some d), .int .i64 t], undef, undef, undef], defers := [] } Wa.drew := by
  refine wpAnyIn_ready (rs := [0, 6]) (by kernel_rfl) (by simp) ?_
  refine AllReadyIn.cons rfl (fun K hK => ?_) ?_
  · go_simp
    exact hK _ _ (ra_111111000 l Wa W2 W3 bN nb Bx d t s v v' a0 a1 a2 a3 a4 a8 a9 a10 a11 a12 a13 a14 a15 a16 d1 d2 d3 d4 d5 r1 r2 r3 r4)
  refine AllReadyIn.cons rfl (fun K hK => ?_) ?_
  · go_simp
    exact hK _ _ (ra_011111100 l Wa W2 W3 bN nb Bx d t s v v' a0 a1 a2 a3 a4 a8 a9 a10 a11 a12 a13 a14 a15 a16 d1 d2 d3 d4 d5 r1 r2 r3 r4)
  exact AllReadyIn.nil
theorem ra_011101100 :
    wpAnyIn (Fence.wide.inRound l) 7 Tryz.prog .any regOps (regQ W3) 4 #[false, true, true, true, false, true, true, false, false] { tmps := #[a0, a1, a2, a3, a4, .pointer (some ⟨bN, 0, none⟩), .pointer (some ⟨Bx, 0, none⟩), .string s, a8, a9, a10, a11, a12, a13, a14, a15, a16, undef, .string s, .map (some nb), .string s, undef, .agg #[.map (some d), .int .i64 t], .slice (some ⟨Wa.heap.size, 0, none⟩) 1 1, undef, undef], defers := [] } (Wa.alloc (.cells #[.map (some d), .int .i64 t] 131)).drew := by
  refine wpAnyIn_ready (rs := [0, 4]) (by kernel_rfl) (by simp) ?_
  refine AllReadyIn.cons rfl (fun K hK => ?_) ?_
  · go_simp
    exact hK _ _ (ra_111101100 l Wa W2 W3 bN nb Bx d t s v v' a0 a1 a2 a3 a4 a8 a9 a10 a11 a12 a13 a14 a15 a16 d1 d2 d3 d4 d5 r1 r2 r3 r4)
  refine AllReadyIn.cons rfl (fun K hK => ?_) ?_
  · go_simp
    exact hK _ _ (ra_011111100 l Wa W2 W3 bN nb Bx d t s v v' a0 a1 a2 a3 a4 a8 a9 a10 a11 a12 a13 a14 a15 a16 d1 d2 d3 d4 d5 r1 r2 r3 r4)
  exact AllReadyIn.nil
theorem ra_110101100 :
    wpAnyIn (Fence.wide.inRound l) 7 Tryz.prog .any regOps (regQ W3) 4 #[true, true, false, true, false, true, true, false, false] { tmps := #[a0, a1, a2, a3, a4, .pointer (some ⟨bN, 0, none⟩), .pointer (some ⟨Bx, 0, none⟩), .string s, a8, a9, a10, a11, a12, a13, a14, a15, a16, .map (some nb), .string s, undef, .string s, undef, .agg #[.map (some d), .int .i64 t], .slice (some ⟨Wa.heap.size, 0, none⟩) 1 1, undef, undef], defers := [] } (Wa.alloc (.cells #[.map (some d), .int .i64 t] 131)).drew := by
  refine wpAnyIn_ready (rs := [2]) (by kernel_rfl) (by simp) ?_
  refine AllReadyIn.cons rfl (fun K hK => ?_) ?_
  · go_simp
    exact hK _ _ (ra_111101100 l Wa W2 W3 bN nb Bx d t s v v' a0 a1 a2 a3 a4 a8 a9 a10 a11 a12 a13 a14 a15 a16 d1 d2 d3 d4 d5 r1 r2 r3 r4)
  exact AllReadyIn.nil
theorem ra_001111100 :
    wpAnyIn (Fence.wide.inRound l) 7 Tryz.prog .any regOps (regQ W3) 4 #[false, false, true, true, true, true, true, false, false] { tmps := #[a0, a1, a2, a3, a4, .pointer (some ⟨bN, 0, none⟩), .pointer (some ⟨Bx, 0, none⟩), .string s, a8, a9, a10, a11, a12, a13, a14, a15, a16, undef, undef, .map (some nb), .string s, v, .agg #[.map (some d), .int .i64 t], .slice (some ⟨Wa.heap.size, 0, none⟩) 1 1, undef, undef], defers := [] } (Wa.alloc (.cells #[.map (some d), .int .i64 t] 131)).drew := by
  refine wpAnyIn_ready (rs := [0, 1, 7]) (by kernel_rfl) (by simp) ?_
  refine AllReadyIn.cons rfl (fun K hK => ?_) ?_
  · go_simp
    exact hK _ _ (ra_101111100 l Wa W2 W3 bN nb Bx d t s v v' a0 a1 a2 a3 a4 a8 a9 a10 a11 a12 a13 a14 a15 a16 d1 d2 d3 d4 d5 r1 r2 r3 r4)
  refine AllReadyIn.cons rfl (fun K hK => ?_) ?_
  · go_simp
    exact hK _ _ (ra_011111100 l Wa W2 W3 bN nb Bx d t s v v' a0 a1 a2 a3 a4 a8 a9 a10 a11 a12 a13 a14 a15 a16 d1 d2 d3 d4 d5 r1 r2 r3 r4)
  refine allReady_append rfl rfl (.tmp 21) (.tmp 23) 144 rfl v' W2 r3 (by go_simp; exact ra_001111110 l Wa W2 W3 bN nb Bx d t s v v' a0 a1 a2 a3 a4 a8 a9 a10 a11 a12 a13 a14 a15 a16 d1 d2 d3 d4 d5 r1 r2 r3 r4) ?_
  exact AllReadyIn.nil
theorem ra_101101100 :
    wpAnyIn (Fence.wide.inRound l) 7 Tryz.prog .any regOps (regQ W3) 4 #[true, false, true, true, false, true, true, false, false] { tmps := #[a0, a1, a2, a3, a4, .pointer (some ⟨bN, 0, none⟩), .pointer (some ⟨Bx, 0, none⟩), .string s, a8, a9, a10, a11, a12, a13, a14, a15, a16, .map (some nb), undef, .map (some nb), .string s, undef, .agg #[.map (some d), .int .i64 t], .slice (some ⟨Wa.heap.size, 0, none⟩) 1 1, undef, undef], defers := [] } (Wa.alloc (.cells #[.map (some d), .int .i64 t] 131)).drew := by
  refine wpAnyIn_ready (rs := [1, 4]) (by kernel_rfl) (by simp) ?_
  refine AllReadyIn.cons rfl (fun K hK => ?_) ?_
  · go_simp
    exact hK _ _ (ra_111101100 l Wa W2 W3 bN nb Bx d t s v v' a0 a1 a2 a3 a4 a8 a9 a10 a11 a12 a13 a14 a15 a16 d1 d2 d3 d4 d5 r1 r2 r3 r4)
  refine AllReadyIn.cons rfl (fun K hK => ?_) ?_
  · go_simp
    exact hK _ _ (ra_101111100 l Wa W2 W3 bN nb Bx d t s v v' a0 a1 a2 a3 a4 a8 a9 a10 a11 a12 a13 a14 a15 a16 d1 d2 d3 d4 d5 r1 r2 r3 r4)
  exact AllReadyIn.nil
theorem ra_111101000 :
    wpAnyIn (Fence.wide.inRound l) 7 Tryz.prog .any regOps (regQ W3) 4 #[true, true, true, true, false, true, false, false, false] { tmps := #[a0, a1, a2, a3, a4, .pointer (some ⟨bN, 0, none⟩), .pointer (some ⟨Bx, 0, none⟩), .string s, a8, a9, a10, a11, a12, a13, a14, a15, a16, .map (some nb), .string s, .map (some nb), .string s, undef, .agg #[.map (some d), .int .i64 t], undef, undef, undef], defers := [] } Wa.drew := by
  refine wpAnyIn_ready (rs := [4, 6]) (by kernel_rfl) (by simp) ?_
  refine AllReadyIn.cons rfl (fun K hK => ?_) ?_
  · go_simp
    exact hK _ _ (ra_111111000 l Wa W2 W3 bN nb Bx d t s v v' a0 a1 a2 a3 a4 a8 a9 a10 a11 a12 a13 a14 a15 a16 d1 d2 d3 d4 d5 r1 r2 r3 r4)
  refine AllReadyIn.cons rfl (fun K hK => ?_) ?_
  · go_simp
    exact hK _ _ (ra_111101100 l Wa W2 W3 bN nb Bx d t s v v' a0 a1 a2 a3 a4 a8 a9 a10 a11 a12 a13 a14 a15 a16 d1 d2 d3 d4 d5 r1 r2 r3 r4)
  exact AllReadyIn.nil
theorem ra_001101100 :
    wpAnyIn (Fence.wide.inRound l) 7 Tryz.prog .any regOps (regQ W3) 5 #[false, false, true, true, false, true, true, false, false] { tmps := #[a0, a1, a2, a3, a4, .pointer (some ⟨bN, 0, none⟩), .pointer (some ⟨Bx, 0, none⟩), .string s, a8, a9, a10, a11, a12, a13, a14, a15, a16, undef, undef, .map (some nb), .string s, undef, .agg #[.map (some d), .int .i64 t], .slice (some ⟨Wa.heap.size, 0, none⟩) 1 1, undef, undef], defers := [] } (Wa.alloc (.cells #[.map (some d), .int .i64 t] 131)).drew := by
  refine wpAnyIn_ready (rs := [0, 1, 4]) (by kernel_rfl) (by simp) ?_
  refine AllReadyIn.cons rfl (fun K hK => ?_) ?_
  · go_simp
    exact hK _ _ (ra_101101100 l Wa W2 W3 bN nb Bx d t s v v' a0 a1 a2 a3 a4 a8 a9 a10 a11 a12 a13 a14 a15 a16 d1 d2 d3 d4 d5 r1 r2 r3 r4)
  refine AllReadyIn.cons rfl (fun K hK => ?_) ?_
  · go_simp
    exact hK _ _ (ra_011101100 l Wa W2 W3 bN nb Bx d t s v v' a0 a1 a2 a3 a4 a8 a9 a10 a11 a12 a13 a14 a15 a16 d1 d2 d3 d4 d5 r1 r2 r3 r4)
  refine AllReadyIn.cons rfl (fun K hK => ?_) ?_
  · go_simp
    exact hK _ _ (ra_001111100 l Wa W2 W3 bN nb Bx d t s v v' a0 a1 a2 a3 a4 a8 a9 a10 a11 a12 a13 a14 a15 a16 d1 d2 d3 d4 d5 r1 r2 r3 r4)
  exact AllReadyIn.nil
theorem ra_101110000 :
    wpAnyIn (Fence.wide.inRound l) 7 Tryz.prog .any regOps (regQ W3) 5 #[true, false, true, true, true, false, false, false, false] { tmps := #[a0, a1, a2, a3, a4, .pointer (some ⟨bN, 0, none⟩), .pointer (some ⟨Bx, 0, none⟩), .string s, a8, a9, a10, a11, a12, a13, a14, a15, a16, .map (some nb), undef, .map (some nb), .string s, v, undef, undef, undef, undef], defers := [] } Wa.drew := by
  refine wpAnyIn_ready (rs := [1, 5]) (by kernel_rfl) (by simp) ?_
  refine AllReadyIn.cons rfl (fun K hK => ?_) ?_
  · go_simp
    exact hK _ _ (ra_111110000 l Wa W2 W3 bN nb Bx d t s v v' a0 a1 a2 a3 a4 a8 a9 a10 a11 a12 a13 a14 a15 a16 d1 d2 d3 d4 d5 r1 r2 r3 r4)
  refine AllReadyIn.cons rfl (fun K hK => ?_) ?_
  · go_simp
    exact hK _ _ (ra_101111000 l Wa W2 W3 bN nb Bx d t s v v' a0 a1 a2 a3 a4 a8 a9 a10 a11 a12 a13 a14 a15 a16 d1 d2 d3 d4 d5 r1 r2 r3 r4)
  exact AllReadyIn.nil
theorem ra_100101100 :
    wpAnyIn (Fence.wide.inRound l) 7 Tryz.prog .any regOps (regQ W3) 5 #[true, false, false, true, false, true, true, false, false] { tmps := #[a0, a1, a2, a3, a4, .pointer (some ⟨bN, 0, none⟩), .pointer (some ⟨Bx, 0, none⟩), .string s, a8, a9, a10, a11, a12, a13, a14, a15, a16, .map (some nb), undef, undef, .string s, undef, .agg #[.map (some d), .int .i64 t], .slice (some ⟨Wa.heap.size, 0, none⟩) 1 1, undef, undef], defers := [] } (Wa.alloc (.cells #[.map (some d), .int .i64 t] 131)).drew := by
  refine wpAnyIn_ready (rs := [1, 2]) (by kernel_rfl) (by simp) ?_
  refine AllReadyIn.cons rfl (fun K hK => ?_) ?_
  · go_simp
    exact hK _ _ (ra_110101100 l Wa W2 W3 bN nb Bx d t s v v' a0 a1 a2 a3 a4 a8 a9 a10 a11 a12 a13 a14 a15 a16 d1 d2 d3 d4 d5 r1 r2 r3 r4)
  refine AllReadyIn.cons rfl (fun K hK => ?_) ?_
  · go_simp
    exact hK _ _ (ra_101101100 l Wa W2 W3 bN nb Bx d t s v v' a0 a1 a2 a3 a4 a8 a9 a10 a11 a12 a13 a14 a15 a16 d1 d2 d3 d4 d5 r1 r2 r3 r4)
  exact AllReadyIn.nil
theorem ra_101101000 :
    wpAnyIn (Fence.wide.inRound l) 7 Tryz.prog .any regOps (regQ W3) 5 #[true, false, true, true, false, true, false, false, false] { tmps := #[a0, a1, a2, a3, a4, .pointer (some ⟨bN, 0, none⟩), .pointer (some ⟨Bx, 0, none⟩), .string s, a8, a9, a10, a11, a12, a13, a14, a15, a16, .map (some nb), undef, .map (some nb), .string s, undef, .agg #[.map (some d), .int .i64 t], undef, undef, undef], defers := [] } Wa.drew := by
  refine wpAnyIn_ready (rs := [1, 4, 6]) (by kernel_rfl) (by simp) ?_
  refine AllReadyIn.cons rfl (fun K hK => ?_) ?_
  · go_simp
    exact hK _ _ (ra_111101000 l Wa W2 W3 bN nb Bx d t s v v' a0 a1 a2 a3 a4 a8 a9 a10 a11 a12 a13 a14 a15 a16 d1 d2 d3 d4 d5 r1 r2 r3 r4)
  refine AllReadyIn.cons rfl (fun K hK => ?_) ?_
  · go_simp
    exact hK _ _ (ra_101111000 l Wa W2 W3 bN nb Bx d t s v v' a0 a1 a2 a3 a4 a8 a9 a10 a11 a12 a13 a14 a15 a16 d1 d2 d3 d4 d5 r1 r2 r3 r4)
  refine AllReadyIn.cons rfl (fun K hK => ?_) ?_
  · go_simp
    exact hK _ _ (ra_101101100 l Wa W2 W3 bN nb Bx d t s v v' a0 a1 a2 a3 a4 a8 a9 a10 a11 a12 a13 a14 a15 a16 d1 d2 d3 d4 d5 r1 r2 r3 r4)
  exact AllReadyIn.nil
theorem ra_101001100 :
    wpAnyIn (Fence.wide.inRound l) 7 Tryz.prog .any regOps (regQ W3) 5 #[true, false, true, false, false, true, true, false, false] { tmps := #[a0, a1, a2, a3, a4, .pointer (some ⟨bN, 0, none⟩), .pointer (some ⟨Bx, 0, none⟩), .string s, a8, a9, a10, a11, a12, a13, a14, a15, a16, .map (some nb), undef, .map (some nb), undef, undef, .agg #[.map (some d), .int .i64 t], .slice (some ⟨Wa.heap.size, 0, none⟩) 1 1, undef, undef], defers := [] } (Wa.alloc (.cells #[.map (some d), .int .i64 t] 131)).drew := by
  refine wpAnyIn_ready (rs := [1, 3]) (by kernel_rfl) (by simp) ?_
  refine AllReadyIn.cons rfl (fun K hK => ?_) ?_
  · go_simp
    exact hK _ _ (ra_111001100 l Wa W2 W3 bN nb Bx d t s v v' a0 a1 a2 a3 a4 a8 a9 a10 a11 a12 a13 a14 a15 a16 d1 d2 d3 d4 d5 r1 r2 r3 r4)
  refine AllReadyIn.cons rfl (fun K hK => ?_) ?_
  · go_simp
    exact hK _ _ (ra_101101100 l Wa W2 W3 bN nb Bx d t s v v' a0 a1 a2 a3 a4 a8 a9 a10 a11 a12 a13 a14 a15 a16 d1 d2 d3 d4 d5 r1 r2 r3 r4)
  exact AllReadyIn.nil
theorem ra_010101100 :
    wpAnyIn (Fence.wide.inRound l) 7 Tryz.prog .any regOps (regQ W3) 5 #[false, true, false, true, false, true, true, false, false] { tmps := #[a0, a1, a2, a3, a4, .pointer (some ⟨bN, 0, none⟩), .pointer (some ⟨Bx, 0, none⟩), .string s, a8, a9, a10, a11, a12, a13, a14, a15, a16, undef, .string s, undef, .string s, undef, .agg #[.map (some d), .int .i64 t], .slice (some ⟨Wa.heap.size, 0, none⟩) 1 1, undef, undef], defers := [] } (Wa.alloc (.cells #[.map (some d), .int .i64 t] 131)).drew := by
  refine wpAnyIn_ready (rs := [0, 2]) (by kernel_rfl) (by simp) ?_
  refine AllReadyIn.cons rfl (fun K hK => ?_) ?_
  · go_simp
    exact hK _ _ (ra_110101100 l Wa W2 W3 bN nb Bx d t s v v' a0 a1 a2 a3 a4 a8 a9 a10 a11 a12 a13 a14 a15 a16 d1 d2 d3 d4 d5 r1 r2 r3 r4)
  refine AllReadyIn.cons rfl (fun K hK => ?_) ?_
  · go_simp
    exact hK _ _ (ra_011101100 l Wa W2 W3 bN nb Bx d t s v v' a0 a1 a2 a3 a4 a8 a9 a10 a11 a12 a13 a14 a15 a16 d1 d2 d3 d4 d5 r1 r2 r3 r4)
  exact AllReadyIn.nil
theorem ra_110101000 :
    wpAnyIn (Fence.wide.inRound l) 7 Tryz.prog .any regOps (regQ W3) 5 #[true, true, false, true, false, true, false, false, false] { tmps := #[a0, a1, a2, a3, a4, .pointer (some ⟨bN, 0, none⟩), .pointer (some ⟨Bx, 0, none⟩), .string s, a8, a9, a10, a11, a12, a13, a14, a15, a16, .map (some nb), .string s, undef, .string s, undef, .agg #[.map (some d), .int .i64 t], undef, undef, undef], defers := [] } Wa.drew := by
  refine wpAnyIn_ready (rs := [2, 6]) (by kernel_rfl) (by simp) ?_
  refine AllReadyIn.cons rfl (fun K hK => ?_) ?_
  · go_simp
    exact hK _ _ (ra_111101000 l Wa W2 W3 bN nb Bx d t s v v' a0 a1 a2 a3 a4 a8 a9 a10 a11 a12 a13 a14 a15 a16 d1 d2 d3 d4 d5 r1 r2 r3 r4)
  refine AllReadyIn.cons rfl (fun K hK => ?_) ?_
  · go_simp
    exact hK _ _ (ra_110101100 l Wa W2 W3 bN nb Bx d t s v v' a0 a1 a2 a3 a4 a8 a9 a10 a11 a12 a13 a14 a15 a16 d1 d2 d3 d4 d5 r1 r2 r3 r4)
  exact AllReadyIn.nil
theorem ra_110001100 :
    wpAnyIn (Fence.wide.inRound l) 7 Tryz.prog .any regOps (regQ W3) 5 #[true, true, false, false, false, true, true, false, false] { tmps := #[a0, a1, a2, a3, a4, .pointer (some ⟨bN, 0, none⟩), .pointer (some ⟨Bx, 0, none⟩), .string s, a8, a9, a10, a11, a12, a13, a14, a15, a16, .map (some nb), .string s, undef, undef, undef, .agg #[.map (some d), .int .i64 t], .slice (some ⟨Wa.heap.size, 0, none⟩) 1 1, undef, undef], defers := [] } (Wa.alloc (.cells #[.map (some d), .int .i64 t] 131)).drew := by
  refine wpAnyIn_ready (rs := [2, 3]) (by kernel_rfl) (by simp) ?_
  refine AllReadyIn.cons rfl (fun K hK => ?_) ?_
  · go_simp
    exact hK _ _ (ra_111001100 l Wa W2 W3 bN nb Bx d t s v v' a0 a1 a2 a3 a4 a8 a9 a10 a11 a12 a13 a14 a15 a16 d1 d2 d3 d4 d5 r1 r2 r3 r4)
  refine AllReadyIn.cons rfl (fun K hK => ?_) ?_
  · go_simp
    exact hK _ _ (ra_110101100 l Wa W2 W3 bN nb Bx d t s v v' a0 a1 a2 a3 a4 a8 a9 a10 a11 a12 a13 a14 a15 a16 d1 d2 d3 d4 d5 r1 r2 r3 r4)
  exact AllReadyIn.nil
theorem ra_001111000 :
    wpAnyIn (Fence.wide.inRound l) 7 Tryz.prog .any regOps (regQ W3) 5 #[false, false, true, true, true, true, false, false, false] { tmps := #[a0, a1, a2, a3, a4, .pointer (some ⟨bN, 0, none⟩), .pointer (some ⟨Bx, 0, none⟩), .string s, a8, a9, a10, a11, a12, a13, a14, a15, a16, undef, undef, .map (some nb), .string s, v, .agg #[.map (some d), .int .i64 t], undef, undef, undef], defers := [] } Wa.drew := by
  refine wpAnyIn_ready (rs := [0, 1, 6]) (by kernel_rfl) (by simp) ?_
  refine AllReadyIn.cons rfl (fun K hK => ?_) ?_
  · go_simp
    exact hK _ _ (ra_101111000 l Wa W2 W3 bN nb Bx d t s v v' a0 a1 a2 a3 a4 a8 a9 a10 a11 a12 a13 a14 a15 a16 d1 d2 d3 d4 d5 r1 r2 r3 r4)
  refine AllReadyIn.cons rfl (fun K hK => ?_) ?_
  · go_simp
    exact hK _ _ (ra_011111000 l Wa W2 W3 bN nb Bx d t s v v' a0 a1 a2 a3 a4 a8 a9 a10 a11 a12 a13 a14 a15 a16 d1 d2 d3 d4 d5 r1 r2 r3 r4)
  refine AllReadyIn.cons rfl (fun K hK => ?_) ?_
  · go_simp
    exact hK _ _ (ra_001111100 l Wa W2 W3 bN nb Bx d t s v v' a0 a1 a2 a3 a4 a8 a9 a10 a11 a12 a13 a14 a15 a16 d1 d2 d3 d4 d5 r1 r2 r3 r4)
  exact AllReadyIn.nil
theorem ra_011110000 :
    wpAnyIn (Fence.wide.inRound l) 7 Tryz.prog .any regOps (regQ W3) 5 #[false, true, true, true, true, false, false, false, false] { tmps := #[a0, a1, a2, a3, a4, .pointer (some ⟨bN, 0, none⟩), .pointer (some ⟨Bx, 0, none⟩), .string s, a8, a9, a10, a11, a12, a13, a14, a15, a16, undef, .string s, .map (some nb), .string s, v, undef, undef, undef, undef], defers := [] } Wa.drew := by
  refine wpAnyIn_ready (rs := [0, 5]) (by kernel_rfl) (by simp) ?_
  refine AllReadyIn.cons rfl (fun K hK => ?_) ?_
  · go_simp
    exact hK _ _ (ra_111110000 l Wa W2 W3 bN nb Bx d t s v v' a0 a1 a2 a3 a4 a8 a9 a10 a11 a12 a13 a14 a15 a16 d1 d2 d3 d4 d5 r1 r2 r3 r4)
  refine AllReadyIn.cons rfl (fun K hK => ?_) ?_
  · go_simp
    exact hK _ _ (ra_011111000 l Wa W2 W3 bN nb Bx d t s v v' a0 a1 a2 a3 a4 a8 a9 a10 a11 a12 a13 a14 a15 a16 d1 d2 d3 d4 d5 r1 r2 r3 r4)
  exact AllReadyIn.nil
theorem ra_111001000 :
    wpAnyIn (Fence.wide.inRound l) 7 Tryz.prog .any regOps (regQ W3) 5 #[true, true, true, false, false, true, false, false, false] { tmps := #[a0, a1, a2, a3, a4, .pointer (some ⟨bN, 0, none⟩), .pointer (some ⟨Bx, 0, none⟩), .string s, a8, a9, a10, a11, a12, a13, a14, a15, a16, .map (some nb), .string s, .map (some nb), undef, undef, .agg #[.map (some d), .int .i64 t], undef, undef, undef], defers := [] } Wa.drew := by
  refine wpAnyIn_ready (rs := [3, 6]) (by kernel_rfl) (by simp) ?_
  refine AllReadyIn.cons rfl (fun K hK => ?_) ?_
  · go_simp
    exact hK _ _ (ra_111101000 l Wa W2 W3 bN nb Bx d t s v v' a0 a1 a2 a3 a4 a8 a9 a10 a11 a12 a13 a14 a15 a16 d1 d2 d3 d4 d5 r1 r2 r3 r4)
  refine AllReadyIn.cons rfl (fun K hK => ?_) ?_
  · go_simp
    exact hK _ _ (ra_111001100 l Wa W2 W3 bN nb Bx d t s v v' a0 a1 a2 a3 a4 a8 a9 a10 a11 a12 a13 a14 a15 a16 d1 d2 d3 d4 d5 r1 r2 r3 r4)
  exact AllReadyIn.nil
theorem ra_011001100 :
    wpAnyIn (Fence.wide.inRound l) 7 Tryz.prog .any regOps (regQ W3) 5 #[false, true, true, false, false, true, true, false, false] { tmps := #[a0, a1, a2, a3, a4, .pointer (some ⟨bN, 0, none⟩), .pointer (some ⟨Bx, 0, none⟩), .string s, a8, a9, a10, a11, a12, a13, a14, a15, a16, undef, .string s, .map (some nb), undef, undef, .agg #[.map (some d), .int .i64 t], .slice (some ⟨Wa.heap.size, 0, none⟩) 1 1, undef, undef], defers := [] } (Wa.alloc (.cells #[.map (some d), .int .i64 t] 131)).drew := by
  refine wpAnyIn_ready (rs := [0, 3]) (by kernel_rfl) (by simp) ?_
  refine AllReadyIn.cons rfl (fun K hK => ?_) ?_
  · go_simp
    exact hK _ _ (ra_111001100 l Wa W2 W3 bN nb Bx d t s v v' a0 a1 a2 a3 a4 a8 a9 a10 a11 a12 a13 a14 a15 a16 d1 d2 d3 d4 d5 r1 r2 r3 r4)
  refine AllReadyIn.cons rfl (fun K hK => ?_) ?_
  · go_simp
    exact hK _ _ (ra_011101100 l Wa W2 W3 bN nb Bx d t s v v' a0 a1 a2 a3 a4 a8 a9 a10 a11 a12 a13 a14 a15 a16 d1 d2 d3 d4 d5 r1 r2 r3 r4)
  exact AllReadyIn.nil
theorem ra_011101000 :
    wpAnyIn (Fence.wide.inRound l) 7 Tryz.prog .any regOps (regQ W3) 5 #[false, true, true, true, false, true, false, false, false] { tmps := #[a0, a1, a2, a3, a4, .pointer (some ⟨bN, 0, none⟩), .pointer (some ⟨Bx, 0, none⟩), .string s, a8, a9, a10, a11, a12, a13, a14, a15, a16, undef, .string s, .map (some nb), .string s, undef, .agg #[.map (some d), .int .i64 t], undef, undef, undef], defers := [] } Wa.drew := by
  refine wpAnyIn_ready (rs := [0, 4, 6]) (by kernel_rfl) (by simp) ?_
  refine AllReadyIn.cons rfl (fun K hK => ?_) ?_
  · go_simp
    exact hK _ _ (ra_111101000 l Wa W2 W3 bN nb Bx d t s v v' a0 a1 a2 a3 a4 a8 a9 a10 a11 a12 a13 a14 a15 a16 d1 d2 d3 d4 d5 r1 r2 r3 r4)
  refine AllReadyIn.cons rfl (fun K hK => ?_) ?_
  · go_simp
    exact hK _ _ (ra_011111000 l Wa W2 W3 bN nb Bx d t s v v' a0 a1 a2 a3 a4 a8 a9 a10 a11 a12 a13 a14 a15 a16 d1 d2 d3 d4 d5 r1 r2 r3 r4)
  refine AllReadyIn.cons rfl (fun K hK => ?_) ?_
  · go_simp
    exact hK _ _ (ra_011101100 l Wa W2 W3 bN nb Bx d t s v v' a0 a1 a2 a3 a4 a8 a9 a10 a11 a12 a13 a14 a15 a16 d1 d2 d3 d4 d5 r1 r2 r3 r4)
  exact AllReadyIn.nil
theorem ra_111100000 :
    wpAnyIn (Fence.wide.inRound l) 7 Tryz.prog .any regOps (regQ W3) 5 #[true, true, true, true, false, false, false, false, false] { tmps := #[a0, a1, a2, a3, a4, .pointer (some ⟨bN, 0, none⟩), .pointer (some ⟨Bx, 0, none⟩), .string s, a8, a9, a10, a11, a12, a13, a14, a15, a16, .map (some nb), .string s, .map (some nb), .string s, undef, undef, undef, undef, undef], defers := [] } Wa.drew := by
  refine wpAnyIn_ready (rs := [4, 5]) (by kernel_rfl) (by simp) ?_
  refine AllReadyIn.cons rfl (fun K hK => ?_) ?_
  · go_simp
    exact hK _ _ (ra_111110000 l Wa W2 W3 bN nb Bx d t s v v' a0 a1 a2 a3 a4 a8 a9 a10 a11 a12 a13 a14 a15 a16 d1 d2 d3 d4 d5 r1 r2 r3 r4)
  refine AllReadyIn.cons rfl (fun K hK => ?_) ?_
  · go_simp
    exact hK _ _ (ra_111101000 l Wa W2 W3 bN nb Bx d t s v v' a0 a1 a2 a3 a4 a8 a9 a10 a11 a12 a13 a14 a15 a16 d1 d2 d3 d4 d5 r1 r2 r3 r4)
  exact AllReadyIn.nil
theorem ra_010101000 :
    wpAnyIn (Fence.wide.inRound l) 7 Tryz.prog .any regOps (regQ W3) 6 #[false, true, false, true, false, true, false, false, false] { tmps := #[a0, a1, a2, a3, a4, .pointer (some ⟨bN, 0, none⟩), .pointer (some ⟨Bx, 0, none⟩), .string s, a8, a9, a10, a11, a12, a13, a14, a15, a16, undef, .string s, undef, .string s, undef, .agg #[.map (some d), .int .i64 t], undef, undef, undef], defers := [] } Wa.drew := by
  refine wpAnyIn_ready (rs := [0, 2, 6]) (by kernel_rfl) (by simp) ?_
  refine AllReadyIn.cons rfl (fun K hK => ?_) ?_
  · go_simp
    exact hK _ _ (ra_110101000 l Wa W2 W3 bN nb Bx d t s v v' a0 a1 a2 a3 a4 a8 a9 a10 a11 a12 a13 a14 a15 a16 d1 d2 d3 d4 d5 r1 r2 r3 r4)
  refine AllReadyIn.cons rfl (fun K hK => ?_) ?_
  · go_simp
    exact hK _ _ (ra_011101000 l Wa W2 W3 bN nb Bx d t s v v' a0 a1 a2 a3 a4 a8 a9 a10 a11 a12 a13 a14 a15 a16 d1 d2 d3 d4 d5 r1 r2 r3 r4)
  refine AllReadyIn.cons rfl (fun K hK => ?_) ?_
  · go_simp
    exact hK _ _ (ra_010101100 l Wa W2 W3 bN nb Bx d t s v v' a0 a1 a2 a3 a4 a8 a9 a10 a11 a12 a13 a14 a15 a16 d1 d2 d3 d4 d5 r1 r2 r3 r4)
  exact AllReadyIn.nil
theorem ra_001110000 :
    wpAnyIn (Fence.wide.inRound l) 7 Tryz.prog .any regOps (regQ W3) 6 #[false, false, true, true, true, false, false, false, false] { tmps := #[a0, a1, a2, a3, a4, .pointer (some ⟨bN, 0, none⟩), .pointer (some ⟨Bx, 0, none⟩), .string s, a8, a9, a10, a11, a12, a13, a14, a15, a16, undef, undef, .map (some nb), .string s, v, undef, undef, undef, undef], defers := [] } Wa.drew := by
  refine wpAnyIn_ready (rs := [0, 1, 5]) (by kernel_rfl) (by simp) ?_
  refine AllReadyIn.cons rfl (fun K hK => ?_) ?_
  · go_simp
    exact hK _ _ (ra_101110000 l Wa W2 W3 bN nb Bx d t s v v' a0 a1 a2 a3 a4 a8 a9 a10 a11 a12 a13 a14 a15 a16 d1 d2 d3 d4 d5 r1 r2 r3 r4)
  refine AllReadyIn.cons rfl (fun K hK => ?_) ?_
  · go_simp
    exact hK _ _ (ra_011110000 l Wa W2 W3 bN nb Bx d t s v v' a0 a1 a2 a3 a4 a8 a9 a10 a11 a12 a13 a14 a15 a16 d1 d2 d3 d4 d5 r1 r2 r3 r4)
  refine AllReadyIn.cons rfl (fun K hK => ?_) ?_
  · go_simp
    exact hK _ _ (ra_001111000 l Wa W2 W3 bN nb Bx d t s v v' a0 a1 a2 a3 a4 a8 a9 a10 a11 a12 a13 a14 a15 a16 d1 d2 d3 d4 d5 r1 r2 r3 r4)
  exact AllReadyIn.nil
theorem ra_101001000 :
    wpAnyIn (Fence.wide.inRound l) 7 Tryz.prog .any regOps (regQ W3) 6 #[true, false, true, false, false, true, false, false, false] { tmps := #[a0, a1, a2, a3, a4, .pointer (some ⟨bN, 0, none⟩), .pointer (some ⟨Bx, 0, none⟩), .string s, a8, a9, a10, a11, a12, a13, a14, a15, a16, .map (some nb), undef, .map (some nb), undef, undef, .agg #[.map (some d), .int .i64 t], undef, undef, undef], defers := [] } Wa.drew := by
  refine wpAnyIn_ready (rs := [1, 3, 6]) (by kernel_rfl) (by simp) ?_
  refine AllReadyIn.cons rfl (fun K hK => ?_) ?_
  · go_simp
    exact hK _ _ (ra_111001000 l Wa W2 W3 bN nb Bx d t s v v' a0 a1 a2 a3 a4 a8 a9 a10 a11 a12 a13 a14 a15 a16 d1 d2 d3 d4 d5 r1 r2 r3 r4)
  refine AllReadyIn.cons rfl (fun K hK => ?_) ?_
  · go_simp
    exact hK _ _ (ra_101101000 l Wa W2 W3 bN nb Bx d t s v v' a0 a1 a2 a3 a4 a8 a9 a10 a11 a12 a13 a14 a15 a16 d1 d2 d3 d4 d5 r1 r2 r3 r4)
  refine AllReadyIn.cons rfl (fun K hK => ?_) ?_
  · go_simp
    exact hK _ _ (ra_101001100 l Wa W2 W3 bN nb Bx d t s v v' a0 a1 a2 a3 a4 a8 a9 a10 a11 a12 a13 a14 a15 a16 d1 d2 d3 d4 d5 r1 r2 r3 r4)
  exact AllReadyIn.nil
theorem ra_100001100 :
    wpAnyIn (Fence.wide.inRound l) 7 Tryz.prog .any regOps (regQ W3) 6 #[true, false, false, false, false, true, true, false, false] { tmps := #[a0, a1, a2, a3, a4, .pointer (some ⟨bN, 0, none⟩), .pointer (some ⟨Bx, 0, none⟩), .string s, a8, a9, a10, a11, a12, a13, a14, a15, a16, .map (some nb), undef, undef, undef, undef, .agg #[.map (some d), .int .i64 t], .slice (some ⟨Wa.heap.size, 0, none⟩) 1 1, undef, undef], defers := [] } (Wa.alloc (.cells #[.map (some d), .int .i64 t] 131)).drew := by
  refine wpAnyIn_ready (rs := [1, 2, 3]) (by kernel_rfl) (by simp) ?_
  refine AllReadyIn.cons rfl (fun K hK => ?_) ?_
  · go_simp
    exact hK _ _ (ra_110001100 l Wa W2 W3 bN nb Bx d t s v v' a0 a1 a2 a3 a4 a8 a9 a10 a11 a12 a13 a14 a15 a16 d1 d2 d3 d4 d5 r1 r2 r3 r4)
  refine AllReadyIn.cons rfl (fun K hK => ?_) ?_
  · go_simp
    exact hK _ _ (ra_101001100 l Wa W2 W3 bN nb Bx d t s v v' a0 a1 a2 a3 a4 a8 a9 a10 a11 a12 a13 a14 a15 a16 d1 d2 d3 d4 d5 r1 r2 r3 r4)
  refine AllReadyIn.cons rfl (fun K hK => ?_) ?_
  · go_simp
    exact hK _ _ (ra_100101100 l Wa W2 W3 bN nb Bx d t s v v' a0 a1 a2 a3 a4 a8 a9 a10 a11 a12 a13 a14 a15 a16 d1 d2 d3 d4 d5 r1 r2 r3 r4)
  exact AllReadyIn.nil
theorem ra_100101000 :
    wpAnyIn (Fence.wide.inRound l) 7 Tryz.prog .any regOps (regQ W3) 6 #[true, false, false, true, false, true, false, false, false] { tmps := #[a0, a1, a2, a3, a4, .pointer (some ⟨bN, 0, none⟩), .pointer (some ⟨Bx, 0, none⟩), .string s, a8, a9, a10, a11, a12, a13, a14, a15, a16, .map (some nb), undef, undef, .string s, undef, .agg #[.map (some d), .int .i64 t], undef, undef, undef], defers := [] } Wa.drew := by
  refine wpAnyIn_ready (rs := [1, 2, 6]) (by kernel_rfl) (by simp) ?_
  refine AllReadyIn.cons rfl (fun K hK => ?_) ?_
  · go_simp
    exact hK _ _ (ra_110101000 l Wa W2 W3 bN nb Bx d t s v v' a0 a1 a2 a3 a4 a8 a9 a10 a11 a12 a13 a14 a15 a16 d1 d2 d3 d4 d5 r1 r2 r3 r4)
  refine AllReadyIn.cons rfl (fun K hK => ?_) ?_
  · go_simp
    exact hK _ _ (ra_101101000 l Wa W2 W3 bN nb Bx d t s v v' a0 a1 a2 a3 a4 a8 a9 a10 a11 a12 a13 a14 a15 a16 d1 d2 d3 d4 d5 r1 r2 r3 r4)
  refine AllReadyIn.cons rfl (fun K hK => ?_) ?_
  · go_simp
    exact hK _ _ (ra_100101100 l Wa W2 W3 bN nb Bx d t s v v' a0 a1 a2 a3 a4 a8 a9 a10 a11 a12 a13 a14 a15 a16 d1 d2 d3 d4 d5 r1 r2 r3 r4)
  exact AllReadyIn.nil
theorem ra_101100000 :
    wpAnyIn (Fence.wide.inRound l) 7 Tryz.prog .any regOps (regQ W3) 6 #[true, false, true, true, false, false, false, false, false] { tmps := #[a0, a1, a2, a3, a4, .pointer (some ⟨bN, 0, none⟩), .pointer (some ⟨Bx, 0, none⟩), .string s, a8, a9, a10, a11, a12, a13, a14, a15, a16, .map (some nb), undef, .map (some nb), .string s, undef, undef, undef, undef, undef], defers := [] } Wa.drew := by
  refine wpAnyIn_ready (rs := [1, 4, 5]) (by kernel_rfl) (by simp) ?_
  refine AllReadyIn.cons rfl (fun K hK => ?_) ?_
  · go_simp
    exact hK _ _ (ra_111100000 l Wa W2 W3 bN nb Bx d t s v v' a0 a1 a2 a3 a4 a8 a9 a10 a11 a12 a13 a14 a15 a16 d1 d2 d3 d4 d5 r1 r2 r3 r4)
  refine AllReadyIn.cons rfl (fun K hK => ?_) ?_
  · go_simp
    exact hK _ _ (ra_101110000 l Wa W2 W3 bN nb Bx d t s v v' a0 a1 a2 a3 a4 a8 a9 a10 a11 a12 a13 a14 a15 a16 d1 d2 d3 d4 d5 r1 r2 r3 r4)
  refine AllReadyIn.cons rfl (fun K hK => ?_) ?_
  · go_simp
    exact hK _ _ (ra_101101000 l Wa W2 W3 bN nb Bx d t s v v' a0 a1 a2 a3 a4 a8 a9 a10 a11 a12 a13 a14 a15 a16 d1 d2 d3 d4 d5 r1 r2 r3 r4)
  exact AllReadyIn.nil
theorem ra_001101000 :
    wpAnyIn (Fence.wide.inRound l) 7 Tryz.prog .any regOps (regQ W3) 6 #[false, false, true, true, false, true, false, false, false] { tmps := #[a0, a1, a2, a3, a4, .pointer (some ⟨bN, 0, none⟩), .pointer (some ⟨Bx, 0, none⟩), .string s, a8, a9, a10, a11, a12, a13, a14, a15, a16, undef, undef, .map (some nb), .string s, undef, .agg #[.map (some d), .int .i64 t], undef, undef, undef], defers := [] } Wa.drew := by
  refine wpAnyIn_ready (rs := [0, 1, 4, 6]) (by kernel_rfl) (by simp) ?_
  refine AllReadyIn.cons rfl (fun K hK => ?_) ?_
  · go_simp
    exact hK _ _ (ra_101101000 l Wa W2 W3 bN nb Bx d t s v v' a0 a1 a2 a3 a4 a8 a9 a10 a11 a12 a13 a14 a15 a16 d1 d2 d3 d4 d5 r1 r2 r3 r4)
  refine AllReadyIn.cons rfl (fun K hK => ?_) ?_
  · go_simp
    exact hK _ _ (ra_011101000 l Wa W2 W3 bN nb Bx d t s v v' a0 a1 a2 a3 a4 a8 a9 a10 a11 a12 a13 a14 a15 a16 d1 d2 d3 d4 d5 r1 r2 r3 r4)
  refine AllReadyIn.cons rfl (fun K hK => ?_) ?_
  · go_simp
    exact hK _ _ (ra_001111000 l Wa W2 W3 bN nb Bx d t s v v' a0 a1 a2 a3 a4 a8 a9 a10 a11 a12 a13 a14 a15 a16 d1 d2 d3 d4 d5 r1 r2 r3 r4)
  refine AllReadyIn.cons rfl (fun K hK => ?_) ?_
  · go_simp
    exact hK _ _ (ra_001101100 l Wa W2 W3 bN nb Bx d t s v v' a0 a1 a2 a3 a4 a8 a9 a10 a11 a12 a13 a14 a15 a16 d1 d2 d3 d4 d5 r1 r2 r3 r4)
  exact AllReadyIn.nil
theorem ra_001001100 :
    wpAnyIn (Fence.wide.inRound l) 7 Tryz.prog .any regOps (regQ W3) 6 #[false, false, true, false, false, true, true, false, false] { tmps := #[a0, a1, a2, a3, a4, .pointer (some ⟨bN, 0, none⟩), .pointer (some ⟨Bx, 0, none⟩), .string s, a8, a9, a10, a11, a12, a13, a14, a15, a16, undef, undef, .map (some nb), undef, undef, .agg #[.map (some d), .int .i64 t], .slice (some ⟨Wa.heap.size, 0, none⟩) 1 1, undef, undef], defers := [] } (Wa.alloc (.cells #[.map (some d), .int .i64 t] 131)).drew := by
  refine wpAnyIn_ready (rs := [0, 1, 3]) (by kernel_rfl) (by simp) ?_
  refine AllReadyIn.cons rfl (fun K hK => ?_) ?_
  · go_simp
    exact hK _ _ (ra_101001100 l Wa W2 W3 bN nb Bx d t s v v' a0 a1 a2 a3 a4 a8 a9 a10 a11 a12 a13 a14 a15 a16 d1 d2 d3 d4 d5 r1 r2 r3 r4)
  refine AllReadyIn.cons rfl (fun K hK => ?_) ?_
  · go_simp
    exact hK _ _ (ra_011001100 l Wa W2 W3 bN nb Bx d t s v v' a0 a1 a2 a3 a4 a8 a9 a10 a11 a12 a13 a14 a15 a16 d1 d2 d3 d4 d5 r1 r2 r3 r4)
  refine AllReadyIn.cons rfl (fun K hK => ?_) ?_
  · go_simp
    exact hK _ _ (ra_001101100 l Wa W2 W3 bN nb Bx d t s v v' a0 a1 a2 a3 a4 a8 a9 a10 a11 a12 a13 a14 a15 a16 d1 d2 d3 d4 d5 r1 r2 r3 r4)
  exact AllReadyIn.nil
theorem ra_011100000 :
    wpAnyIn (Fence.wide.inRound l) 7 Tryz.prog .any regOps (regQ W3) 6 #[false, true, true, true, false, false, false, false, false] { tmps := #[a0, a1, a2, a3, a4, .pointer (some ⟨bN, 0, none⟩), .pointer (some ⟨Bx, 0, none⟩), .string s, a8, a9, a10, a11, a12, a13, a14, a15, a16, undef, .string s, .map (some nb), .string s, undef, undef, undef, undef, undef], defers := [] } Wa.drew := by
  refine wpAnyIn_ready (rs := [0, 4, 5]) (by kernel_rfl) (by simp) ?_
  refine AllReadyIn.cons rfl (fun K hK => ?_) ?_
  · go_simp
    exact hK _ _ (ra_111100000 l Wa W2 W3 bN nb Bx d t s v v' a0 a1 a2 a3 a4 a8 a9 a10 a11 a12 a13 a14 a15 a16 d1 d2 d3 d4 d5 r1 r2 r3 r4)
  refine AllReadyIn.cons rfl (fun K hK => ?_) ?_
  · go_simp
    exact hK _ _ (ra_011110000 l Wa W2 W3 bN nb Bx d t s v v' a0 a1 a2 a3 a4 a8 a9 a10 a11 a12 a13 a14 a15 a16 d1 d2 d3 d4 d5 r1 r2 r3 r4)
  refine AllReadyIn.cons rfl (fun K hK => ?_) ?_
  · go_simp
    exact hK _ _ (ra_011101000 l Wa W2 W3 bN nb Bx d t s v v' a0 a1 a2 a3 a4 a8 a9 a10 a11 a12 a13 a14 a15 a16 d1 d2 d3 d4 d5 r1 r2 r3 r4)
  exact AllReadyIn.nil
theorem ra_111000000 :
    wpAnyIn (Fence.wide.inRound l) 7 Tryz.prog .any regOps (regQ W3) 6 #[true, true, true, false, false, false, false, false, false] { tmps := #[a0, a1, a2, a3, a4, .pointer (some ⟨bN, 0, none⟩), .pointer (some ⟨Bx, 0, none⟩), .string s, a8, a9, a10, a11, a12, a13, a14, a15, a16, .map (some nb), .string s, .map (some nb), undef, undef, undef, undef, undef, undef], defers := [] } Wa.drew := by
  refine wpAnyIn_ready (rs := [3, 5]) (by kernel_rfl) (by simp) ?_
  refine AllReadyIn.cons rfl (fun K hK => ?_) ?_
  · go_simp
    exact hK _ _ (ra_111100000 l Wa W2 W3 bN nb Bx d t s v v' a0 a1 a2 a3 a4 a8 a9 a10 a11 a12 a13 a14 a15 a16 d1 d2 d3 d4 d5 r1 r2 r3 r4)
  refine AllReadyIn.cons rfl (fun K hK => ?_) ?_
  · go_simp
    exact hK _ _ (ra_111001000 l Wa W2 W3 bN nb Bx d t s v v' a0 a1 a2 a3 a4 a8 a9 a10 a11 a12 a13 a14 a15 a16 d1 d2 d3 d4 d5 r1 r2 r3 r4)
  exact AllReadyIn.nil
theorem ra_011001000 :
    wpAnyIn (Fence.wide.inRound l) 7 Tryz.prog .any regOps (regQ W3) 6 #[false, true, true, false, false, true, false, false, false] { tmps := #[a0, a1, a2, a3, a4, .pointer (some ⟨bN, 0, none⟩), .pointer (some ⟨Bx, 0, none⟩), .string s, a8, a9, a10, a11, a12, a13, a14, a15, a16, undef, .string s, .map (some nb), undef, undef, .agg #[.map (some d), .int .i64 t], undef, undef, undef], defers := [] } Wa.drew := by
  refine wpAnyIn_ready (rs := [0, 3, 6]) (by kernel_rfl) (by simp) ?_
  refine AllReadyIn.cons rfl (fun K hK => ?_) ?_
  · go_simp
    exact hK _ _ (ra_111001000 l Wa W2 W3 bN nb Bx d t s v v' a0 a1 a2 a3 a4 a8 a9 a10 a11 a12 a13 a14 a15 a16 d1 d2 d3 d4 d5 r1 r2 r3 r4)
  refine AllReadyIn.cons rfl (fun K hK => ?_) ?_
  · go_simp
    exact hK _ _ (ra_011101000 l Wa W2 W3 bN nb Bx d t s v v' a0 a1 a2 a3 a4 a8 a9 a10 a11 a12 a13 a14 a15 a16 d1 d2 d3 d4 d5 r1 r2 r3 r4)
  refine AllReadyIn.cons rfl (fun K hK => ?_) ?_
  · go_simp
    exact hK _ _ (ra_011001100 l Wa W2 W3 bN nb Bx d t s v v' a0 a1 a2 a3 a4 a8 a9 a10 a11 a12 a13 a14 a15 a16 d1 d2 d3 d4 d5 r1 r2 r3 r4)
  exact AllReadyIn.nil
theorem ra_110100000 :
    wpAnyIn (Fence.wide.inRound l) 7 Tryz.prog .any regOps (regQ W3) 6 #[true, true, false, true, false, false, false, false, false] { tmps := #[a0, a1, a2, a3, a4, .pointer (some ⟨bN, 0, none⟩), .pointer (some ⟨Bx, 0, none⟩), .string s, a8, a9, a10, a11, a12, a13, a14, a15, a16, .map (some nb), .string s, undef, .string s, undef, undef, undef, undef, undef], defers := [] } Wa.drew := by
  refine wpAnyIn_ready (rs := [2, 5]) (by kernel_rfl) (by simp) ?_
  refine AllReadyIn.cons rfl (fun K hK => ?_) ?_
  · go_simp
    exact hK _ _ (ra_111100000 l Wa W2 W3 bN nb Bx d t s v v' a0 a1 a2 a3 a4 a8 a9 a10 a11 a12 a13 a14 a15 a16 d1 d2 d3 d4 d5 r1 r2 r3 r4)
  refine AllReadyIn.cons rfl (fun K hK => ?_) ?_
  · go_simp
    exact hK _ _ (ra_110101000 l Wa W2 W3 bN nb Bx d t s v v' a0 a1 a2 a3 a4 a8 a9 a10 a11 a12 a13 a14 a15 a16 d1 d2 d3 d4 d5 r1 r2 r3 r4)
  exact AllReadyIn.nil
theorem ra_000101100 :
    wpAnyIn (Fence.wide.inRound l) 7 Tryz.prog .any regOps (regQ W3) 6 #[false, false, false, true, false, true, true, false, false] { tmps := #[a0, a1, a2, a3, a4, .pointer (some ⟨bN, 0, none⟩), .pointer (some ⟨Bx, 0, none⟩), .string s, a8, a9, a10, a11, a12, a13, a14, a15, a16, undef, undef, undef, .string s, undef, .agg #[.map (some d), .int .i64 t], .slice (some ⟨Wa.heap.size, 0, none⟩) 1 1, undef, undef], defers := [] } (Wa.alloc (.cells #[.map (some d), .int .i64 t] 131)).drew := by
  refine wpAnyIn_ready (rs := [0, 1, 2]) (by kernel_rfl) (by simp) ?_
  refine AllReadyIn.cons rfl (fun K hK => ?_) ?_
  · go_simp
    exact hK _ _ (ra_100101100 l Wa W2 W3 bN nb Bx d t s v v' a0 a1 a2 a3 a4 a8 a9 a10 a11 a12 a13 a14 a15 a16 d1 d2 d3 d4 d5 r1 r2 r3 r4)
  refine AllReadyIn.cons rfl (fun K hK => ?_) ?_
  · go_simp
    exact hK _ _ (ra_010101100 l Wa W2 W3 bN nb Bx d t s v v' a0 a1 a2 a3 a4 a8 a9 a10 a11 a12 a13 a14 a15 a16 d1 d2 d3 d4 d5 r1 r2 r3 r4)
  refine AllReadyIn.cons rfl (fun K hK => ?_) ?_
  · go_simp
    exact hK _ _ (ra_001101100 l Wa W2 W3 bN nb Bx d t s v v' a0 a1 a2 a3 a4 a8 a9 a10 a11 a12 a13 a14 a15 a16 d1 d2 d3 d4 d5 r1 r2 r3 r4)
  exact AllReadyIn.nil
theorem ra_110001000 :
    wpAnyIn (Fence.wide.inRound l) 7 Tryz.prog .any regOps (regQ W3) 6 #[true, true, false, false, false, true, false, false, false] { tmps := #[a0, a1, a2, a3, a4, .pointer (some ⟨bN, 0, none⟩), .pointer (some ⟨Bx, 0, none⟩), .string s, a8, a9, a10, a11, a12, a13, a14, a15, a16, .map (some nb), .string s, undef, undef, undef, .agg #[.map (some d), .int .i64 t], undef, undef, undef], defers := [] } Wa.drew := by
  refine wpAnyIn_ready (rs := [2, 3, 6]) (by kernel_rfl) (by simp) ?_
  refine AllReadyIn.cons rfl (fun K hK => ?_) ?_
  · go_simp
    exact hK _ _ (ra_111001000 l Wa W2 W3 bN nb Bx d t s v v' a0 a1 a2 a3 a4 a8 a9 a10 a11 a12 a13 a14 a15 a16 d1 d2 d3 d4 d5 r1 r2 r3 r4)
  refine AllReadyIn.cons rfl (fun K hK => ?_) ?_
  · go_simp
    exact hK _ _ (ra_110101000 l Wa W2 W3 bN nb Bx d t s v v' a0 a1 a2 a3 a4 a8 a9 a10 a11 a12 a13 a14 a15 a16 d1 d2 d3 d4 d5 r1 r2 r3 r4)
  refine AllReadyIn.cons rfl (fun K hK => ?_) ?_
  · go_simp
    exact hK _ _ (ra_110001100 l Wa W2 W3 bN nb Bx d t s v v' a0 a1 a2 a3 a4 a8 a9 a10 a11 a12 a13 a14 a15 a16 d1 d2 d3 d4 d5 r1 r2 r3 r4)
  exact AllReadyIn.nil
theorem ra_010001100 :
    wpAnyIn (Fence.wide.inRound l) 7 Tryz.prog .any regOps (regQ W3) 6 #[false, true, false, false, false, true, true, false, false] { tmps := #[a0, a1, a2, a3, a4, .pointer (some ⟨bN, 0, none⟩), .pointer (some ⟨Bx, 0, none⟩), .string s, a8, a9, a10, a11, a12, a13, a14, a15, a16, undef, .string s, undef, undef, undef, .agg #[.map (some d), .int .i64 t], .slice (some ⟨Wa.heap.size, 0, none⟩) 1 1, undef, undef], defers := [] } (Wa.alloc (.cells #[.map (some d), .int .i64 t] 131)).drew := by
  refine wpAnyIn_ready (rs := [0, 2, 3]) (by kernel_rfl) (by simp) ?_
  refine AllReadyIn.cons rfl (fun K hK => ?_) ?_
  · go_simp
    exact hK _ _ (ra_110001100 l Wa W2 W3 bN nb Bx d t s v v' a0 a1 a2 a3 a4 a8 a9 a10 a11 a12 a13 a14 a15 a16 d1 d2 d3 d4 d5 r1 r2 r3 r4)
  refine AllReadyIn.cons rfl (fun K hK => ?_) ?_
  · go_simp
    exact hK _ _ (ra_011001100 l Wa W2 W3 bN nb Bx d t s v v' a0 a1 a2 a3 a4 a8 a9 a10 a11 a12 a13 a14 a15 a16 d1 d2 d3 d4 d5 r1 r2 r3 r4)
  refine AllReadyIn.cons rfl (fun K hK => ?_) ?_
  · go_simp
    exact hK _ _ (ra_010101100 l Wa W2 W3 bN nb Bx d t s v v' a0 a1 a2 a3 a4 a8 a9 a10 a11 a12 a13 a14 a15 a16 d1 d2 d3 d4 d5 r1 r2 r3 r4)
  exact AllReadyIn.nil
theorem ra_001100000 :
    wpAnyIn (Fence.wide.inRound l) 7 Tryz.prog .any regOps (regQ W3) 7 #[false, false, true, true, false, false, false, false, false] { tmps := #[a0, a1, a2, a3, a4, .pointer (some ⟨bN, 0, none⟩), .pointer (some ⟨Bx, 0, none⟩), .string s, a8, a9, a10, a11, a12, a13, a14, a15, a16, undef, undef, .map (some nb), .string s, undef, undef, undef, undef, undef], defers := [] } Wa.drew := by
  refine wpAnyIn_ready (rs := [0, 1, 4, 5]) (by kernel_rfl) (by simp) ?_
  refine AllReadyIn.cons rfl (fun K hK => ?_) ?_
  · go_simp
    exact hK _ _ (ra_101100000 l Wa W2 W3 bN nb Bx d t s v v' a0 a1 a2 a3 a4 a8 a9 a10 a11 a12 a13 a14 a15 a16 d1 d2 d3 d4 d5 r1 r2 r3 r4)
  refine AllReadyIn.cons rfl (fun K hK => ?_) ?_
  · go_simp
    exact hK _ _ (ra_011100000 l Wa W2 W3 bN nb Bx d t s v v' a0 a1 a2 a3 a4 a8 a9 a10 a11 a12 a13 a14 a15 a16 d1 d2 d3 d4 d5 r1 r2 r3 r4)
  refine AllReadyIn.cons rfl (fun K hK => ?_) ?_
  · go_simp
    exact hK _ _ (ra_001110000 l Wa W2 W3 bN nb Bx d t s v v' a0 a1 a2 a3 a4 a8 a9 a10 a11 a12 a13 a14 a15 a16 d1 d2 d3 d4 d5 r1 r2 r3 r4)
  refine AllReadyIn.cons rfl (fun K hK => ?_) ?_
  · go_simp
    exact hK _ _ (ra_001101000 l Wa W2 W3 bN nb Bx d t s v v' a0 a1 a2 a3 a4 a8 a9 a10 a11 a12 a13 a14 a15 a16 d1 d2 d3 d4 d5 r1 r2 r3 r4)
  exact AllReadyIn.nil
theorem ra_100001000 :
    wpAnyIn (Fence.wide.inRound l) 7 Tryz.prog .any regOps (regQ W3) 7 #[true, false, false, false, false, true, false, false, false] { tmps := #[a0, a1, a2, a3, a4, .pointer (some ⟨bN, 0, none⟩), .pointer (some ⟨Bx, 0, none⟩), .string s, a8, a9, a10, a11, a12, a13, a14, a15, a16, .map (some nb), undef, undef, undef, undef, .agg #[.map (some d), .int .i64 t], undef, undef, undef], defers := [] } Wa.drew := by
  refine wpAnyIn_ready (rs := [1, 2, 3, 6]) (by kernel_rfl) (by simp) ?_
  refine AllReadyIn.cons rfl (fun K hK => ?_) ?_
  · go_simp
    exact hK _ _ (ra_110001000 l Wa W2 W3 bN nb Bx d t s v v' a0 a1 a2 a3 a4 a8 a9 a10 a11 a12 a13 a14 a15 a16 d1 d2 d3 d4 d5 r1 r2 r3 r4)
  refine AllReadyIn.cons rfl (fun K hK => ?_) ?_
  · go_simp
    exact hK _ _ (ra_101001000 l Wa W2 W3 bN nb Bx d t s v v' a0 a1 a2 a3 a4 a8 a9 a10 a11 a12 a13 a14 a15 a16 d1 d2 d3 d4 d5 r1 r2 r3 r4)
  refine AllReadyIn.cons rfl (fun K hK => ?_) ?_
  · go_simp
    exact hK _ _ (ra_100101000 l Wa W2 W3 bN nb Bx d t s v v' a0 a1 a2 a3 a4 a8 a9 a10 a11 a12 a13 a14 a15 a16 d1 d2 d3 d4 d5 r1 r2 r3 r4)
  refine AllReadyIn.cons rfl (fun K hK => ?_) ?_
  · go_simp
    exact hK _ _ (ra_100001100 l Wa W2 W3 bN nb Bx d t s v v' a0 a1 a2 a3 a4 a8 a9 a10 a11 a12 a13 a14 a15 a16 d1 d2 d3 d4 d5 r1 r2 r3 r4)
  exact AllReadyIn.nil
theorem ra_100100000 :
    wpAnyIn (Fence.wide.inRound l) 7 Tryz.prog .any regOps (regQ W3) 7 #[true, false, false, true, false, false, false, false, false] { tmps := #[a0, a1, a2, a3, a4, .pointer (some ⟨bN, 0, none⟩), .pointer (some ⟨Bx, 0, none⟩), .string s, a8, a9, a10, a11, a12, a13, a14, a15, a16, .map (some nb), undef, undef, .string s, undef, undef, undef, undef, undef], defers := [] } Wa.drew := by
  refine wpAnyIn_ready (rs := [1, 2, 5]) (by kernel_rfl) (by simp) ?_
  refine AllReadyIn.cons rfl (fun K hK => ?_) ?_
  · go_simp
    exact hK _ _ (ra_110100000 l Wa W2 W3 bN nb Bx d t s v v' a0 a1 a2 a3 a4 a8 a9 a10 a11 a12 a13 a14 a15 a16 d1 d2 d3 d4 d5 r1 r2 r3 r4)
  refine AllReadyIn.cons rfl (fun K hK => ?_) ?_
  · go_simp
    exact hK _ _ (ra_101100000 l Wa W2 W3 bN nb Bx d t s v v' a0 a1 a2 a3 a4 a8 a9 a10 a11 a12 a13 a14 a15 a16 d1 d2 d3 d4 d5 r1 r2 r3 r4)
  refine AllReadyIn.cons rfl (fun K hK => ?_) ?_
  · go_simp
    exact hK _ _ (ra_100101000 l Wa W2 W3 bN nb Bx d t s v v' a0 a1 a2 a3 a4 a8 a9 a10 a11 a12 a13 a14 a15 a16 d1 d2 d3 d4 d5 r1 r2 r3 r4)
  exact AllReadyIn.nil
theorem ra_101000000 :
    wpAnyIn (Fence.wide.inRound l) 7 Tryz.prog .any regOps (regQ W3) 7 #[true, false, true, false, false, false, false, false, false] { tmps := #[a0, a1, a2, a3, a4, .pointer (some ⟨bN, 0, none⟩), .pointer (some ⟨Bx, 0, none⟩), .string s, a8, a9, a10, a11, a12, a13, a14, a15, a16, .map (some nb), undef, .map (some nb), undef, undef, undef, undef, undef, undef], defers := [] } Wa.drew := by
  refine wpAnyIn_ready (rs := [1, 3, 5]) (by kernel_rfl) (by simp) ?_
  refine AllReadyIn.cons rfl (fun K hK => ?_) ?_
  · go_simp
    exact hK _ _ (ra_111000000 l Wa W2 W3 bN nb Bx d t s v v' a0 a1 a2 a3 a4 a8 a9 a10 a11 a12 a13 a14 a15 a16 d1 d2 d3 d4 d5 r1 r2 r3 r4)
  refine AllReadyIn.cons rfl (fun K hK => ?_) ?_
  · go_simp
    exact hK _ _ (ra_101100000 l Wa W2 W3 bN nb Bx d t s v v' a0 a1 a2 a3 a4 a8 a9 a10 a11 a12 a13 a14 a15 a16 d1 d2 d3 d4 d5 r1 r2 r3 r4)
  refine AllReadyIn.cons rfl (fun K hK => ?_) ?_
  · go_simp
    exact hK _ _ (ra_101001000 l Wa W2 W3 bN nb Bx d t s v v' a0 a1 a2 a3 a4 a8 a9 a10 a11 a12 a13 a14 a15 a16 d1 d2 d3 d4 d5 r1 r2 r3 r4)
  exact AllReadyIn.nil
theorem ra_000001100 :
    wpAnyIn (Fence.wide.inRound l) 7 Tryz.prog .any regOps (regQ W3) 7 #[false, false, false, false, false, true, true, false, false] { tmps := #[a0, a1, a2, a3, a4, .pointer (some ⟨bN, 0, none⟩), .pointer (some ⟨Bx, 0, none⟩), .string s, a8, a9, a10, a11, a12, a13, a14, a15, a16, undef, undef, undef, undef, undef, .agg #[.map (some d), .int .i64 t], .slice (some ⟨Wa.heap.size, 0, none⟩) 1 1, undef, undef], defers := [] } (Wa.alloc (.cells #[.map (some d), .int .i64 t] 131)).drew := by
  refine wpAnyIn_ready (rs := [0, 1, 2, 3]) (by kernel_rfl) (by simp) ?_
  refine AllReadyIn.cons rfl (fun K hK => ?_) ?_
  · go_simp
    exact hK _ _ (ra_100001100 l Wa W2 W3 bN nb Bx d t s v v' a0 a1 a2 a3 a4 a8 a9 a10 a11 a12 a13 a14 a15 a16 d1 d2 d3 d4 d5 r1 r2 r3 r4)
  refine AllReadyIn.cons rfl (fun K hK => ?_) ?_
  · go_simp
    exact hK _ _ (ra_010001100 l Wa W2 W3 bN nb Bx d t s v v' a0 a1 a2 a3 a4 a8 a9 a10 a11 a12 a13 a14 a15 a16 d1 d2 d3 d4 d5 r1 r2 r3 r4)
  refine AllReadyIn.cons rfl (fun K hK => ?_) ?_
  · go_simp
    exact hK _ _ (ra_001001100 l Wa W2 W3 bN nb Bx d t s v v' a0 a1 a2 a3 a4 a8 a9 a10 a11 a12 a13 a14 a15 a16 d1 d2 d3 d4 d5 r1 r2 r3 r4)
  refine AllReadyIn.cons rfl (fun K hK => ?_) ?_
  · go_simp
    exact hK _ _ (ra_000101100 l Wa W2 W3 bN nb Bx d t s v v' a0 a1 a2 a3 a4 a8 a9 a10 a11 a12 a13 a14 a15 a16 d1 d2 d3 d4 d5 r1 r2 r3 r4)
  exact AllReadyIn.nil
theorem ra_000101000 :
    wpAnyIn (Fence.wide.inRound l) 7 Tryz.prog .any regOps (regQ W3) 7 #[false, false, false, true, false, true, false, false, false] { tmps := #[a0, a1, a2, a3, a4, .pointer (some ⟨bN, 0, none⟩), .pointer (some ⟨Bx, 0, none⟩), .string s, a8, a9, a10, a11, a12, a13, a14, a15, a16, undef, undef, undef, .string s, undef, .agg #[.map (some d), .int .i64 t], undef, undef, undef], defers := [] } Wa.drew := by
  refine wpAnyIn_ready (rs := [0, 1, 2, 6]) (by kernel_rfl) (by simp) ?_
  refine AllReadyIn.cons rfl (fun K hK => ?_) ?_
  · go_simp
    exact hK _ _ (ra_100101000 l Wa W2 W3 bN nb Bx d t s v v' a0 a1 a2 a3 a4 a8 a9 a10 a11 a12 a13 a14 a15 a16 d1 d2 d3 d4 d5 r1 r2 r3 r4)
  refine AllReadyIn.cons rfl (fun K hK => ?_) ?_
  · go_simp
    exact hK _ _ (ra_010101000 l Wa W2 W3 bN nb Bx d t s v v' a0 a1 a2 a3 a4 a8 a9 a10 a11 a12 a13 a14 a15 a16 d1 d2 d3 d4 d5 r1 r2 r3 r4)
  refine AllReadyIn.cons rfl (fun K hK => ?_) ?_
  · go_simp
    exact hK _ _ (ra_001101000 l Wa W2 W3 bN nb Bx d t s v v' a0 a1 a2 a3 a4 a8 a9 a10 a11 a12 a13 a14 a15 a16 d1 d2 d3 d4 d5 r1 r2 r3 r4)
  refine AllReadyIn.cons rfl (fun K hK => ?_) ?_
  · go_simp
    exact hK _ _ (ra_000101100 l Wa W2 W3 bN nb Bx d t s v v' a0 a1 a2 a3 a4 a8 a9 a10 a11 a12 a13 a14 a15 a16 d1 d2 d3 d4 d5 r1 r2 r3 r4)
  exact AllReadyIn.nil
theorem ra_010100000 :
    wpAnyIn (Fence.wide.inRound l) 7 Tryz.prog .any regOps (regQ W3) 7 #[false, true, false, true, false, false, false, false, false] { tmps := #[a0, a1, a2, a3, a4, .pointer (some ⟨bN, 0, none⟩), .pointer (some ⟨Bx, 0, none⟩), .string s, a8, a9, a10, a11, a12, a13, a14, a15, a16, undef, .string s, undef, .string s, undef, undef, undef, undef, undef], defers := [] } Wa.drew := by
  refine wpAnyIn_ready (rs := [0, 2, 5]) (by kernel_rfl) (by simp) ?_
  refine AllReadyIn.cons rfl (fun K hK => ?_) ?_
  · go_simp
    exact hK _ _ (ra_110100000 l Wa W2 W3 bN nb Bx d t s v v' a0 a1 a2 a3 a4 a8 a9 a10 a11 a12 a13 a14 a15 a16 d1 d2 d3 d4 d5 r1 r2 r3 r4)
  refine AllReadyIn.cons rfl (fun K hK => ?_) ?_
  · go_simp
    exact hK _ _ (ra_011100000 l Wa W2 W3 bN nb Bx d t s v v' a0 a1 a2 a3 a4 a8 a9 a10 a11 a12 a13 a14 a15 a16 d1 d2 d3 d4 d5 r1 r2 r3 r4)
  refine AllReadyIn.cons rfl (fun K hK => ?_) ?_
  · go_simp
    exact hK _ _ (ra_010101000 l Wa W2 W3 bN nb Bx d t s v v' a0 a1 a2 a3 a4 a8 a9 a10 a11 a12 a13 a14 a15 a16 d1 d2 d3 d4 d5 r1 r2 r3 r4)
  exact AllReadyIn.nil
theorem ra_110000000 :
    wpAnyIn (Fence.wide.inRound l) 7 Tryz.prog .any regOps (regQ W3) 7 #[true, true, false, false, false, false, false, false, false] { tmps := #[a0, a1, a2, a3, a4, .pointer (some ⟨bN, 0, none⟩), .pointer (some ⟨Bx, 0, none⟩), .string s, a8, a9, a10, a11, a12, a13, a14, a15, a16, .map (some nb), .string s, undef, undef, undef, undef, undef, undef, undef], defers := [] } Wa.drew := by
  refine wpAnyIn_ready (rs := [2, 3, 5]) (by kernel_rfl) (by simp) ?_
  refine AllReadyIn.cons rfl (fun K hK => ?_) ?_
  · go_simp
    exact hK _ _ (ra_111000000 l Wa W2 W3 bN nb Bx d t s v v' a0 a1 a2 a3 a4 a8 a9 a10 a11 a12 a13 a14 a15 a16 d1 d2 d3 d4 d5 r1 r2 r3 r4)
  refine AllReadyIn.cons rfl (fun K hK => ?_) ?_
  · go_simp
    exact hK _ _ (ra_110100000 l Wa W2 W3 bN nb Bx d t s v v' a0 a1 a2 a3 a4 a8 a9 a10 a11 a12 a13 a14 a15 a16 d1 d2 d3 d4 d5 r1 r2 r3 r4)
  refine AllReadyIn.cons rfl (fun K hK => ?_) ?_
  · go_simp
    exact hK _ _ (ra_110001000 l Wa W2 W3 bN nb Bx d t s v v' a0 a1 a2 a3 a4 a8 a9 a10 a11 a12 a13 a14 a15 a16 d1 d2 d3 d4 d5 r1 r2 r3 r4)
  exact AllReadyIn.nil
theorem ra_010001000 :
    wpAnyIn (Fence.wide.inRound l) 7 Tryz.prog .any regOps (regQ W3) 7 #[false, true, false, false, false, true, false, false, false] { tmps := #[a0, a1, a2, a3, a4, .pointer (some ⟨bN, 0, none⟩), .pointer (some ⟨Bx, 0, none⟩), .string s, a8, a9, a10, a11, a12, a13, a14, a15, a16, undef, .string s, undef, undef, undef, .agg #[.map (some d), .int .i64 t], undef, undef, undef], defers := [] } Wa.drew := by
  refine wpAnyIn_ready (rs := [0, 2, 3, 6]) (by kernel_rfl) (by simp) ?_
  refine AllReadyIn.cons rfl (fun K hK => ?_) ?_
  · go_simp
    exact hK _ _ (ra_110001000 l Wa W2 W3 bN nb Bx d t s v v' a0 a1 a2 a3 a4 a8 a9 a10 a11 a12 a13 a14 a15 a16 d1 d2 d3 d4 d5 r1 r2 r3 r4)
  refine AllReadyIn.cons rfl (fun K hK => ?_) ?_
  · go_simp
    exact hK _ _ (ra_011001000 l Wa W2 W3 bN nb Bx d t s v v' a0 a1 a2 a3 a4 a8 a9 a10 a11 a12 a13 a14 a15 a16 d1 d2 d3 d4 d5 r1 r2 r3 r4)
  refine AllReadyIn.cons rfl (fun K hK => ?_) ?_
  · go_simp
    exact hK _ _ (ra_010101000 l Wa W2 W3 bN nb Bx d t s v v' a0 a1 a2 a3 a4 a8 a9 a10 a11 a12 a13 a14 a15 a16 d1 d2 d3 d4 d5 r1 r2 r3 r4)
  refine AllReadyIn.cons rfl (fun K hK => ?_) ?_
  · go_simp
    exact hK _ _ (ra_010001100 l Wa W2 W3 bN nb Bx d t s v v' a0 a1 a2 a3 a4 a8 a9 a10 a11 a12 a13 a14 a15 a16 d1 d2 d3 d4 d5 r1 r2 r3 r4)
  exact AllReadyIn.nil
theorem ra_011000000 :
    wpAnyIn (Fence.wide.inRound l) 7 Tryz.prog .any regOps (regQ W3) 7 #[false, true, true, false, false, false, false, false, false] { tmps := #[a0, a1, a2, a3, a4, .pointer (some ⟨bN, 0, none⟩), .pointer (some ⟨Bx, 0, none⟩), .string s, a8, a9, a10, a11, a12, a13, a14, a15, a16, undef, .string s, .map (some nb), undef, undef, undef, undef, undef, undef], defers := [] } Wa.drew := by
  refine wpAnyIn_ready (rs := [0, 3, 5]) (by kernel_rfl) (by simp) ?_
  refine AllReadyIn.cons rfl (fun K hK => ?_) ?_
  · go_simp
    exact hK _ _ (ra_111000000 l Wa W2 W3 bN nb Bx d t s v v' a0 a1 a2 a3 a4 a8 a9 a10 a11 a12 a13 a14 a15 a16 d1 d2 d3 d4 d5 r1 r2 r3 r4)
  refine AllReadyIn.cons rfl (fun K hK => ?_) ?_
  · go_simp
    exact hK _ _ (ra_011100000 l Wa W2 W3 bN nb Bx d t s v v' a0 a1 a2 a3 a4 a8 a9 a10 a11 a12 a13 a14 a15 a16 d1 d2 d3 d4 d5 r1 r2 r3 r4)
  refine AllReadyIn.cons rfl (fun K hK => ?_) ?_
  · go_simp
    exact hK _ _ (ra_011001000 l Wa W2 W3 bN nb Bx d t s v v' a0 a1 a2 a3 a4 a8 a9 a10 a11 a12 a13 a14 a15 a16 d1 d2 d3 d4 d5 r1 r2 r3 r4)
  exact AllReadyIn.nil
theorem ra_001001000 :
    wpAnyIn (Fence.wide.inRound l) 7 Tryz.prog .any regOps (regQ W3) 7 #[false, false, true, false, false, true, false, false, false] { tmps := #[a0, a1, a2, a3, a4, .pointer (some ⟨bN, 0, none⟩), .pointer (some ⟨Bx, 0, none⟩), .string s, a8, a9, a10, a11, a12, a13, a14, a15, a16, undef, undef, .map (some nb), undef, undef, .agg #[.map (some d), .int .i64 t], undef, undef, undef], defers := [] } Wa.drew := by
  refine wpAnyIn_ready (rs := [0, 1, 3, 6]) (by kernel_rfl) (by simp) ?_
  refine AllReadyIn.cons rfl (fun K hK => ?_) ?_
  · go_simp
    exact hK _ _ (ra_101001000 l Wa W2 W3 bN nb Bx d t s v v' a0 a1 a2 a3 a4 a8 a9 a10 a11 a12 a13 a14 a15 a16 d1 d2 d3 d4 d5 r1 r2 r3 r4)
  refine AllReadyIn.cons rfl (fun K hK => ?_) ?_
  · go_simp
    exact hK _ _ (ra_011001000 l Wa W2 W3 bN nb Bx d t s v v' a0 a1 a2 a3 a4 a8 a9 a10 a11 a12 a13 a14 a15 a16 d1 d2 d3 d4 d5 r1 r2 r3 r4)
  refine AllReadyIn.cons rfl (fun K hK => ?_) ?_
  · go_simp
    exact hK _ _ (ra_001101000 l Wa W2 W3 bN nb Bx d t s v v' a0 a1 a2 a3 a4 a8 a9 a10 a11 a12 a13 a14 a15 a16 d1 d2 d3 d4 d5 r1 r2 r3 r4)
  refine AllReadyIn.cons rfl (fun K hK => ?_) ?_
  · go_simp
    exact hK _ _ (ra_001001100 l Wa W2 W3 bN nb Bx d t s v v' a0 a1 a2 a3 a4 a8 a9 a10 a11 a12 a13 a14 a15 a16 d1 d2 d3 d4 d5 r1 r2 r3 r4)
  exact AllReadyIn.nil
theorem ra_010000000 :
    wpAnyIn (Fence.wide.inRound l) 7 Tryz.prog .any regOps (regQ W3) 8 #[false, true, false, false, false, false, false, false, false] { tmps := #[a0, a1, a2, a3, a4, .pointer (some ⟨bN, 0, none⟩), .pointer (some ⟨Bx, 0, none⟩), .string s, a8, a9, a10, a11, a12, a13, a14, a15, a16, undef, .string s, undef, undef, undef, undef, undef, undef, undef], defers := [] } Wa.drew := by
  refine wpAnyIn_ready (rs := [0, 2, 3, 5]) (by kernel_rfl) (by simp) ?_
  refine AllReadyIn.cons rfl (fun K hK => ?_) ?_
  · go_simp
    exact hK _ _ (ra_110000000 l Wa W2 W3 bN nb Bx d t s v v' a0 a1 a2 a3 a4 a8 a9 a10 a11 a12 a13 a14 a15 a16 d1 d2 d3 d4 d5 r1 r2 r3 r4)
  refine AllReadyIn.cons rfl (fun K hK => ?_) ?_
  · go_simp
    exact hK _ _ (ra_011000000 l Wa W2 W3 bN nb Bx d t s v v' a0 a1 a2 a3 a4 a8 a9 a10 a11 a12 a13 a14 a15 a16 d1 d2 d3 d4 d5 r1 r2 r3 r4)
  refine AllReadyIn.cons rfl (fun K hK => ?_) ?_
  · go_simp
    exact hK _ _ (ra_010100000 l Wa W2 W3 bN nb Bx d t s v v' a0 a1 a2 a3 a4 a8 a9 a10 a11 a12 a13 a14 a15 a16 d1 d2 d3 d4 d5 r1 r2 r3 r4)
  refine AllReadyIn.cons rfl (fun K hK => ?_) ?_
  · go_simp
    exact hK _ _ (ra_010001000 l Wa W2 W3 bN nb Bx d t s v v' a0 a1 a2 a3 a4 a8 a9 a10 a11 a12 a13 a14 a15 a16 d1 d2 d3 d4 d5 r1 r2 r3 r4)
  exact AllReadyIn.nil
theorem ra_000001000 :
    wpAnyIn (Fence.wide.inRound l) 7 Tryz.prog .any regOps (regQ W3) 8 #[false, false, false, false, false, true, false, false, false] { tmps := #[a0, a1, a2, a3, a4, .pointer (some ⟨bN, 0, none⟩), .pointer (some ⟨Bx, 0, none⟩), .string s, a8, a9, a10, a11, a12, a13, a14, a15, a16, undef, undef, undef, undef, undef, .agg #[.map (some d), .int .i64 t], undef, undef, undef], defers := [] } Wa.drew := by
  refine wpAnyIn_ready (rs := [0, 1, 2, 3, 6]) (by kernel_rfl) (by simp) ?_
  refine AllReadyIn.cons rfl (fun K hK => ?_) ?_
  · go_simp
    exact hK _ _ (ra_100001000 l Wa W2 W3 bN nb Bx d t s v v' a0 a1 a2 a3 a4 a8 a9 a10 a11 a12 a13 a14 a15 a16 d1 d2 d3 d4 d5 r1 r2 r3 r4)
  refine AllReadyIn.cons rfl (fun K hK => ?_) ?_
  · go_simp
    exact hK _ _ (ra_010001000 l Wa W2 W3 bN nb Bx d t s v v' a0 a1 a2 a3 a4 a8 a9 a10 a11 a12 a13 a14 a15 a16 d1 d2 d3 d4 d5 r1 r2 r3 r4)
  refine AllReadyIn.cons rfl (fun K hK => ?_) ?_
  · go_simp
    exact hK _ _ (ra_001001000 l Wa W2 W3 bN nb Bx d t s v v' a0 a1 a2 a3 a4 a8 a9 a10 a11 a12 a13 a14 a15 a16 d1 d2 d3 d4 d5 r1 r2 r3 r4)
  refine AllReadyIn.cons rfl (fun K hK => ?_) ?_
  · go_simp
    exact hK _ _ (ra_000101000 l Wa W2 W3 bN nb Bx d t s v v' a0 a1 a2 a3 a4 a8 a9 a10 a11 a12 a13 a14 a15 a16 d1 d2 d3 d4 d5 r1 r2 r3 r4)
  refine AllReadyIn.cons rfl (fun K hK => ?_) ?_
  · go_simp
    exact hK _ _ (ra_000001100 l Wa W2 W3 bN nb Bx d t s v v' a0 a1 a2 a3 a4 a8 a9 a10 a11 a12 a13 a14 a15 a16 d1 d2 d3 d4 d5 r1 r2 r3 r4)
  exact AllReadyIn.nil
theorem ra_001000000 :
    wpAnyIn (Fence.wide.inRound l) 7 Tryz.prog .any regOps (regQ W3) 8 #[false, false, true, false, false, false, false, false, false] { tmps := #[a0, a1, a2, a3, a4, .pointer (some ⟨bN, 0, none⟩), .pointer (some ⟨Bx, 0, none⟩), .string s, a8, a9, a10, a11, a12, a13, a14, a15, a16, undef, undef, .map (some nb), undef, undef, undef, undef, undef, undef], defers := [] } Wa.drew := by
  refine wpAnyIn_ready (rs := [0, 1, 3, 5]) (by kernel_rfl) (by simp) ?_
  refine AllReadyIn.cons rfl (fun K hK => ?_) ?_
  · go_simp
    exact hK _ _ (ra_101000000 l Wa W2 W3 bN nb Bx d t s v v' a0 a1 a2 a3 a4 a8 a9 a10 a11 a12 a13 a14 a15 a16 d1 d2 d3 d4 d5 r1 r2 r3 r4)
  refine AllReadyIn.cons rfl (fun K hK => ?_) ?_
  · go_simp
    exact hK _ _ (ra_011000000 l Wa W2 W3 bN nb Bx d t s v v' a0 a1 a2 a3 a4 a8 a9 a10 a11 a12 a13 a14 a15 a16 d1 d2 d3 d4 d5 r1 r2 r3 r4)
  refine AllReadyIn.cons rfl (fun K hK => ?_) ?_
  · go_simp
    exact hK _ _ (ra_001100000 l Wa W2 W3 bN nb Bx d t s v v' a0 a1 a2 a3 a4 a8 a9 a10 a11 a12 a13 a14 a15 a16 d1 d2 d3 d4 d5 r1 r2 r3 r4)
  refine AllReadyIn.cons rfl (fun K hK => ?_) ?_
  · go_simp
    exact hK _ _ (ra_001001000 l Wa W2 W3 bN nb Bx d t s v v' a0 a1 a2 a3 a4 a8 a9 a10 a11 a12 a13 a14 a15 a16 d1 d2 d3 d4 d5 r1 r2 r3 r4)
  exact AllReadyIn.nil
theorem ra_000100000 :
    wpAnyIn (Fence.wide.inRound l) 7 Tryz.prog .any regOps (regQ W3) 8 #[false, false, false, true, false, false, false, false, false] { tmps := #[a0, a1, a2, a3, a4, .pointer (some ⟨bN, 0, none⟩), .pointer (some ⟨Bx, 0, none⟩), .string s, a8, a9, a10, a11, a12, a13, a14, a15, a16, undef, undef, undef, .string s, undef, undef, undef, undef, undef], defers := [] } Wa.drew := by
  refine wpAnyIn_ready (rs := [0, 1, 2, 5]) (by kernel_rfl) (by simp) ?_
  refine AllReadyIn.cons rfl (fun K hK => ?_) ?_
  · go_simp
    exact hK _ _ (ra_100100000 l Wa W2 W3 bN nb Bx d t s v v' a0 a1 a2 a3 a4 a8 a9 a10 a11 a12 a13 a14 a15 a16 d1 d2 d3 d4 d5 r1 r2 r3 r4)
  refine AllReadyIn.cons rfl (fun K hK => ?_) ?_
  · go_simp
    exact hK _ _ (ra_010100000 l Wa W2 W3 bN nb Bx d t s v v' a0 a1 a2 a3 a4 a8 a9 a10 a11 a12 a13 a14 a15 a16 d1 d2 d3 d4 d5 r1 r2 r3 r4)
  refine AllReadyIn.cons rfl (fun K hK => ?_) ?_
  · go_simp
    exact hK _ _ (ra_001100000 l Wa W2 W3 bN nb Bx d t s v v' a0 a1 a2 a3 a4 a8 a9 a10 a11 a12 a13 a14 a15 a16 d1 d2 d3 d4 d5 r1 r2 r3 r4)
  refine AllReadyIn.cons rfl (fun K hK => ?_) ?_
  · go_simp
    exact hK _ _ (ra_000101000 l Wa W2 W3 bN nb Bx d t s v v' a0 a1 a2 a3 a4 a8 a9 a10 a11 a12 a13 a14 a15 a16 d1 d2 d3 d4 d5 r1 r2 r3 r4)
  exact AllReadyIn.nil
theorem ra_100000000 :
    wpAnyIn (Fence.wide.inRound l) 7 Tryz.prog .any regOps (regQ W3) 8 #[true, false, false, false, false, false, false, false, false] { tmps := #[a0, a1, a2, a3, a4, .pointer (some ⟨bN, 0, none⟩), .pointer (some ⟨Bx, 0, none⟩), .string s, a8, a9, a10, a11, a12, a13, a14, a15, a16, .map (some nb), undef, undef, undef, undef, undef, undef, undef, undef], defers := [] } Wa.drew := by
  refine wpAnyIn_ready (rs := [1, 2, 3, 5]) (by kernel_rfl) (by simp) ?_
  refine AllReadyIn.cons rfl (fun K hK => ?_) ?_
  · go_simp
    exact hK _ _ (ra_110000000 l Wa W2 W3 bN nb Bx d t s v v' a0 a1 a2 a3 a4 a8 a9 a10 a11 a12 a13 a14 a15 a16 d1 d2 d3 d4 d5 r1 r2 r3 r4)
  refine AllReadyIn.cons rfl (fun K hK => ?_) ?_
  · go_simp
    exact hK _ _ (ra_101000000 l Wa W2 W3 bN nb Bx d t s v v' a0 a1 a2 a3 a4 a8 a9 a10 a11 a12 a13 a14 a15 a16 d1 d2 d3 d4 d5 r1 r2 r3 r4)
  refine AllReadyIn.cons rfl (fun K hK => ?_) ?_
  · go_simp
    exact hK _ _ (ra_100100000 l Wa W2 W3 bN nb Bx d t s v v' a0 a1 a2 a3 a4 a8 a9 a10 a11 a12 a13 a14 a15 a16 d1 d2 d3 d4 d5 r1 r2 r3 r4)
  refine AllReadyIn.cons rfl (fun K hK => ?_) ?_
  · go_simp
    exact hK _ _ (ra_100001000 l Wa W2 W3 bN nb Bx d t s v v' a0 a1 a2 a3 a4 a8 a9 a10 a11 a12 a13 a14 a15 a16 d1 d2 d3 d4 d5 r1 r2 r3 r4)
  exact AllReadyIn.nil
theorem ra_000000000 :
    wpAnyIn (Fence.wide.inRound l) 7 Tryz.prog .any regOps (regQ W3) 9 #[false, false, false, false, false, false, false, false, false] { tmps := #[a0, a1, a2, a3, a4, .pointer (some ⟨bN, 0, none⟩), .pointer (some ⟨Bx, 0, none⟩), .string s, a8, a9, a10, a11, a12, a13, a14, a15, a16, undef, undef, undef, undef, undef, undef, undef, undef, undef], defers := [] } Wa.drew := by
  refine wpAnyIn_ready (rs := [0, 1, 2, 3, 5]) (by kernel_rfl) (by simp) ?_
  refine AllReadyIn.cons rfl (fun K hK => ?_) ?_
  · go_simp
    exact hK _ _ (ra_100000000 l Wa W2 W3 bN nb Bx d t s v v' a0 a1 a2 a3 a4 a8 a9 a10 a11 a12 a13 a14 a15 a16 d1 d2 d3 d4 d5 r1 r2 r3 r4)
  refine AllReadyIn.cons rfl (fun K hK => ?_) ?_
  · go_simp
    exact hK _ _ (ra_010000000 l Wa W2 W3 bN nb Bx d t s v v' a0 a1 a2 a3 a4 a8 a9 a10 a11 a12 a13 a14 a15 a16 d1 d2 d3 d4 d5 r1 r2 r3 r4)
  refine AllReadyIn.cons rfl (fun K hK => ?_) ?_
  · go_simp
    exact hK _ _ (ra_001000000 l Wa W2 W3 bN nb Bx d t s v v' a0 a1 a2 a3 a4 a8 a9 a10 a11 a12 a13 a14 a15 a16 d1 d2 d3 d4 d5 r1 r2 r3 r4)
  refine AllReadyIn.cons rfl (fun K hK => ?_) ?_
  · go_simp
    exact hK _ _ (ra_000100000 l Wa W2 W3 bN nb Bx d t s v v' a0 a1 a2 a3 a4 a8 a9 a10 a11 a12 a13 a14 a15 a16 d1 d2 d3 d4 d5 r1 r2 r3 r4)
  refine AllReadyIn.cons rfl (fun K hK => ?_) ?_
  · go_simp
    exact hK _ _ (ra_000001000 l Wa W2 W3 bN nb Bx d t s v v' a0 a1 a2 a3 a4 a8 a9 a10 a11 a12 a13 a14 a15 a16 d1 d2 d3 d4 d5 r1 r2 r3 r4)
  exact AllReadyIn.nil
end
theorem region_append (l : Nat) (Wa W2 W3 : World) (bN nb Bx d : Nat) (t : Int) (s : ByteArray) (v v' : Value) (a0 a1 a2 a3 a4 a8 a9 a10 a11 a12 a13 a14 a15 a16 : Value)
    (d1 : Wa.cell? ⟨bN, 0, none⟩ = some (.map (some nb))) (d2 : Wa.cell? ⟨Bx, 0, none⟩ = some (.map (some d))) (d3 : Wa.cell? ⟨Bx, 1, none⟩ = some (.int .i64 t)) (d4 : (Wa.alloc (.cells #[.map (some d), .int .i64 t] 131)).cell? ⟨bN, 0, none⟩ = some (.map (some nb))) (d5 : W2.cell? ⟨bN, 0, none⟩ = some (.map (some nb)))
    (r1 : (Instr.lookup 136 (.map (some nb)) (.string s) false).run Tryz.prog Wa.drew = .ok v Wa.drew)
    (r2 : (Instr.lookup 136 (.map (some nb)) (.string s) false).run Tryz.prog (Wa.alloc (.cells #[.map (some d), .int .i64 t] 131)).drew = .ok v (Wa.alloc (.cells #[.map (some d), .int .i64 t] 131)).drew)
    (r3 : (Builtin.append_ #[144, 144] 144 #[v, .slice (some ⟨Wa.heap.size, 0, none⟩) 1 1]).run Tryz.prog (Wa.alloc (.cells #[.map (some d), .int .i64 t] 131)).drew = .ok v' W2)
    (r4 : (Instr.mapUpdate 136 (.map (some nb)) (.string s) v').run Tryz.prog W2 = .ok () W3) (hmx : Tryz.prog.follows .mixedOrders = true) :
    Code.wpIn (Fence.wide.inRound l) 7 Tryz.prog (Code.region 5 regOps true) (regQ W3) { tmps := #[a0, a1, a2, a3, a4, .pointer (some ⟨bN, 0, none⟩), .pointer (some ⟨Bx, 0, none⟩), .string s, a8, a9, a10, a11, a12, a13, a14, a15, a16, undef, undef, undef, undef, undef, undef, undef, undef, undef], defers := [] } Wa := wpIn_region_any hmx (ra_000000000 l Wa W2 W3 bN nb Bx d t s v v' a0 a1 a2 a3 a4 a8 a9 a10 a11 a12 a13 a14 a15 a16 d1 d2 d3 d4 d5 r1 r2 r3 r4)
end Go.Proofs.YtaokifbpakbgdaaGreatDoor

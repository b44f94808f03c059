/-
  Traceless (a picture of a patient of its own, laid in and taken out again, changes no answer) returns true for every input, at this commit of the program; what the call reads is as it was.
  Conditions: the card's own (the listed variables of the library as their text lays them).
-/
import Derived.Test.YtaokifbpakbgdabGreatDoorPut19
import Derived.Test.YtaokifbpakbgdabGreatDoorPut20
import Derived.Test.YtaokifbpakbgdabGreatDoorTracelessF
namespace Go.Proofs.YtaokifbpakbgdabGreatDoor
open Go.ChangeShapes Go.WideShapes Go.ChangeAt Go.RowKit

theorem laidOutZ : laidOutB Tryz.prog = true := by kernel_rfl
theorem traceless_reads (os : Os) {H : Type} (enc : TypeId × Value → H) : ∃ places, DataW.whole enc Tryz.prog ((World.laidAll Tryz.prog os Rows.tracelessRow.laid).forCall (fun _ _ => 0) ⟨#[], #[.slice none 0 0, .slice none 0 0], []⟩).memory Tryz.f3.params.toList Rows.tracelessSpec.vars false #[Value.slice none 0 0, Value.slice none 0 0].toList 8 = some ([.nil, .nil], [], places) :=
  ⟨[], by kernel_rfl⟩
set_option maxRecDepth 100000 in
theorem traceless_lifted (os : Os) (started : os.Started) (H : Type) (enc : TypeId × Value → H) (F : Stop.Interp) :
    ReturnsInHanded {} Tryz.checked os 3 .any ((OpenSpec.ofChange Rows.tracelessSpec).preRow enc Tryz.prog Tryz.f3 Rows.tracelessRow.domain false Rows.tracelessRow.laid) (((OpenSpec.ofChange Rows.tracelessSpec).at F).post enc Tryz.prog Tryz.f3 false true false false) := by
  obtain ⟨places, hx⟩ := traceless_reads os enc
  refine returnsInHanded_of_row (C := Tryz.checked) (s := OpenSpec.ofChange Rows.tracelessSpec) own started (by kernel_rfl) Tryz.func3
    (witness_laid (World.laidAll Tryz.prog os Rows.tracelessRow.laid) #[.slice none 0 0, .slice none 0 0] (World.laidAll_os _ _ _) (laidA_shaped os _) (by kernel_rfl)
      (OpenSpec.preRow_of_cond 8 hx (by kernel_rfl) (fun k hk => by cases hk) (by kernel_rfl) (laidA_met os _))) ?_
  intro W base args ds gs before hval0 hW _ _ _ hL hsh _
  have hval : ∀ (j : Nat) t v, Tryz.f3.params[j]? = some t → args[j]? = some v → Value.okWide Tryz.prog W .any base t v := hval0
  have hW' := hW
  obtain ⟨p, q, hA0, hV, rfl, _, _⟩ := hW
  have hA : DataW.TrodAll enc Tryz.prog W 0 (fun _ => true) true Tryz.f3.params.toList args.toList ds p := hA0
  rw [Tryz.params3] at hA hval
  obtain ⟨v0, v1, d0, d1, p0, p1, rfl, rfl, rfl, h0, h1⟩ := trodAll_two hA
  obtain ⟨rfl, rfl⟩ := trodVars_none hV
  obtain ⟨a0, n0, c0, rfl⟩ := okWide_slice Tryz.underlying22 (hval 0 22 v0 rfl rfl)
  obtain ⟨a1, n1, c1, rfl⟩ := okWide_slice Tryz.underlying23 (hval 1 23 v1 rfl rfl)
  have h0k := h0
  have h1k := h1
  obtain ⟨fuel0, hf0⟩ := h0
  obtain ⟨fuel1, hf1⟩ := h1
  have hP := open_pics hf0
  obtain ⟨a1', n1', c1', Z1, e1, hR⟩ := open_raws (v := .slice a1 n1 c1) hf1
  obtain ⟨rfl, rfl, rfl⟩ := Value.slice.inj e1
  simp only [List.append_nil] at hW'
  have hlt : ∀ x ∈ p0, x.block < W.heap.size := fun x hx => by simpa using hW'.lt x (by simp [hx])
  have hlt1 : ∀ x ∈ p1, x.block < W.heap.size := fun x hx => by simpa using hW'.lt x (by simp [hx])
  have hVL := varsL_of hL hsh
  refine (Traceless_any W a0 n0 c0 a1 n1 c1 Z1 hP hR ⟨hVL.1, hVL.2.1, hVL.2.2.1, hVL.2.2.2⟩).mono ?_
  rintro e W' ⟨rfl, hup⟩
  refine ⟨_, rfl, _, _, _, [], p0 ++ p1, [], hW', ?_, ?_, ?_, Below.frame hup _, fun h => by cases h⟩
  · exact trodAll_mk1 (shut_bool Tryz.underlying4 _)
  · have := trodAll_mk2 (Below.trod laidOutZ (by kernel_rfl) (of_decide_eq_true (by kernel_rfl)) h0k hup hlt) (Below.trod laidOutZ (by kernel_rfl) (of_decide_eq_true (by kernel_rfl)) h1k hup hlt1)
    exact this
  · rfl
theorem traceless_said : Rows.TracelessSaid :=
  OpenClaim.holds_of_cond 3 Tryz.f3 rfl rfl rfl rfl rfl rfl rfl ⟨rfl, rfl, rfl, rfl, rfl⟩ rfl rfl rfl rfl rfl (by kernel_rfl) Tryz.func3 traceless_closed
    (of_decide_eq_true (by kernel_rfl)) (by unfold Func.isWrapper; first | (rw [if_pos (by decide +kernel)]; kernel_rfl) | (rw [if_neg (by decide +kernel)]; exact ⟨rfl, rfl⟩))
    (fun os started H enc _ F => by rw [OpenClaim.pre_eq_preRow]; exact traceless_lifted os started H enc F)
theorem traceless_plain (f : FuncId) (fn : Func) (hf : Tryz.pinned.checked.prog.funcNamed Rows.tracelessRow.func = some f) (hfn : Tryz.pinned.checked.prog.funcs[f]? = some fn) :
    true = Tryz.pinned.checked.prog.looks [] ∧ ∀ (j : Nat) t, fn.params[j]? = some t → Tryz.pinned.checked.prog.wantsStandIn t = false := by
  obtain rfl : f = 3 := Option.some.inj ((show Tryz.prog.funcNamed Rows.tracelessRow.func = some 3 by kernel_rfl).symm.trans hf) |>.symm
  obtain rfl : fn = Tryz.f3 := (Option.some.inj (Tryz.func3.symm.trans hfn)).symm
  refine ⟨by kernel_rfl, fun j t ht => ?_⟩
  rw [Tryz.params3] at ht
  have hw0 : Tryz.prog.wantsStandIn 22 = false := by kernel_rfl
  have hw1 : Tryz.prog.wantsStandIn 23 = false := by kernel_rfl
  have ht' : t = 22 ∨ t = 23 := by simpa using Array.mem_of_getElem? ht
  rcases ht' with rfl | rfl
  · exact hw0
  · exact hw1
theorem traceless_card : Rows.TracelessCardSaid :=
  Claim7.holds_tied_plain_at .later [] _ _ _ _ traceless_said (fun _ h => by cases h) (by kernel_rfl) (fun _ h => by cases h) traceless_row_tie rfl ⟨rfl, rfl⟩ (by kernel_rfl) rfl traceless_plain (by kernel_rfl)
end Go.Proofs.YtaokifbpakbgdabGreatDoor

/-
  Decodes (P4, P2: every Decode of texts one after the other, twice, answers as the document asks; all lists that came out, written full by their owner, deep inside too, are as he wrote them behind every call) returns true for every list of texts that holds at most 1048576 texts and letters together, at this commit of the program.
  Conditions: the bound on the size of the list (the second form of the statement); else none beyond the card's own (the listed variables of the library as their text lays them).
-/
import Derived.Test.YtaokifbpakbgdaaDoorDec1
import Derived.Test.YtaokifbpakbgdaaDoorOpenEl
import Derived.Test.YtaokifbpakbgdaaDoorFrameD
namespace Go.Proofs.YtaokifbpakbgdaaDoor
open Go.ChangeShapes Go.WideShapes Go.ChangeAt Go.RowKit

set_option maxRecDepth 20000 in
theorem open_sts {H : Type} {enc : TypeId × Value → H} {W : World} {v : Value} {fuel : Nat} {y : DataW H × List MemPlace} (h : DataW.trod enc Tryd.prog W 0 (fun _ => true) true fuel 38 [v] = some y) : ∃ T : List By, Sts W v T ∧ T.length ≤ Rows.uptoBulk y.1 := by
  rcases DataW.trod_slice Tryd.underlying38 h with ⟨hcs, hx⟩ | ⟨a, len, cap, elems, rest, m2, rfl, hcs, rfl, _, hlc, hcm, hlen, hel, _, _⟩
  · obtain rfl : v = .slice none 0 0 := by simpa using hcs
    exact ⟨[], ⟨none, 0, rfl, fun i x hx => by simp at hx⟩, Nat.zero_le _⟩
  · obtain rfl : v = .slice (some a) len cap := by simpa using hcs
    obtain ⟨l, hl, hc⟩ := gather (α := By) (fun i (y : DataW H × List MemPlace) s => W.cell? (a.add (1 * i)) = some (.string (bs s)) ∧ 1 ≤ Rows.uptoBulk y.1) elems 0 (fun i y hy => by
      have hi : i < len := by have := (List.getElem?_eq_some_iff.1 hy).1; omega
      have hb := (hel i hi).trans hy
      rw [cells_str, Option.bind_eq_some_iff] at hb
      obtain ⟨cs, hcs, htr⟩ := hb
      obtain ⟨_, hcl, hcc⟩ := World.cells?_some hcs
      obtain ⟨c0, rfl⟩ := list1 hcl
      obtain ⟨u, e1, rfl, _⟩ := DataW.trod_string Tryd.underlying9 htr
      obtain rfl : c0 = .string u := by simpa using e1
      have h0 := hcc 0 (by omega)
      rw [Addr.add_zero', Nat.mul_one] at h0
      rw [Nat.zero_add, Nat.one_mul]
      exact ⟨u.data.toList, h0, by simp [Rows.uptoBulk]⟩)
    refine ⟨l, ⟨some a, cap, by rw [hl, hlen], fun i s hs => ?_⟩, ?_⟩
    · obtain ⟨y, _, h2, _⟩ := hc i s hs
      rw [Nat.zero_add] at h2
      have hb := World.block_lt_of_cell? _ _ h2
      rw [add_block] at hb
      exact ⟨a, rfl, hb, h2⟩
    · have := bulk_sum (fun _ : By => 1) l elems hl (fun i x y hx hy => by
        obtain ⟨y', h1, _, h3⟩ := hc i x hx
        obtain rfl := Option.some.inj (hy.symm.trans h1)
        exact h3)
      have h2 := sum_len (f := fun _ : By => 1) 1 (l := l) (fun x _ => Nat.le_refl _)
      simp only [Rows.uptoBulk]
      omega
theorem decodes_reads (os : Os) {H : Type} (enc : TypeId × Value → H) : ∃ places, DataW.whole enc Tryd.prog ((World.laidAll Tryd.prog os Rows.backRow.laid).forCall (fun _ _ => 0) ⟨#[], #[.slice none 0 0], []⟩).memory Tryd.f4.params.toList Rows.decodesSpec.vars false #[Value.slice none 0 0].toList 8 = some ([.nil], [], places) :=
  ⟨[], by kernel_rfl⟩
set_option maxRecDepth 100000 in
theorem decodes_lifted (os : Os) (started : os.Started) (H : Type) (enc : TypeId × Value → H) (F : Stop.Interp) :
    ReturnsInHanded {} Tryd.checked os 4 .any ((Rows.OpenSpec.upto Rows.decodesSpec).preRow enc Tryd.prog Tryd.f4 Rows.decodesUptoRow.domain false Rows.decodesUptoRow.laid) (((Rows.OpenSpec.upto Rows.decodesSpec).at F).post enc Tryd.prog Tryd.f4 false true false false) := by
  obtain ⟨places, hx⟩ := decodes_reads os enc
  refine returnsInHanded_of_row (C := Tryd.checked) (s := Rows.OpenSpec.upto Rows.decodesSpec) own started (by kernel_rfl) Tryd.func4
    (witness_laid (World.laidAll Tryd.prog os Rows.backRow.laid) #[.slice none 0 0] (World.laidAll_os _ _ _) (laid_shaped os _) (by kernel_rfl)
      (OpenSpec.preRow_of_cond 8 hx (by kernel_rfl) (fun k hk => by cases hk; kernel_rfl) (by kernel_rfl) (laid_met os _))) ?_
  intro W base args ds gs before hval0 hW _ hcond0 _ hL hsh _
  have hcond : Rows.uptoSmall H (ds ++ gs) = true := hcond0 _ rfl
  have hval : ∀ (j : Nat) t v, Tryd.f4.params[j]? = some t → args[j]? = some v → Value.okWide Tryd.prog W .any base t v := hval0
  have hW' := hW
  obtain ⟨p, q, hA0, hV, rfl, _, _⟩ := hW
  have hA : DataW.TrodAll enc Tryd.prog W 0 (fun _ => true) true Tryd.f4.params.toList args.toList ds p := hA0
  rw [Tryd.params4] at hA hval
  obtain ⟨v0, vs0, d0, ds0, p0, q0, hargs, rfl, rfl, h0, r0⟩ := trodAll_cons hA
  obtain ⟨rfl, rfl, rfl⟩ := trodAll_nil r0
  obtain rfl : args = #[v0] := by cases args; simp_all
  obtain ⟨rfl, rfl⟩ := trodVars_none hV
  obtain ⟨a0, n0, c0, rfl⟩ := okWide_slice Tryd.underlying38 (hval 0 38 v0 rfl rfl)
  have h0k := h0
  obtain ⟨fuel0, hf0⟩ := h0
  simp only [List.append_nil] at hW' hcond
  have hb := of_decide_eq_true hcond
  simp only [Rows.uptoBulkAll] at hb
  obtain ⟨T, hT, hTl⟩ := open_sts hf0
  simp only at hTl
  have hlt0 : ∀ x ∈ p0, x.block < W.heap.size := fun x hx => by simpa using hW'.lt x (by simp [hx])
  refine (decodes_walk W _ T hT (by omega)).mono ?_
  rintro e W' ⟨rfl, hup⟩
  refine ⟨_, rfl, _, _, _, [], p0, [], hW', ?_, ?_, ?_, Below.frame hup _, fun h => by cases h⟩
  · exact trodAll_mk1 (shut_bool Tryd.underlying4 _)
  · exact trodAll_mk1 (Below.trod laidOut (by kernel_rfl) (of_decide_eq_true (by kernel_rfl)) h0k hup hlt0)
  · rfl
theorem decodes_said : Rows.DecodesUptoSaid :=
  OpenClaim.holds_of_cond 4 Tryd.f4 rfl rfl rfl rfl rfl rfl rfl ⟨rfl, rfl, rfl, rfl, rfl⟩ rfl rfl rfl rfl rfl (by kernel_rfl) Tryd.func4 (by kernel_rfl)
    (of_decide_eq_true (by kernel_rfl)) (by unfold Func.isWrapper; first | (rw [if_pos (by decide +kernel)]; kernel_rfl) | (rw [if_neg (by decide +kernel)]; exact ⟨rfl, rfl⟩))
    (fun os started H enc _ F => by rw [OpenClaim.pre_eq_preRow]; exact decodes_lifted os started H enc F)
theorem decodes_plain (f : FuncId) (fn : Func) (hf : Tryd.pinned.checked.prog.funcNamed Rows.decodesUptoRow.func = some f) (hfn : Tryd.pinned.checked.prog.funcs[f]? = some fn) :
    false = Tryd.pinned.checked.prog.looks [] ∧ ∀ (j : Nat) t, fn.params[j]? = some t → Tryd.pinned.checked.prog.wantsStandIn t = false := by
  obtain rfl : f = 4 := Option.some.inj ((show Tryd.prog.funcNamed Rows.decodesUptoRow.func = some 4 by kernel_rfl).symm.trans hf) |>.symm
  obtain rfl : fn = Tryd.f4 := (Option.some.inj (Tryd.func4.symm.trans hfn)).symm
  refine ⟨by kernel_rfl, fun j t ht => ?_⟩
  rw [Tryd.params4] at ht
  obtain rfl : t = 38 := by simpa using Array.mem_of_getElem? ht
  exact (show Tryd.prog.wantsStandIn 38 = false by kernel_rfl)
theorem decodes_card : Rows.DecodesUptoCardSaid :=
  Claim7.holds_tied_plain_at .later [] _ _ _ _ decodes_said (fun _ h => by cases h) (by kernel_rfl) (fun _ h => by cases h) decodesUpto_row_tie rfl ⟨rfl, rfl⟩ (by kernel_rfl) rfl decodes_plain (by kernel_rfl)
end Go.Proofs.YtaokifbpakbgdaaDoor

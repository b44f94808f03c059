/-
  Known (P5, P6: examples 2 and 3 of the document) returns true for every integer, at this commit of the program; what the call reads is as it was.
  Conditions: none beyond the card's own (the listed variables of the library as their text lays them).
-/
import Derived.Test.YtaokifbpakbgdaaGreatDoorFrame
import Derived.Test.YtaokifbpakbgdaaGreatDoorKnownF
namespace Go.Proofs.YtaokifbpakbgdaaGreatDoor
open Go.ChangeShapes Go.WideShapes Go.ChangeAt Go.RowKit

set_option maxHeartbeats 2000000 in
theorem known_walk (k : Int) (w : World) (h1 : -9223372036854775808 ≤ k) (h2 : k ≤ 9223372036854775807) (hv : Vars w) :
    Calls Tryz.prog 8 #[.int .i64 k] w fun e w' => e = .returned (.bool true) ∧ Up w w' := by
  have c1 : ∀ w, Vars w → Calls Tryz.prog 13 #[.string ⟨#[85, 73]⟩, .string ⟨#[49, 46, 48, 50]⟩] w fun e w' => e = .returned (.int .i64 6) ∧ Up w w' := fun w h => Check_any _ _ _ (by decide) h
  have c2 : ∀ w, Vars w → Calls Tryz.prog 13 #[.string ⟨#[68, 65]⟩, .string ⟨#[49, 57, 48, 48, 48, 50, 50, 57]⟩] w fun e w' => e = .returned (.int .i64 6) ∧ Up w w' := fun w h => Check_any _ _ _ (by decide) h
  have c3 : ∀ w, Vars w → Calls Tryz.prog 13 #[.string ⟨#[68, 65]⟩, .string ⟨#[50, 48, 48, 48, 48, 50, 50, 57]⟩] w fun e w' => e = .returned (.int .i64 0) ∧ Up w w' := fun w h => Check_any _ _ _ (by decide) h
  have c4 : ∀ w, Vars w → Calls Tryz.prog 13 #[.string ⟨#[84, 77]⟩, .string ⟨#[50, 51, 54, 48]⟩] w fun e w' => e = .returned (.int .i64 6) ∧ Up w w' := fun w h => Check_any _ _ _ (by decide) h
  have c5 : ∀ w, Vars w → Calls Tryz.prog 13 #[.string ⟨#[73, 83]⟩, .string ⟨#[45, 48]⟩] w fun e w' => e = .returned (.int .i64 0) ∧ Up w w' := fun w h => Check_any _ _ _ (by decide) h
  go_enter Tryz.func8, Tryz.ntmps8
  go_wp2_with fail
  go_at_call 13; refine (c1 _ hv).mono ?_; rintro e w1 ⟨rfl, u1⟩
  go_wp2_with fail
  go_at_call 13; refine (c2 _ (hv.up u1)).mono ?_; rintro e w2 ⟨rfl, u2⟩
  go_wp2_with fail
  go_at_call 13; refine (c3 _ ((hv.up u1).up u2)).mono ?_; rintro e w3 ⟨rfl, u3⟩
  go_wp2_with fail
  go_at_call 13; refine (c4 _ (((hv.up u1).up u2).up u3)).mono ?_; rintro e w4 ⟨rfl, u4⟩
  go_wp2_with fail
  go_at_call 13; refine (c5 _ ((((hv.up u1).up u2).up u3).up u4)).mono ?_; rintro e w5 ⟨rfl, u5⟩
  have up := hid ((((u1.trans u2).trans u3).trans u4).trans u5)
  have v5 := hid (hv.up up.out)
  clear u1 u2 u3 u4 u5 hv c1 c2 c3 c4 c5
  go_wp2_with fail
  go_at_call 24; refine (vpick_any _ _ _ h1 h2 (by omega) (by omega)).mono ?_; rintro e w6 ⟨rfl, rfl⟩
  have hr := vpk_bd k 7 (by omega)
  generalize vpk k 7 = r at hr
  have hr7 : r = 0 ∨ r = 1 ∨ r = 2 ∨ r = 3 ∨ r = 4 ∨ r = 5 ∨ r = 6 := by omega
  clear hr
  rcases hr7 with rfl | rfl | rfl | rfl | rfl | rfl | rfl
  · have cm : ∀ w, Vars w → Calls Tryz.prog 12 #[.string ⟨#[80, 78]⟩, .string ⟨#[100, 111, 42]⟩, .string ⟨#[68, 79, 69, 94, 74, 79, 72, 78]⟩] w fun e w' => e = .returned (.tuple #[.bool true, .int .i64 0]) ∧ Up w w' := fun w h => Match_any _ _ _ _ (by decide) (by decide) h
    go_wp2_with fail
    go_at_call 12
    refine (cm _ (v5.out.up (Up.alloc (Up.alloc (Up.refl _) _) _))).mono ?_
    rintro e w7 ⟨rfl, u7⟩
    have hx : w7.cell? ⟨w5.heap.size + 1, 3, none⟩ = some (.bool true) := u7.cell (by rw [World.cell?_alloc_at _ _ _ _ (by simp)]; rfl)
    have u := hid (up.out.trans ((Up.alloc (Up.alloc (Up.refl _) _) _).trans u7))
    clear u7
    go_wp2_with fail
    go_ret
    exact ⟨rfl, u.out⟩
  · have cm : ∀ w, Vars w → Calls Tryz.prog 12 #[.string ⟨#[68, 65]⟩, .string ⟨#[50, 48, 50, 48, 48, 49, 48, 49, 45]⟩, .string ⟨#[50, 48, 49, 57, 49, 50, 51, 49]⟩] w fun e w' => e = .returned (.tuple #[.bool false, .int .i64 0]) ∧ Up w w' := fun w h => Match_any _ _ _ _ (by decide) (by decide) h
    go_wp2_with fail
    go_at_call 12
    refine (cm _ (v5.out.up (Up.alloc (Up.alloc (Up.refl _) _) _))).mono ?_
    rintro e w7 ⟨rfl, u7⟩
    have hx : w7.cell? ⟨w5.heap.size + 1, 3, none⟩ = some (.bool false) := u7.cell (by rw [World.cell?_alloc_at _ _ _ _ (by simp)]; rfl)
    have u := hid (up.out.trans ((Up.alloc (Up.alloc (Up.refl _) _) _).trans u7))
    clear u7
    go_wp2_with fail
    go_ret
    exact ⟨rfl, u.out⟩
  · have cm : ∀ w, Vars w → Calls Tryz.prog 12 #[.string ⟨#[84, 77]⟩, .string ⟨#[49, 48]⟩, .string ⟨#[49, 48, 51, 48, 53, 57]⟩] w fun e w' => e = .returned (.tuple #[.bool true, .int .i64 0]) ∧ Up w w' := fun w h => Match_any _ _ _ _ (by decide) (by decide) h
    go_wp2_with fail
    go_at_call 12
    refine (cm _ (v5.out.up (Up.alloc (Up.alloc (Up.refl _) _) _))).mono ?_
    rintro e w7 ⟨rfl, u7⟩
    have hx : w7.cell? ⟨w5.heap.size + 1, 3, none⟩ = some (.bool true) := u7.cell (by rw [World.cell?_alloc_at _ _ _ _ (by simp)]; rfl)
    have u := hid (up.out.trans ((Up.alloc (Up.alloc (Up.refl _) _) _).trans u7))
    clear u7
    go_wp2_with fail
    go_ret
    exact ⟨rfl, u.out⟩
  · have cm : ∀ w, Vars w → Calls Tryz.prog 12 #[.string ⟨#[84, 77]⟩, .string ⟨#[49, 48, 45, 49, 48, 51, 48]⟩, .string ⟨#[49, 48, 51, 48, 53, 57]⟩] w fun e w' => e = .returned (.tuple #[.bool true, .int .i64 0]) ∧ Up w w' := fun w h => Match_any _ _ _ _ (by decide) (by decide) h
    go_wp2_with fail
    go_at_call 12
    refine (cm _ (v5.out.up (Up.alloc (Up.alloc (Up.refl _) _) _))).mono ?_
    rintro e w7 ⟨rfl, u7⟩
    have hx : w7.cell? ⟨w5.heap.size + 1, 3, none⟩ = some (.bool true) := u7.cell (by rw [World.cell?_alloc_at _ _ _ _ (by simp)]; rfl)
    have u := hid (up.out.trans ((Up.alloc (Up.alloc (Up.refl _) _) _).trans u7))
    clear u7
    go_wp2_with fail
    go_ret
    exact ⟨rfl, u.out⟩
  · have cm : ∀ w, Vars w → Calls Tryz.prog 12 #[.string ⟨#[84, 77]⟩, .string ⟨#[49, 48, 45, 49, 48, 51, 48]⟩, .string ⟨#[49, 48, 51, 49]⟩] w fun e w' => e = .returned (.tuple #[.bool false, .int .i64 0]) ∧ Up w w' := fun w h => Match_any _ _ _ _ (by decide) (by decide) h
    go_wp2_with fail
    go_at_call 12
    refine (cm _ (v5.out.up (Up.alloc (Up.alloc (Up.refl _) _) _))).mono ?_
    rintro e w7 ⟨rfl, u7⟩
    have hx : w7.cell? ⟨w5.heap.size + 1, 3, none⟩ = some (.bool false) := u7.cell (by rw [World.cell?_alloc_at _ _ _ _ (by simp)]; rfl)
    have u := hid (up.out.trans ((Up.alloc (Up.alloc (Up.refl _) _) _).trans u7))
    clear u7
    go_wp2_with fail
    go_ret
    exact ⟨rfl, u.out⟩
  · have cm : ∀ w, Vars w → Calls Tryz.prog 12 #[.string ⟨#[73, 83]⟩, .string ⟨#[48, 55]⟩, .string ⟨#[55]⟩] w fun e w' => e = .returned (.tuple #[.bool true, .int .i64 0]) ∧ Up w w' := fun w h => Match_any _ _ _ _ (by decide) (by decide) h
    go_wp2_with fail
    go_at_call 12
    refine (cm _ (v5.out.up (Up.alloc (Up.alloc (Up.refl _) _) _))).mono ?_
    rintro e w7 ⟨rfl, u7⟩
    have hx : w7.cell? ⟨w5.heap.size + 1, 3, none⟩ = some (.bool true) := u7.cell (by rw [World.cell?_alloc_at _ _ _ _ (by simp)]; rfl)
    have u := hid (up.out.trans ((Up.alloc (Up.alloc (Up.refl _) _) _).trans u7))
    clear u7
    go_wp2_with fail
    go_ret
    exact ⟨rfl, u.out⟩
  · have cm : ∀ w, Vars w → Calls Tryz.prog 12 #[.string ⟨#[85, 73]⟩, .string ⟨#[49, 46, 50, 92, 49, 46, 51]⟩, .string ⟨#[49, 46, 51]⟩] w fun e w' => e = .returned (.tuple #[.bool true, .int .i64 0]) ∧ Up w w' := fun w h => Match_any _ _ _ _ (by decide) (by decide) h
    go_wp2_with fail
    go_at_call 12
    refine (cm _ (v5.out.up (Up.alloc (Up.alloc (Up.refl _) _) _))).mono ?_
    rintro e w7 ⟨rfl, u7⟩
    have hx : w7.cell? ⟨w5.heap.size + 1, 3, none⟩ = some (.bool true) := u7.cell (by rw [World.cell?_alloc_at _ _ _ _ (by simp)]; rfl)
    have u := hid (up.out.trans ((Up.alloc (Up.alloc (Up.refl _) _) _).trans u7))
    clear u7
    go_wp2_with fail
    go_ret
    exact ⟨rfl, u.out⟩

theorem known_reads (os : Os) {H : Type} (enc : TypeId × Value → H) : ∃ places, DataW.whole enc Tryz.prog ((World.laidAll Tryz.prog os Rows.knownRow.laid).forCall (fun _ _ => 0) ⟨#[], #[.int .i64 0], []⟩).memory Tryz.f8.params.toList Rows.knownSpec.vars false #[Value.int .i64 0].toList 8 = some ([.lit (.int .i64 0)], [], places) :=
  ⟨[], by kernel_rfl⟩
set_option maxRecDepth 100000 in
theorem known_lifted (os : Os) (started : os.Started) (H : Type) (enc : TypeId × Value → H) (F : Stop.Interp) :
    ReturnsInHanded {} Tryz.checked os 8 .any ((OpenSpec.ofChange Rows.knownSpec).preRow enc Tryz.prog Tryz.f8 Rows.knownRow.domain false Rows.knownRow.laid) (((OpenSpec.ofChange Rows.knownSpec).at F).post enc Tryz.prog Tryz.f8 false true false false) := by
  obtain ⟨places, hx⟩ := known_reads os enc
  refine returnsInHanded_of_row (C := Tryz.checked) (s := OpenSpec.ofChange Rows.knownSpec) own started (by kernel_rfl) Tryz.func8
    (witness_laid (World.laidAll Tryz.prog os Rows.knownRow.laid) #[.int .i64 0] (World.laidAll_os _ _ _) (laid_shaped os _) (by kernel_rfl)
      (OpenSpec.preRow_of_cond 8 hx (by kernel_rfl) (fun k hk => by cases hk) (by kernel_rfl) (laid_met os _))) ?_
  intro W base args ds gs before hval0 hW _ _ _ hL hsh _
  have hval : ∀ (j : Nat) t v, Tryz.f8.params[j]? = some t → args[j]? = some v → Value.okWide Tryz.prog W .any base t v := hval0
  have hW' := hW
  obtain ⟨p, q, hA0, hV, rfl, _, _⟩ := hW
  have hA : DataW.TrodAll enc Tryz.prog W 0 (fun _ => true) true Tryz.f8.params.toList args.toList ds p := hA0
  rw [Tryz.params8] at hA hval
  obtain ⟨v0, d0, rfl, rfl, h0⟩ := trodAll_one hA
  obtain ⟨rfl, rfl⟩ := trodVars_none hV
  obtain ⟨k, rfl, rfl, rfl, wk⟩ := open_int Tryz.underlying3 (hval 0 3 v0 rfl rfl) h0
  simp only [List.append_nil] at hW'
  have hk : -9223372036854775808 ≤ k ∧ k ≤ 9223372036854775807 := int_bd wk
  refine (known_walk k W hk.1 hk.2 (vars_of hL hsh)).mono ?_
  rintro e W' ⟨rfl, hup⟩
  refine ⟨_, rfl, _, _, _, [], [], [], hW', ?_, ?_, ?_, Below.frame hup _, fun h => by cases h⟩
  · exact trodAll_mk1 (shut_bool Tryz.underlying4 _)
  · exact trodAll_mk1 (shut_int Tryz.underlying3 wk)
  · rfl
theorem known_said : Rows.KnownSaid :=
  OpenClaim.holds_of_cond 8 Tryz.f8 rfl rfl rfl rfl rfl rfl rfl ⟨rfl, rfl, rfl, rfl, rfl⟩ rfl rfl rfl rfl rfl (by kernel_rfl) Tryz.func8 known_closed
    (of_decide_eq_true (by kernel_rfl)) (by unfold Func.isWrapper; first | (rw [if_pos (by decide +kernel)]; kernel_rfl) | (rw [if_neg (by decide +kernel)]; exact ⟨rfl, rfl⟩))
    (fun os started H enc _ F => by rw [OpenClaim.pre_eq_preRow]; exact known_lifted os started H enc F)
theorem known_plain (f : FuncId) (fn : Func) (hf : Tryz.pinned.checked.prog.funcNamed Rows.knownRow.func = some f) (hfn : Tryz.pinned.checked.prog.funcs[f]? = some fn) :
    true = Tryz.pinned.checked.prog.looks [] ∧ ∀ (j : Nat) t, fn.params[j]? = some t → Tryz.pinned.checked.prog.wantsStandIn t = false := by
  obtain rfl : f = 8 := Option.some.inj ((show Tryz.prog.funcNamed Rows.knownRow.func = some 8 by kernel_rfl).symm.trans hf) |>.symm
  obtain rfl : fn = Tryz.f8 := (Option.some.inj (Tryz.func8.symm.trans hfn)).symm
  refine ⟨by kernel_rfl, fun j t ht => ?_⟩
  rw [Tryz.params8] at ht
  obtain rfl : t = 3 := by simpa using Array.mem_of_getElem? ht
  exact (show Tryz.prog.wantsStandIn 3 = false by kernel_rfl)
theorem known_card : Rows.KnownCardSaid :=
  Claim7.holds_tied_plain_at .later [] _ _ _ _ known_said (fun _ h => by cases h) (by kernel_rfl) (fun _ h => by cases h) known_row_tie rfl ⟨rfl, rfl⟩ (by kernel_rfl) rfl known_plain (by kernel_rfl)
end Go.Proofs.YtaokifbpakbgdaaGreatDoor

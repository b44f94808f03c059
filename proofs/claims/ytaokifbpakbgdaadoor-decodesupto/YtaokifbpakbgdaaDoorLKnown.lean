/-
  Package foliolaw: the document's first example, in one.
-/
import Derived.Test.YtaokifbpakbgdaaDoorLSame
import Derived.Test.YtaokifbpakbgdaaDoorWr2
namespace Go.Proofs.YtaokifbpakbgdaaDoor
open Go.RowKit

theorem rd_one {n : Nat} {w : World} {F : Nat → Prop} {b cap : Nat} {t : Int} {k u : By} (h : Four w b (.int .i64 t) (.string (bs k)) (.string (bs u)) (.slice none 0 0)) (hF : F b) : Rd w F (n + 1) (.slice (some ⟨b, 0, none⟩) 1 cap) [mkE (n + 1) t k u []] := by
  refine ⟨some ⟨b, 0, none⟩, cap, rfl, fun i x hx => ⟨_, rfl, hF, ?_⟩⟩
  match i, hx with
  | 0, hx =>
    obtain rfl := Option.some.inj hx
    obtain ⟨⟨c0, c1, c2, c3⟩, _⟩ := h.cells
    refine ⟨c0, ?_, ?_, .slice none 0 0, ?_, RdI.nil _ _ _⟩
    · exact c1
    · exact c2
    · exact c3
  | i + 1, hx => exact nomatch hx
theorem full_one {n : Nat} {t : Int} {k u : By} : Full (n + 1) [mkE (n + 1) t k u []] := fun x hx s hs => by
  obtain rfl := List.mem_singleton.1 hx
  exact nomatch hs
abbrev kn1 : List (El 3) := [mkE 3 1048608 [76, 79] [65, 49] []]
abbrev kn2 : List (El 3) := [mkE 3 2097165 [85, 73] [49, 46, 50] []]
theorem kn1_ok : errS 3 0 kn1 = 0 := by decide +kernel
theorem kn1_wr : wrS false 0 3 kn1 = [16, 0, 32, 0, 76, 79, 2, 0, 65, 49] := by decide +kernel
theorem kn2_pa : parse 3 [32, 0, 13, 0, 85, 73, 4, 0, 49, 46, 50, 0] = some kn2 := by kernel_rfl
theorem kn2_de : decE 3 [32, 0, 13, 0, 85, 73, 4, 0, 49, 46, 50, 0] = 0 := by kernel_rfl
set_option maxRecDepth 20000 in
theorem known_any (w : World) : Calls Tryd.prog 6 #[] w fun e w' => e = .returned (.bool true) ∧ Below w.heap.size w w' := by
  go_enter Tryd.func6, Tryd.ntmps6
  go_wp2_with fail
  go_at_call 8
  refine (Encode_any 3 (by decide) (fun j => j = w.heap.size) _ _ kn1 (fun j hj => by simp; omega) (rd_one (Four.new w (.int .i64 1048608) (.string (bs [76, 79])) (.string (bs [65, 49])) (.slice none 0 0)) rfl) (fun _ => by rw [kn1_wr]; decide)).mono ?_
  rintro e w1 ⟨u1, ⟨h1, _⟩ | ⟨_, rfl⟩⟩
  · exact absurd kn1_ok h1
  rw [kn1_wr]
  have U1 := hid ((Below.alloc (Below.refl _ w) (Nat.le_refl _) (.cells #[.int .i64 1048608, .string (bs [76, 79]), .string (bs [65, 49]), .slice none 0 0] 37)).trans (u1.mono (by simp)))
  clear u1
  go_wp2_with fail
  go_at_call 12
  refine (Decode_any w1 3 (by decide) [32, 0, 13, 0, 85, 73, 4, 0, 49, 46, 50, 0]).mono ?_
  rintro e w2 ⟨u2, ⟨h2, _⟩ | ⟨_, l, v, bl, hp, _, rfl, how, hbl⟩⟩
  · exact absurd kn2_de h2
  obtain rfl : kn2 = l := Option.some.inj (kn2_pa.symm.trans hp)
  have U2 := hid (U1.out.trans (u2.mono U1.out.size))
  have R2 := hid (how.rd _ _ _ _ (fun _ => True) (fun _ _ => trivial))
  clear u2 how hbl hp
  obtain ⟨ad, cap, rfl⟩ := R2.out.slice
  go_wp2_with fail
  go_at_call 10
  have U3 := hid (Below.alloc U2.out U2.out.size (.cells #[.int .i64 2097165, .string (bs [85, 73]), .string (bs [49, 46, 50]), .slice none 0 0] 37))
  refine (lsame_any 3 (fun _ => True) (fun _ => True) _ _ _ kn2 (R2.out.up (Below.alloc (Below.refl _ _) (Nat.le_refl _) _)) (rd_one (Four.new w2 (.int .i64 2097165) (.string (bs [85, 73])) (.string (bs [49, 46, 50])) (.slice none 0 0)) trivial) full_one (by decide)).mono ?_
  rintro e w4 ⟨rfl, u4⟩
  have U4 := hid (U3.out.trans (u4.mono U3.out.size))
  clear u4
  have hbs : (bs [16, 0, 32, 0, 76, 79, 2, 0, 65, 49]).toList = [16, 0, 32, 0, 76, 79, 2, 0, 65, 49] := bs_toList _
  go_wp2
  go_ret
  exact ⟨rfl, U4.out⟩
end Go.Proofs.YtaokifbpakbgdaaDoor

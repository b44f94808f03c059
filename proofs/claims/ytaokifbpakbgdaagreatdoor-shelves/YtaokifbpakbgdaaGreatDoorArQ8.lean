/-
  Package archive: isFullFor.
-/
import Derived.Test.YtaokifbpakbgdaaGreatDoorArQ7
import Derived.Deep.RegionWith
namespace Go.Proofs.YtaokifbpakbgdaaGreatDoor
open Go.RowKit Go.Maps

set_option maxRecDepth 20000 in
set_option maxHeartbeats 2000000 in
theorem isFullFor_any (n : Nat) (F Fd : Nat → Prop) (w : World) (a m dB : Nat) (T : Int) (A : List (List (El (n + 2)))) (l : List (El (n + 2))) (h : ProA w F n a m T A) (hd : DMk w Fd (n + 1) dB 24 (descG l)) (hnd : (A.map (nm 3)).Nodup) (hl : A.length ≤ 48) (hs : (nm 3 l).length ≤ 64) :
    Calls Tryz.prog 159 #[ptr a, .map (some dB)] w fun e w' => e = .returned (.bool (decide (48 ≤ (outA A (nm 3 l)).length))) ∧ Below w.heap.size w w' := by
  obtain ⟨h1, f, ps, hM, hP, _, _, hK⟩ := h
  obtain ⟨⟨a0, _⟩, _⟩ := h1.cells
  have hkey : keyOf Tryz.prog 9 (.string (bs (nm 3 l))) = some (keyS (nm 3 l)) := WideMaps.keyOf_string_mk Tryz.underlying9 (by rw [bs_size]; unfold maxLen; omega)
  have hlk := hM.look (Maps.string_keyed Tryz.underlying9) Tryz.underlying122 (Tryz.zeroValue131 _) hkey
  have hlk2 := hM.drew.look (Maps.string_keyed Tryz.underlying9) Tryz.underlying122 (Tryz.zeroValue131 _) hkey
  have uZ : Below w.heap.size w (w.alloc (.cells #[.map none, .int .i64 0] 131)).drew := Below.drew (Below.alloc (Below.refl _ _) (Nat.le_refl _) _)
  have hlk3 := (hM.kept (w' := (w.alloc (.cells #[.map none, .int .i64 0] 131)).drew) (uZ.block _ hM.lt)).look (Maps.string_keyed Tryz.underlying9) Tryz.underlying122 (Tryz.zeroValue131 _) hkey
  have c3 := hid (dvalue_any _ Fd (n + 1) dB 24 (descG l) 524312 (hd.up uZ) (by decide))
  have UZ := hid uZ
  have a2 : (w.alloc (.cells #[.map none, .int .i64 0] 131)).cell? ⟨a, 0, none⟩ = some (.map (some m)) := cell_keep (Below.heap_alloc _ _ _ (World.block_lt_of_cell? _ _ a0)) a0
  have c1 := hid (dvalue_any w Fd (n + 1) dB 24 (descG l) 524312 hd (by decide))
  have c2 := hid (dvalue_any w.drew Fd (n + 1) dB 24 (descG l) 524312 (hd.keep rfl (fun _ h => h) (fun _ _ _ => rfl)) (by decide))
  have hv3 := hid (valG_desc l 3)
  change Hid (valG (descG l) 524312 = nm 3 l) at hv3
  rw [hv3.out] at c1 c2 c3
  clear uZ
  have HM := hid hM
  have HP := hid hP
  have HK := hid hK
  have HN := hid hnd
  clear hM hP hK hd h1 hnd
  have hol := out_len HN.out (nm 3 l)
  have hlen : ∀ ty, (Builtin.len_ #[122] ty #[.map (some m)]).run Tryz.prog (w.alloc (.cells #[.map none, .int .i64 0] 131)).drew = .ok (.int .i64 A.length) (w.alloc (.cells #[.map none, .int .i64 0] 131)).drew := fun ty => by
    have := (HM.out.kept (w' := (w.alloc (.cells #[.map none, .int .i64 0] 131)).drew) (UZ.out.block _ HM.out.lt)).len (Maps.string_keyed Tryz.underlying9) Tryz.underlying122 (ProA.keys HN.out) (fun kl => by rw [HK.out kl, List.mem_map]; exact ⟨fun ⟨q, h1, h2⟩ => ⟨q, h1, h2.symm⟩, fun ⟨q, h1, h2⟩ => ⟨q, h1, h2.symm⟩⟩) ty
    rw [List.length_map] at this
    exact this
  have hin : (f (keyS (nm 3 l))).isSome = decide (nm 3 l ∈ A.map (nm 3)) := by
    rw [Bool.eq_iff_iff, HK.out, decide_eq_true_eq, List.mem_map]
    exact ⟨fun ⟨q, h1, h2⟩ => ⟨q, h1, by injection h2 with h2; exact h2.symm⟩, fun ⟨q, h1, h2⟩ => ⟨q, h1, by rw [h2]⟩⟩
  have hX := hid hin
  have HO := hid hol
  clear hin hol
  cases hf : f (keyS (nm 3 l)) with
  | some v =>
    obtain ⟨q, hq, hk⟩ := (HK.out (keyS (nm 3 l))).1 (by rw [hf]; rfl)
    obtain ⟨p, _, hfp, _⟩ := HP.out.find q hq
    rw [← hk, hf] at hfp
    obtain rfl := Option.some.inj hfp
    have hF := hid (show decide (48 ≤ (outA A (nm 3 l)).length) = false by
      have := hX.out
      rw [hf] at this
      rw [HO.out, if_pos (of_decide_eq_true this.symm)]
      exact decide_eq_false (by have := List.length_pos_of_mem hq; omega))
    rw [hf] at hlk hlk2 hlk3
    simp only [Option.getD_some, Option.isSome_some] at hlk hlk2 hlk3
    clear hfp hk hq
    go_enter Tryz.func159, Tryz.ntmps159
    go_wp2_with fail
    go_region_with (go_at_call 97; first | (refine c1.out.mono ?_; rintro e w1 ⟨rfl, rfl⟩) | (refine c2.out.mono ?_; rintro e w1 ⟨rfl, rfl⟩) | (refine c3.out.mono ?_; rintro e w1 ⟨rfl, rfl⟩))
    all_goals go_wp2
    all_goals go_ret
    all_goals exact ⟨ret_bool hF.out.symm, (Below.alloc (Below.drew (Below.refl _ _)) (Nat.le_refl _) _)⟩
  | none =>
    have hF := hid (show decide (48 ≤ (outA A (nm 3 l)).length) = decide (48 ≤ A.length) by
      have := hX.out
      rw [hf] at this
      rw [HO.out, if_neg (of_decide_eq_false this.symm)])
    rw [hf] at hlk hlk2 hlk3
    simp only [Option.getD_none, Option.isSome_none] at hlk hlk2 hlk3
    go_enter Tryz.func159, Tryz.ntmps159
    go_wp2_with fail
    go_region_with (go_at_call 97; first | (refine c1.out.mono ?_; rintro e w1 ⟨rfl, rfl⟩) | (refine c2.out.mono ?_; rintro e w1 ⟨rfl, rfl⟩) | (refine c3.out.mono ?_; rintro e w1 ⟨rfl, rfl⟩))
    all_goals
      go_wp2
      go_ret
      refine ⟨ret_bool ?_, UZ.out⟩
      rw [hF.out]
      by_cases h48 : 48 ≤ A.length <;> simp <;> omega
end Go.Proofs.YtaokifbpakbgdaaGreatDoor

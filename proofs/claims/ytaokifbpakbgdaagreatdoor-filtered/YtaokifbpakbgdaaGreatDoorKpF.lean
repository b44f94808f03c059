/-
  Package foliokeep: Filtered.
-/
import Derived.Test.YtaokifbpakbgdaaGreatDoorPut19
import Derived.Test.YtaokifbpakbgdaaGreatDoorPut20
import Derived.Test.YtaokifbpakbgdaaGreatDoorPut16
import Derived.Deep.CutBlock
import Derived.Deep.RegionHeld3
namespace Go.Proofs.YtaokifbpakbgdaaGreatDoor
open Go.RowKit
def strLen : Value → Nat
  | .string s => s.size
  | _ => 0
theorem last_is (u : By) (c : UInt8) (h : 0 < u.length) : ((((bs u)[u.length - 1]'(by rw [bs_size]; omega)).toNat : Int) == (c.toNat : Int)) = decide (u.getLast? = some c) := by
  have e : u.getLast? = some (u[u.length - 1]) := by rw [List.getLast?_eq_getElem?, List.getElem?_eq_getElem (by omega)]
  have e2 : (bs u)[u.length - 1]'(by rw [bs_size]; omega) = u[u.length - 1] := rfl
  rw [e, e2, Bool.eq_iff_iff, beq_iff_eq, decide_eq_true_eq, Option.some.injEq]
  exact ⟨fun h => UInt8.toNat_inj.1 (by omega), fun h => by rw [h]⟩
theorem last_32 (u : By) (h : 0 < u.length) : ((((bs u)[u.length - 1]'(by rw [bs_size]; omega)).toNat : Int) == 32) = decide (u.getLast? = some 32) := last_is u 32 h
theorem last_0 (u : By) (h : 0 < u.length) : ((((bs u)[u.length - 1]'(by rw [bs_size]; omega)).toNat : Int) == 0) = decide (u.getLast? = some 0) := last_is u 0 h
def tab7f : List (Option Nat) := [none, none, none, none, none, none, none, none, none, none, none, none, none, some 13, none, none, none, none, none, none, none, none, none, none, none, none, none, none, none, none, none, none, none, none, none, none, none, none, none, none, none, none, some 0, some 1, some 2, some 3, some 4, some 5, some 6, some 7, some 8, some 9, some 10, some 11, some 12, none, none, none, none, none, none, none, none, none, none, none, none, none, none, none, none, none, none, none, none, none, none, none, none, none, none, none, none, none, none, none, none, none, none, none, none, none, none, none, none, none, none, none, none, none, none, none, none, none, none, none, none, none, none, none, none, none, none, none, none, none, none, none, none, none, none, none, none, none, none, none, none, none, none, none, none, none, none, none, none, none, none, none, none, none, none, none, none, none, none, none, none, none, none, none, none, none, none, none, none, none, none, none, none, none, none, none, none, none, none, none, none, none, none, none, none, none, none, none, none, none, none, none, none, none, none, none, none, none, none, none, none, none, none, none, none, none, none, none, none, none, none, none, none, none, none, none, none, none, none, none, none, none, none, none, none, none, none, none]
def VL7f (B gf cap n k N0 : Nat) (z : Int) (nf : Nat → By) (sv : Value) : List (Value → World → Prop) :=
  [fun v _ => v = .pointer (some ⟨B, 0, none⟩),
   fun v _ => v = .pointer (some ⟨B, 0, none⟩),
   fun v _ => v = .pointer (some ⟨B, 1, none⟩),
   fun v _ => v = .slice (some ⟨gf, 0, none⟩) n cap,
   fun v _ => v = .int .i64 z,
   fun v _ => v = .pointer (some ⟨B, 0, none⟩),
   fun v _ => v = .pointer (some ⟨B, 0, none⟩),
   fun v _ => v = .pointer (some ⟨B, 1, none⟩),
   fun v _ => v = .slice (some ⟨gf, 0, none⟩) n cap,
   fun v _ => v = .int .i64 (n : Nat),
   fun v _ => v = .int .i64 (k : Nat),
   fun v _ => v = .pointer (some ⟨gf, k * 5, none⟩),
   fun v _ => v = .agg #[.string (bs (nf 0)), .string (bs (nf 1)), .string (bs (nf 2)), .string (bs (nf 3)), sv],
   fun v W => ∃ g xs, v = .pointer (some ⟨g, 0, none⟩) ∧ N0 ≤ g ∧ cls W g xs 61 ∧ xs.size = 5]
theorem VL7f.up {B gf cap n k N0 : Nat} {z : Int} {nf : Nat → By} {sv : Value} {W W' : World} (hb : Below W.heap.size W W') : ∀ p' ∈ VL7f B gf cap n k N0 z nf sv, ∀ u, p' u W → p' u W' :=
  List.forall_mem_cons.2 ⟨fun _ h => h, List.forall_mem_cons.2 ⟨fun _ h => h, List.forall_mem_cons.2 ⟨fun _ h => h, List.forall_mem_cons.2 ⟨fun _ h => h, List.forall_mem_cons.2 ⟨fun _ h => h, List.forall_mem_cons.2 ⟨fun _ h => h, List.forall_mem_cons.2 ⟨fun _ h => h, List.forall_mem_cons.2 ⟨fun _ h => h, List.forall_mem_cons.2 ⟨fun _ h => h, List.forall_mem_cons.2 ⟨fun _ h => h, List.forall_mem_cons.2 ⟨fun _ h => h, List.forall_mem_cons.2 ⟨fun _ h => h, List.forall_mem_cons.2 ⟨fun _ h => h, List.forall_mem_cons.2 ⟨fun _ ⟨g, xs, h1, h2, h3, h4⟩ => ⟨g, xs, h1, h2, h3.up hb, h4⟩, List.forall_mem_nil _⟩⟩⟩⟩⟩⟩⟩⟩⟩⟩⟩⟩⟩⟩
def tab9f : List (Option Nat) := [none, none, none, none, none, none, none, none, none, none, none, none, none, none, none, some 13, none, none, none, none, none, none, none, none, none, none, none, none, none, none, none, none, none, none, none, none, none, none, none, none, none, none, none, none, none, none, none, none, none, none, none, none, none, none, none, none, none, none, none, none, none, none, none, none, none, none, none, none, none, none, none, none, some 0, some 1, some 2, some 3, some 4, some 5, some 6, some 7, some 8, some 9, some 10, some 11, some 12, none, none, none, none, none, none, none, none, none, none, none, none, none, none, none, none, none, none, none, none, none, none, none, none, none, none, none, none, none, none, none, none, none, none, none, none, none, none, none, none, none, none, none, none, none, none, none, none, none, none, none, none, none, none, none, none, none, none, none, none, none, none, none, none, none, none, none, none, none, none, none, none, none, none, none, none, none, none, none, none, none, none, none, none, none, none, none, none, none, none, none, none, none, none, none, none, none, none, none, none, none, none, none, none, none, none, none, none, none, none, none, none, none, none, none, none, none, none, none, none, none, none, none, none, none, none, none, none, none]
def VL9f (kb kq q L j N0 : Nat) (ky t : Int) : List (Value → World → Prop) :=
  [fun v _ => v = .slice (some ⟨kb, 0, none⟩) 4 4,
   fun v _ => v = (.int .i64 (q : Nat)),
   fun v _ => v = .pointer (some ⟨kb, q, none⟩),
   fun v _ => v = .slice (some ⟨kq, 0, none⟩) L L,
   fun v _ => v = .int .i64 ky,
   fun v _ => v = .slice (some ⟨kb, 0, none⟩) 4 4,
   fun v _ => v = (.int .i64 (q : Nat)),
   fun v _ => v = .pointer (some ⟨kb, q, none⟩),
   fun v _ => v = .slice (some ⟨kq, 0, none⟩) L L,
   fun v _ => v = .int .i64 (L : Nat),
   fun v _ => v = .int .i64 (j : Nat),
   fun v _ => v = .pointer (some ⟨kq, j * 4, none⟩),
   fun v _ => v = .agg #[.int .i64 t, .string (bs (kindT t)), .string (bs []), .slice none 0 0],
   fun v W => ∃ g xs, v = .pointer (some ⟨g, 0, none⟩) ∧ N0 ≤ g ∧ cls W g xs 73 ∧ xs.size = 4]
theorem VL9f.up {kb kq q L j N0 : Nat} {ky t : Int} {W W' : World} (hb : Below W.heap.size W W') : ∀ p' ∈ VL9f kb kq q L j N0 ky t, ∀ u, p' u W → p' u W' :=
  List.forall_mem_cons.2 ⟨fun _ h => h, List.forall_mem_cons.2 ⟨fun _ h => h, List.forall_mem_cons.2 ⟨fun _ h => h, List.forall_mem_cons.2 ⟨fun _ h => h, List.forall_mem_cons.2 ⟨fun _ h => h, List.forall_mem_cons.2 ⟨fun _ h => h, List.forall_mem_cons.2 ⟨fun _ h => h, List.forall_mem_cons.2 ⟨fun _ h => h, List.forall_mem_cons.2 ⟨fun _ h => h, List.forall_mem_cons.2 ⟨fun _ h => h, List.forall_mem_cons.2 ⟨fun _ h => h, List.forall_mem_cons.2 ⟨fun _ h => h, List.forall_mem_cons.2 ⟨fun _ h => h, List.forall_mem_cons.2 ⟨fun _ ⟨g, xs, h1, h2, h3, h4⟩ => ⟨g, xs, h1, h2, h3.up hb, h4⟩, List.forall_mem_nil _⟩⟩⟩⟩⟩⟩⟩⟩⟩⟩⟩⟩⟩⟩
set_option maxRecDepth 20000 in
set_option maxHeartbeats 16000000 in
theorem Filtered_any (w : World) (ad : Option Addr) (n c : Nat) (z lv ky : Int) (pat : ByteArray) (hz : -9223372036854775808 ≤ z ∧ z ≤ 9223372036854775807) (hlv : -9223372036854775808 ≤ lv ∧ lv ≤ 9223372036854775807) (hky : -9223372036854775808 ≤ ky ∧ ky ≤ 9223372036854775807) (hpt : pat.size ≤ maxLen) (hP : Pix w ad n) (hV : VarsK w) :
    Calls Tryz.prog 10 #[.slice ad n c, .int .i64 z, .int .i64 lv, .int .i64 ky, .string pat] w fun e w' => e = .returned (.bool true) ∧ Below w.heap.size w w' := by
  have HV := hid hV
  have CP := hid (played_any w ad n c hP hV)
  clear hP hV
  go_enter Tryz.func10, Tryz.ntmps10
  go_wp2_with fail
  go_at_call 26
  refine CP.out.mono ?_
  rintro e w1 ⟨B, rfl, a, m, T, F, G, fv, A, hb, hG, hD, hT0, hT1⟩
  have H1 := hid hb
  have HG := hid hG
  have HD := hid hD
  obtain ⟨xs, hown, _⟩ := hb.2.2.1
  obtain ⟨adf, capf, rfl⟩ := row_sl hown
  have b1 := hb.1.at (i := 1) rfl
  have hA48 := hG.1
  clear hb hG hD hown CP hT0 hT1
  by_cases hA : A.length = 0
  · have hd : decide ((A.length : Int) = 0) = true := decide_eq_true (by omega)
    have hd2 : ((A.length : Int) == 0) = true := beq_iff_eq.2 (by omega)
    go_wp2
    go_ret
    exact ⟨rfl, H1.out.2.2.2.2.2.2.2⟩
  · have hd : decide ((A.length : Int) = 0) = false := decide_eq_false (by omega)
    have hd2 : ((A.length : Int) == 0) = false := by rw [beq_eq_false_iff_ne]; omega
    have pk := vpk_bd z A.length (by omega)
    obtain ⟨k, hk⟩ : ∃ k : Nat, vpk z A.length = k := ⟨(vpk z A.length).toNat, by omega⟩
    rw [hk] at pk
    have hkl : k < A.length := by omega
    obtain ⟨gf, capg, sv, e9, c9, c4, hrd⟩ := H1.out.at (List.getElem?_eq_getElem hkl)
    obtain ⟨rfl, _, rfl⟩ := Value.slice.inj e9
    have HL := hid (List.getElem_mem hkl)
    generalize A[k] = l at c9 hrd HL
    obtain ⟨ads, caps, rfl⟩ := hrd.slice
    obtain ⟨nf, hnf⟩ : ∃ nf : Nat → By, nf = fun i => nm (n := 2) i l := ⟨_, rfl⟩
    have HNE := hid hnf
    have c9' : ∀ i, i < 4 → w1.cell? ⟨gf, k * 5 + i, none⟩ = some (.string (bs (nf i))) := fun i hi => by rw [hnf]; exact c9 i hi
    clear hnf
    have up : ∀ (W : World), Below w1.heap.size w1 W → ∀ {p : Addr} {v : Value}, w1.cell? p = some v → W.cell? p = some v := fun W hW _ _ hc => (hW.cell (World.block_lt_of_cell? _ _ hc)).trans hc
    have NC := hid (fun W (hW : Below w1.heap.size w1 W) => (show W.cell? ⟨gf, k * 5, none⟩ = some (.string (bs (nf 0))) ∧ W.cell? ⟨gf, k * 5 + 1, none⟩ = some (.string (bs (nf 1))) ∧ W.cell? ⟨gf, k * 5 + 2, none⟩ = some (.string (bs (nf 2))) ∧ W.cell? ⟨gf, k * 5 + 3, none⟩ = some (.string (bs (nf 3))) ∧ W.cell? ⟨gf, k * 5 + 4, none⟩ = some (.slice ads l.length caps) from ⟨up W hW (c9' 0 (by omega)), up W hW (c9' 1 (by omega)), up W hW (c9' 2 (by omega)), up W hW (c9' 3 (by omega)), up W hW c4⟩))
    have B1 := hid (fun W (hW : Below w1.heap.size w1 W) => up W hW b1)
    have hk1 : (k : Int) < A.length := by omega
    have hk0 : (0 : Int) ≤ k := by omega
    have CK := hid (fun W => vpick_any z A.length W hz.1 hz.2 (by omega) (by omega))
    rw [hk] at CK
    have lb := vpk_bd lv 4 (by omega)
    obtain ⟨q, hq⟩ : ∃ q : Nat, vpk lv 4 = q := ⟨(vpk lv 4).toNat, by omega⟩
    have CL := hid (fun W => vpick_any lv 4 W hlv.1 hlv.2 (by omega) (by omega))
    rw [hq] at CL lb
    have hq4 : q < 4 := by omega
    clear e9 c9 c9' hrd pk hk c4 up lb hq
    go_wp2_with fail
    go_at_call 24
    refine (CL.out w1).mono ?_
    rintro e w2 ⟨rfl, hw2⟩
    rw [hw2]
    clear hw2
    go_wp2_with fail
    refine wp_region_tab 214 14 tab7f rfl rfl (by kernel_rfl) (by kernel_rfl) (by kernel_rfl) (by kernel_rfl) (by kernel_rfl) (fun W => Below w1.heap.size w1 W) (VL7f B gf capf A.length k w1.heap.size z nf (.slice ads l.length caps)) (Below.drew (Below.refl _ _)) ?_ ?_
    · refine ⟨?_, ?_, ?_, ?_, ?_, ?_, ?_, ?_, ?_, ?_, ?_, ?_, ?_, ?_, trivial⟩
      · intro a' W hS hE hV K hK
        have e11 : a'.tmps.getD 11 undef = .pointer (some ⟨B, 0, none⟩) := hE 11 (by kernel_rfl)
        have f11 : a'.tmps[11]?.getD undef = .pointer (some ⟨B, 0, none⟩) := by rw [← Array.getD_eq_getD_getElem?]; exact e11
        go_simp
        exact hK _ _ hS (fun _ _ _ h => h) rfl
      · intro a' W hS hE hV K hK
        have e42 : a'.tmps.getD 42 undef = .pointer (some ⟨B, 0, none⟩) := hV 0 (by kernel_rfl) 42 (by kernel_rfl)
        have f42 : a'.tmps[42]?.getD undef = .pointer (some ⟨B, 0, none⟩) := by rw [← Array.getD_eq_getD_getElem?]; exact e42
        go_simp
        exact hK _ _ hS (fun _ _ _ h => h) rfl
      · intro a' W hS hE hV K hK
        have e43 : a'.tmps.getD 43 undef = .pointer (some ⟨B, 0, none⟩) := hV 1 (by kernel_rfl) 43 (by kernel_rfl)
        have f43 : a'.tmps[43]?.getD undef = .pointer (some ⟨B, 0, none⟩) := by rw [← Array.getD_eq_getD_getElem?]; exact e43
        go_simp
        exact hK _ _ hS (fun _ _ _ h => h) rfl
      · intro a' W hS hE hV K hK
        have e44 : a'.tmps.getD 44 undef = .pointer (some ⟨B, 1, none⟩) := hV 2 (by kernel_rfl) 44 (by kernel_rfl)
        have f44 : a'.tmps[44]?.getD undef = .pointer (some ⟨B, 1, none⟩) := by rw [← Array.getD_eq_getD_getElem?]; exact e44
        have c9 := B1.out W hS
        go_simp
        exact hK _ _ hS (fun _ _ _ h => h) rfl
      · intro a' W hS hE hV K hK
        have e1 : a'.tmps.getD 1 undef = .int .i64 z := hE 1 (by kernel_rfl)
        have f1 : a'.tmps[1]?.getD undef = .int .i64 z := by rw [← Array.getD_eq_getD_getElem?]; exact e1
        go_simp
        exact hK _ _ hS (fun _ _ _ h => h) rfl
      · intro a' W hS hE hV K hK
        have e11 : a'.tmps.getD 11 undef = .pointer (some ⟨B, 0, none⟩) := hE 11 (by kernel_rfl)
        have f11 : a'.tmps[11]?.getD undef = .pointer (some ⟨B, 0, none⟩) := by rw [← Array.getD_eq_getD_getElem?]; exact e11
        go_simp
        exact hK _ _ hS (fun _ _ _ h => h) rfl
      · intro a' W hS hE hV K hK
        have e47 : a'.tmps.getD 47 undef = .pointer (some ⟨B, 0, none⟩) := hV 5 (by kernel_rfl) 47 (by kernel_rfl)
        have f47 : a'.tmps[47]?.getD undef = .pointer (some ⟨B, 0, none⟩) := by rw [← Array.getD_eq_getD_getElem?]; exact e47
        go_simp
        exact hK _ _ hS (fun _ _ _ h => h) rfl
      · intro a' W hS hE hV K hK
        have e48 : a'.tmps.getD 48 undef = .pointer (some ⟨B, 0, none⟩) := hV 6 (by kernel_rfl) 48 (by kernel_rfl)
        have f48 : a'.tmps[48]?.getD undef = .pointer (some ⟨B, 0, none⟩) := by rw [← Array.getD_eq_getD_getElem?]; exact e48
        go_simp
        exact hK _ _ hS (fun _ _ _ h => h) rfl
      · intro a' W hS hE hV K hK
        have e49 : a'.tmps.getD 49 undef = .pointer (some ⟨B, 1, none⟩) := hV 7 (by kernel_rfl) 49 (by kernel_rfl)
        have f49 : a'.tmps[49]?.getD undef = .pointer (some ⟨B, 1, none⟩) := by rw [← Array.getD_eq_getD_getElem?]; exact e49
        have c9 := B1.out W hS
        go_simp
        exact hK _ _ hS (fun _ _ _ h => h) rfl
      · intro a' W hS hE hV K hK
        have e50 : a'.tmps.getD 50 undef = .slice (some ⟨gf, 0, none⟩) A.length capf := hV 8 (by kernel_rfl) 50 (by kernel_rfl)
        have f50 : a'.tmps[50]?.getD undef = .slice (some ⟨gf, 0, none⟩) A.length capf := by rw [← Array.getD_eq_getD_getElem?]; exact e50
        go_simp
        exact hK _ _ hS (fun _ _ _ h => h) rfl
      · intro a' W hS hE hV K hK
        have e46 : a'.tmps.getD 46 undef = .int .i64 z := hV 4 (by kernel_rfl) 46 (by kernel_rfl)
        have f46 : a'.tmps[46]?.getD undef = .int .i64 z := by rw [← Array.getD_eq_getD_getElem?]; exact e46
        have e51 : a'.tmps.getD 51 undef = .int .i64 A.length := hV 9 (by kernel_rfl) 51 (by kernel_rfl)
        have f51 : a'.tmps[51]?.getD undef = .int .i64 A.length := by rw [← Array.getD_eq_getD_getElem?]; exact e51
        go_simp
        refine (CK.out W).mono ?_
        rintro e9 W9 ⟨rfl, rfl⟩
        exact hK _ _ hS (fun _ _ _ h => h) rfl
      · intro a' W hS hE hV K hK
        have e45 : a'.tmps.getD 45 undef = .slice (some ⟨gf, 0, none⟩) A.length capf := hV 3 (by kernel_rfl) 45 (by kernel_rfl)
        have f45 : a'.tmps[45]?.getD undef = .slice (some ⟨gf, 0, none⟩) A.length capf := by rw [← Array.getD_eq_getD_getElem?]; exact e45
        have e52 : a'.tmps.getD 52 undef = .int .i64 (k : Nat) := hV 10 (by kernel_rfl) 52 (by kernel_rfl)
        have f52 : a'.tmps[52]?.getD undef = .int .i64 (k : Nat) := by rw [← Array.getD_eq_getD_getElem?]; exact e52
        go_simp
        exact hK _ _ hS (fun _ _ _ h => h) rfl
      · intro a' W hS hE hV K hK
        have e53 : a'.tmps.getD 53 undef = .pointer (some ⟨gf, k * 5, none⟩) := hV 11 (by kernel_rfl) 53 (by kernel_rfl)
        have f53 : a'.tmps[53]?.getD undef = .pointer (some ⟨gf, k * 5, none⟩) := by rw [← Array.getD_eq_getD_getElem?]; exact e53
        obtain ⟨m0, m1, m2, m3, m4⟩ := NC.out W hS
        go_simp
        exact hK _ _ hS (fun _ _ _ h => h) rfl
      · intro a' W hS hE hV K hK
        go_simp
        exact hK _ _ (Below.alloc hS hS.size _) (VL7f.up (Below.alloc (Below.refl _ _) (Nat.le_refl _) _)) ⟨W.heap.size, _, rfl, hS.size, heap_alloc_new _ _, rfl⟩
    · intro vs W3 o9 ho9 hS hV
      obtain rfl := Option.some.inj ho9
      have v12 : vs 12 = .agg #[.string (bs (nf 0)), .string (bs (nf 1)), .string (bs (nf 2)), .string (bs (nf 3)), .slice ads l.length caps] := hV 12 (by decide)
      obtain ⟨fb, xs5, v13, hfb, hX, hx5⟩ : ∃ g xs, vs 13 = .pointer (some ⟨g, 0, none⟩) ∧ w1.heap.size ≤ g ∧ cls W3 g xs 61 ∧ xs.size = 5 := hV 13 (by decide)
      simp only [tab7f, zipT, v12, v13]
      obtain ⟨x0, x1, x2, x3, x4, rfl⟩ : ∃ x0 x1 x2 x3 x4, xs5 = #[x0, x1, x2, x3, x4] := arr5 hx5
      have y0 := hX.at (i := 0) rfl
      have y1 := hX.at (i := 1) rfl
      have y2 := hX.at (i := 2) rfl
      have y3 := hX.at (i := 3) rfl
      have y4 := hX.at (i := 4) rfl
      have f0 := hX.free 0
      have f1 := hX.free 1
      have f2 := hX.free 2
      have f3 := hX.free 3
      have f4 := hX.free 4
      have FB := hid (cls_set5 hX (.string (bs (nf 0))) (.string (bs (nf 1))) (.string (bs (nf 2))) (.string (bs (nf 3))) (.slice ads l.length caps))
      have U4 := hid (Below.set5 hS hfb (.string (bs (nf 0))) (.string (bs (nf 1))) (.string (bs (nf 2))) (.string (bs (nf 3))) (.slice ads l.length caps))
      go_simp
      generalize ((((W3.setCell ⟨fb, 0, none⟩ (.string (bs (nf 0)))).setCell ⟨fb, 1, none⟩ (.string (bs (nf 1)))).setCell ⟨fb, 2, none⟩ (.string (bs (nf 2)))).setCell ⟨fb, 3, none⟩ (.string (bs (nf 3)))).setCell ⟨fb, 4, none⟩ (.slice ads l.length caps) = W4 at FB U4 ⊢
      have H4 := hid (H1.out.up U4.out)
      have hfB : fb ≠ B := by have := H1.out.1.lt; omega
      clear y0 y1 y2 y3 y4 f0 f1 f2 f3 f4 hX hx5 v12 v13 hV hS NC B1 CK CL b1
      go_wp2_with fail
      obtain ⟨KA, U5⟩ := keys_at W4
      generalize (((((W4.alloc (.cells #[.int .i64 1048592, .string ⟨#[80, 78]⟩, .string ⟨#[]⟩, .slice none 0 0, .int .i64 1048608, .string ⟨#[76, 79]⟩, .string ⟨#[]⟩, .slice none 0 0, .int .i64 2101760, .string ⟨#[73, 83]⟩, .string ⟨#[]⟩, .slice none 0 0] 73)).alloc (.cells #[.int .i64 524320, .string ⟨#[68, 65]⟩, .string ⟨#[]⟩, .slice none 0 0, .int .i64 524336, .string ⟨#[84, 77]⟩, .string ⟨#[]⟩, .slice none 0 0, .int .i64 2097165, .string ⟨#[85, 73]⟩, .string ⟨#[]⟩, .slice none 0 0, .int .i64 2101766, .string ⟨#[73, 83]⟩, .string ⟨#[]⟩, .slice none 0 0] 73)).alloc (.cells #[.int .i64 524384, .string ⟨#[67, 83]⟩, .string ⟨#[]⟩, .slice none 0 0, .int .i64 2097169, .string ⟨#[73, 83]⟩, .string ⟨#[]⟩, .slice none 0 0, .int .i64 2101769, .string ⟨#[73, 83]⟩, .string ⟨#[]⟩, .slice none 0 0] 73)).alloc (.cells #[.int .i64 2097171, .string ⟨#[73, 83]⟩, .string ⟨#[]⟩, .slice none 0 0, .int .i64 524312, .string ⟨#[85, 73]⟩, .string ⟨#[]⟩, .slice none 0 0] 73)).alloc (.cells #[.slice (some ⟨W4.heap.size, 0, none⟩) 3 3, .slice (some ⟨W4.heap.size + 1, 0, none⟩) 4 4, .slice (some ⟨W4.heap.size + 1 + 1, 0, none⟩) 3 3, .slice (some ⟨W4.heap.size + 1 + 1 + 1, 0, none⟩) 2 2] 59)) = W5 at KA U5 ⊢
      have H5 := hid (H4.out.up U5)
      have FB5 := hid (FB.out.up U5)
      obtain ⟨kc, ke⟩ := KA q hq4
      have hL4 : ∀ q, q < 4 → 0 < (keysF.getD q []).length ∧ (keysF.getD q []).length ≤ 4 := by decide
      have hL := hL4 q hq4
      have HKF := hid (keysF_ok q hq4)
      generalize keysF.getD q [] = KL at kc ke hL HKF
      obtain ⟨L, hLL⟩ : ∃ L : Nat, L = KL.length := ⟨_, rfl⟩
      rw [← hLL] at kc hL
      have jb := vpk_bd ky L (by omega)
      obtain ⟨j, hj⟩ : ∃ j : Nat, vpk ky L = j := ⟨(vpk ky L).toNat, by omega⟩
      have CJ := hid (fun W => vpick_any ky L W hky.1 hky.2 (by omega) (by omega))
      rw [hj] at CJ jb
      have hjL : j < KL.length := by omega
      have KE := hid (ke j _ (List.getElem?_eq_getElem hjL))
      have HKT := hid (HKF.out _ (List.getElem_mem hjL))
      generalize KL[j] = t at KE HKT
      have up : ∀ (W : World), Below W5.heap.size W5 W → ∀ {p : Addr} {v : Value}, W5.cell? p = some v → W.cell? p = some v := fun W hW _ _ hc => (hW.cell (World.block_lt_of_cell? _ _ hc)).trans hc
      have KC := hid (fun W (hW : Below W5.heap.size W5 W) => up W hW kc)
      have EC := hid (fun W (hW : Below W5.heap.size W5 W) => (show W.cell? ⟨W4.heap.size + q, j * 4, none⟩ = some (.int .i64 t) ∧ W.cell? ⟨W4.heap.size + q, j * 4 + 1, none⟩ = some (.string (bs (kindT t))) ∧ W.cell? ⟨W4.heap.size + q, j * 4 + 2, none⟩ = some (.string (bs [])) ∧ W.cell? ⟨W4.heap.size + q, j * 4 + 3, none⟩ = some (.slice none 0 0) from ⟨up W hW KE.out.1, up W hW KE.out.2.1, up W hW KE.out.2.2.1, up W hW KE.out.2.2.2⟩))
      have hqi : (q : Int) < 4 := by omega
      have hji : (j : Int) < L := by omega
      have hq0 : (0 : Int) ≤ q := by omega
      have hj0 : (0 : Int) ≤ j := by omega
      clear kc ke hL4 hL HKF hLL jb hj KE up KA U5 H4 FB
      refine wp_region_tab 214 14 tab9f rfl rfl (by kernel_rfl) (by kernel_rfl) (by kernel_rfl) (by kernel_rfl) (by kernel_rfl) (fun W => Below W5.heap.size W5 W) (VL9f (W4.heap.size + 1 + 1 + 1 + 1) (W4.heap.size + q) q L j W5.heap.size ky t) (Below.drew (Below.refl _ _)) ?_ ?_
      · refine ⟨?_, ?_, ?_, ?_, ?_, ?_, ?_, ?_, ?_, ?_, ?_, ?_, ?_, ?_, trivial⟩
        · intro a' W hS hE hV K hK
          have e14 : a'.tmps.getD 14 undef = .slice (some ⟨W4.heap.size + 1 + 1 + 1 + 1, 0, none⟩) 4 4 := hE 14 (by kernel_rfl)
          have f14 : a'.tmps[14]?.getD undef = .slice (some ⟨W4.heap.size + 1 + 1 + 1 + 1, 0, none⟩) 4 4 := by rw [← Array.getD_eq_getD_getElem?]; exact e14
          go_simp
          exact hK _ _ hS (fun _ _ _ h => h) rfl
        · intro a' W hS hE hV K hK
          have e12 : a'.tmps.getD 12 undef = (.int .i64 (q : Nat)) := hE 12 (by kernel_rfl)
          have f12 : a'.tmps[12]?.getD undef = (.int .i64 (q : Nat)) := by rw [← Array.getD_eq_getD_getElem?]; exact e12
          go_simp
          exact hK _ _ hS (fun _ _ _ h => h) rfl
        · intro a' W hS hE hV K hK
          have e72 : a'.tmps.getD 72 undef = .slice (some ⟨W4.heap.size + 1 + 1 + 1 + 1, 0, none⟩) 4 4 := hV 0 (by kernel_rfl) 72 (by kernel_rfl)
          have f72 : a'.tmps[72]?.getD undef = .slice (some ⟨W4.heap.size + 1 + 1 + 1 + 1, 0, none⟩) 4 4 := by rw [← Array.getD_eq_getD_getElem?]; exact e72
          have e73 : a'.tmps.getD 73 undef = (.int .i64 (q : Nat)) := hV 1 (by kernel_rfl) 73 (by kernel_rfl)
          have f73 : a'.tmps[73]?.getD undef = (.int .i64 (q : Nat)) := by rw [← Array.getD_eq_getD_getElem?]; exact e73
          go_simp
          exact hK _ _ hS (fun _ _ _ h => h) rfl
        · intro a' W hS hE hV K hK
          have e74 : a'.tmps.getD 74 undef = .pointer (some ⟨W4.heap.size + 1 + 1 + 1 + 1, q, none⟩) := hV 2 (by kernel_rfl) 74 (by kernel_rfl)
          have f74 : a'.tmps[74]?.getD undef = .pointer (some ⟨W4.heap.size + 1 + 1 + 1 + 1, q, none⟩) := by rw [← Array.getD_eq_getD_getElem?]; exact e74
          have c9 := KC.out W hS
          go_simp
          exact hK _ _ hS (fun _ _ _ h => h) rfl
        · intro a' W hS hE hV K hK
          have e3 : a'.tmps.getD 3 undef = .int .i64 ky := hE 3 (by kernel_rfl)
          have f3 : a'.tmps[3]?.getD undef = .int .i64 ky := by rw [← Array.getD_eq_getD_getElem?]; exact e3
          go_simp
          exact hK _ _ hS (fun _ _ _ h => h) rfl
        · intro a' W hS hE hV K hK
          have e14 : a'.tmps.getD 14 undef = .slice (some ⟨W4.heap.size + 1 + 1 + 1 + 1, 0, none⟩) 4 4 := hE 14 (by kernel_rfl)
          have f14 : a'.tmps[14]?.getD undef = .slice (some ⟨W4.heap.size + 1 + 1 + 1 + 1, 0, none⟩) 4 4 := by rw [← Array.getD_eq_getD_getElem?]; exact e14
          go_simp
          exact hK _ _ hS (fun _ _ _ h => h) rfl
        · intro a' W hS hE hV K hK
          have e12 : a'.tmps.getD 12 undef = (.int .i64 (q : Nat)) := hE 12 (by kernel_rfl)
          have f12 : a'.tmps[12]?.getD undef = (.int .i64 (q : Nat)) := by rw [← Array.getD_eq_getD_getElem?]; exact e12
          go_simp
          exact hK _ _ hS (fun _ _ _ h => h) rfl
        · intro a' W hS hE hV K hK
          have e77 : a'.tmps.getD 77 undef = .slice (some ⟨W4.heap.size + 1 + 1 + 1 + 1, 0, none⟩) 4 4 := hV 5 (by kernel_rfl) 77 (by kernel_rfl)
          have f77 : a'.tmps[77]?.getD undef = .slice (some ⟨W4.heap.size + 1 + 1 + 1 + 1, 0, none⟩) 4 4 := by rw [← Array.getD_eq_getD_getElem?]; exact e77
          have e78 : a'.tmps.getD 78 undef = (.int .i64 (q : Nat)) := hV 6 (by kernel_rfl) 78 (by kernel_rfl)
          have f78 : a'.tmps[78]?.getD undef = (.int .i64 (q : Nat)) := by rw [← Array.getD_eq_getD_getElem?]; exact e78
          go_simp
          exact hK _ _ hS (fun _ _ _ h => h) rfl
        · intro a' W hS hE hV K hK
          have e79 : a'.tmps.getD 79 undef = .pointer (some ⟨W4.heap.size + 1 + 1 + 1 + 1, q, none⟩) := hV 7 (by kernel_rfl) 79 (by kernel_rfl)
          have f79 : a'.tmps[79]?.getD undef = .pointer (some ⟨W4.heap.size + 1 + 1 + 1 + 1, q, none⟩) := by rw [← Array.getD_eq_getD_getElem?]; exact e79
          have c9 := KC.out W hS
          go_simp
          exact hK _ _ hS (fun _ _ _ h => h) rfl
        · intro a' W hS hE hV K hK
          have e80 : a'.tmps.getD 80 undef = .slice (some ⟨W4.heap.size + q, 0, none⟩) L L := hV 8 (by kernel_rfl) 80 (by kernel_rfl)
          have f80 : a'.tmps[80]?.getD undef = .slice (some ⟨W4.heap.size + q, 0, none⟩) L L := by rw [← Array.getD_eq_getD_getElem?]; exact e80
          go_simp
          exact hK _ _ hS (fun _ _ _ h => h) rfl
        · intro a' W hS hE hV K hK
          have e76 : a'.tmps.getD 76 undef = .int .i64 ky := hV 4 (by kernel_rfl) 76 (by kernel_rfl)
          have f76 : a'.tmps[76]?.getD undef = .int .i64 ky := by rw [← Array.getD_eq_getD_getElem?]; exact e76
          have e81 : a'.tmps.getD 81 undef = .int .i64 (L : Nat) := hV 9 (by kernel_rfl) 81 (by kernel_rfl)
          have f81 : a'.tmps[81]?.getD undef = .int .i64 (L : Nat) := by rw [← Array.getD_eq_getD_getElem?]; exact e81
          go_simp
          refine (CJ.out W).mono ?_
          rintro e9 W9 ⟨rfl, rfl⟩
          exact hK _ _ hS (fun _ _ _ h => h) rfl
        · intro a' W hS hE hV K hK
          have e75 : a'.tmps.getD 75 undef = .slice (some ⟨W4.heap.size + q, 0, none⟩) L L := hV 3 (by kernel_rfl) 75 (by kernel_rfl)
          have f75 : a'.tmps[75]?.getD undef = .slice (some ⟨W4.heap.size + q, 0, none⟩) L L := by rw [← Array.getD_eq_getD_getElem?]; exact e75
          have e82 : a'.tmps.getD 82 undef = .int .i64 (j : Nat) := hV 10 (by kernel_rfl) 82 (by kernel_rfl)
          have f82 : a'.tmps[82]?.getD undef = .int .i64 (j : Nat) := by rw [← Array.getD_eq_getD_getElem?]; exact e82
          go_simp
          exact hK _ _ hS (fun _ _ _ h => h) rfl
        · intro a' W hS hE hV K hK
          have e83 : a'.tmps.getD 83 undef = .pointer (some ⟨W4.heap.size + q, j * 4, none⟩) := hV 11 (by kernel_rfl) 83 (by kernel_rfl)
          have f83 : a'.tmps[83]?.getD undef = .pointer (some ⟨W4.heap.size + q, j * 4, none⟩) := by rw [← Array.getD_eq_getD_getElem?]; exact e83
          obtain ⟨m0, m1, m2, m3⟩ := EC.out W hS
          go_simp
          exact hK _ _ hS (fun _ _ _ h => h) rfl
        · intro a' W hS hE hV K hK
          go_simp
          exact hK _ _ (Below.alloc hS hS.size _) (VL9f.up (Below.alloc (Below.refl _ _) (Nat.le_refl _) _)) ⟨W.heap.size, _, rfl, hS.size, heap_alloc_new _ _, rfl⟩
      · intro vs2 W6 o9 ho9 hS hV
        obtain rfl := Option.some.inj ho9
        have v12 : vs2 12 = .agg #[.int .i64 t, .string (bs (kindT t)), .string (bs []), .slice none 0 0] := hV 12 (by decide)
        obtain ⟨xb, xs4, v13, hxb, hX, hx4⟩ : ∃ g xs, vs2 13 = .pointer (some ⟨g, 0, none⟩) ∧ W5.heap.size ≤ g ∧ cls W6 g xs 73 ∧ xs.size = 4 := hV 13 (by decide)
        simp only [tab9f, zipT, v12, v13]
        obtain ⟨x0, x1, x2, x3, rfl⟩ := arr4' hx4
        have y0 := hX.at (i := 0) rfl
        have y1 := hX.at (i := 1) rfl
        have y2 := hX.at (i := 2) rfl
        have y3 := hX.at (i := 3) rfl
        have f0 := hX.free 0
        have f1 := hX.free 1
        have f2 := hX.free 2
        have f3 := hX.free 3
        have XB := hid (cls_set4 hX (.int .i64 t) (.string (bs (kindT t))) (.string (bs [])) (.slice none 0 0))
        have U7 := hid (Below.set4 hS hxb 0 1 2 3 (.int .i64 t) (.string (bs (kindT t))) (.string (bs [])) (.slice none 0 0))
        go_simp
        generalize (((W6.setCell ⟨xb, 0, none⟩ (.int .i64 t)).setCell ⟨xb, 1, none⟩ (.string (bs (kindT t)))).setCell ⟨xb, 2, none⟩ (.string (bs []))).setCell ⟨xb, 3, none⟩ (.slice none 0 0) = W7 at XB U7 ⊢
        have H7 := hid (H5.out.up U7.out)
        have hxB : xb ≠ B := by have := H5.out.1.lt; omega
        have FB7 := hid (FB5.out.up U7.out)
        clear y0 y1 y2 y3 f0 f1 f2 f3 hX hx4 v12 v13 hV hS KC EC CJ H5 FB5
        obtain ⟨pu, rfl⟩ : ∃ u : By, pat = bs u := ⟨pat.data.toList, rfl⟩
        have hps := bs_size pu
        go_upto_if 88 with fail
        go_cut [16] from 89 to 90 (fun s16 wc => ∃ p0 : By, s16 = .string (bs p0) ∧ p0.length ≤ 64 ∧ wc = W7)
        case first =>
          by_cases h64 : 64 < pu.length
          · have h64' : (64 : Int) < (pu.length : Int) := by omega
            go_wp2_with fail
            rw [bs_take pu 64]
            go_meet
            case rel => exact ⟨pu.take 64, rfl, by rw [List.length_take]; omega, rfl⟩
          · have h64' : ¬ (64 : Int) < (pu.length : Int) := by omega
            go_wp2_with fail
            go_meet
            case rel => exact ⟨pu, rfl, by omega, rfl⟩
        case rest =>
          obtain ⟨p0, rfl, hp0, hwc⟩ := hcut
          rw [hwc]
          clear hwc
          go_upto_block 0 with fail
          go_cut [16] from 91 to 113 (fun s16 wx => ∃ u : By, s16 = .string (bs u) ∧ u.length ≤ 64 ∧ (u.getLast? ≠ some 32 ∧ u.getLast? ≠ some 0) ∧ Hid (Below W7.heap.size W7 wx))
          case first =>
            go_wp2_with fail
            go_loopw [16] (fun v wr => ∃ u : By, v = .string (bs u) ∧ u.length ≤ 64 ∧ Hid (Below W7.heap.size W7 wr)) (fun v _ => strLen v)
            case atStart => exact ⟨p0, rfl, hp0, Below.refl _ _⟩
            case round =>
              obtain ⟨u, rfl, hu, hU⟩ := hrel
              have hsz := bs_size u
              have e1 := bs_toList u
              by_cases hu0 : u.length = 0
              · obtain rfl : u = [] := List.eq_nil_of_length_eq_zero hu0
                go_wp2_with fail
                go_meet
                case rel => exact ⟨[], rfl, by simp, ⟨by simp, by simp⟩, hU⟩
              · have hpos : 0 < u.length := by omega
                have hne : (u == []) = false := by rw [beq_eq_false_iff_ne]; exact fun e => hu0 (by rw [e]; rfl)
                have t32 := last_32 u hpos
                have t0 := last_0 u hpos
                have hi9 : (0 : Int) ≤ (u.length : Int) - 1 := by omega
                have hi8 : (u.length : Int) - 1 < u.length := by omega
                have hi7 : ((u.length : Int) - 1).toNat = u.length - 1 := by omega
                have hw9 : IntKind.i64.wrap ((u.length : Int) - 1) = (u.length : Int) - 1 := by rw [IntKind.wrap_i64]; omega
                by_cases h32 : u.getLast? = some 32
                · rw [decide_eq_true h32] at t32
                  clear t0 h32
                  go_wp2
                  rw [bs_take u (u.length - 1)]
                  go_roundw
                  case rel => exact ⟨u.take (u.length - 1), rfl, by rw [List.length_take]; omega, hU⟩
                  case measure => simp [strLen, bs_size]; omega
                · rw [decide_eq_false h32] at t32
                  by_cases h0 : u.getLast? = some 0
                  · rw [decide_eq_true h0] at t0
                    clear h32 h0
                    go_wp2
                    rw [bs_take u (u.length - 1)]
                    go_roundw
                    case rel => exact ⟨u.take (u.length - 1), rfl, by rw [List.length_take]; omega, hU⟩
                    case measure => simp [strLen, bs_size]; omega
                  · rw [decide_eq_false h0] at t0
                    have HH := hid (show u.getLast? ≠ some 32 ∧ u.getLast? ≠ some 0 from ⟨h32, h0⟩)
                    clear h32 h0
                    go_wp2_with fail
                    go_meet
                    case rel => exact ⟨u, rfl, hu, HH.out, hU⟩
          case rest =>
            obtain ⟨u, rfl, hu, hlast, hU⟩ := hcut
            have HLA := hid hlast
            have Fc := hid (FB7.out.up hU.out)
            have Xc := hid (XB.out.up hU.out)
            have Hc := hid (H7.out.up hU.out)
            have m0 := Fc.out.at (i := 0) rfl
            have m1 := Fc.out.at (i := 1) rfl
            have m2 := Fc.out.at (i := 2) rfl
            have m3 := Fc.out.at (i := 3) rfl
            have m4 := Fc.out.at (i := 4) rfl
            have x0 := Xc.out.at (i := 0) rfl
            have x1 := Xc.out.at (i := 1) rfl
            have x2 := Xc.out.at (i := 2) rfl
            have x3 := Xc.out.at (i := 3) rfl
            clear hlast
            go_wp2_with fail
            have HNF := hid (show NfOk q nf from fun i hi => by rw [HNE.out]; exact desc_nm (HD.out l HL.out) (by omega))
            have KX0 := hid (keyX_ok (lvl := q) (p := []) HKT.out.1 HKT.out.2.2.1 HKT.out.2.2.2 (by decide) (by simp))
            have KXp := hid (keyX_ok (lvl := q) (p := u) HKT.out.1 HKT.out.2.2.1 HKT.out.2.2.2 hu (by rcases pads t HKT.out.1 with e | e <;> rw [e]; exact HLA.out.1; exact HLA.out.2))
            have E8 : cls (wc.alloc (.cells #[.int .i64 t, .string (bs (kindT t)), .string (bs []), .slice none 0 0] 73)) wc.heap.size #[.int .i64 t, .string (bs (kindT t)), .string (bs []), .slice none 0 0] 73 := heap_alloc_new _ _
            have u8 := Below.alloc (Below.refl wc.heap.size wc) (Nat.le_refl _) (.cells #[.int .i64 t, .string (bs (kindT t)), .string (bs []), .slice none 0 0] 73)
            generalize wc.alloc (.cells #[.int .i64 t, .string (bs (kindT t)), .string (bs []), .slice none 0 0] 73) = w8 at E8 u8 ⊢
            have CA1 := hid (asked_any q hq4 nf (.slice ads l.length caps) (fun j => j = wc.heap.size) w8 ⟨wc.heap.size, 0, none⟩ 1 1 [keyX t []] (el_rd1 E8 rfl) (fun j hj => by rw [hj]; exact E8.lt) HNF.out KX0.out)
            go_at_call 31
            refine CA1.out.mono ?_
            rintro e w9 ⟨rfl, u9⟩
            have H9 := hid ((Hc.out.up u8).up u9)
            have F9 := hid ((Fc.out.up u8).up u9)
            have X9 := hid ((Xc.out.up u8).up u9)
            clear u8 u9 E8 CA1 Hc Fc Xc m0 m1 m2 m3 m4 x0 x1 x2 x3
            go_wp2_with fail
            go_at_call 30
            refine (book_answers H9.out HG.out HV.out hq4 HNF.out KX0.out (fun x hx => by rw [List.mem_singleton.1 hx]; exact match_nil t HKT.out.1)).mono ?_
            rintro e wa ⟨va, rfl, ua, hba, hra⟩
            have Ha := hid hba
            have RA := hid hra
            have Fa := hid (F9.out.keep (ua.block F9.out.lt hfB))
            have Xa := hid (X9.out.keep (ua.block X9.out.lt hxB))
            obtain ⟨ada, capa, rfl⟩ := hra.slice
            generalize bs (wrS false 0 3 (askQ q nf [keyX t []])) = qq
            have m0 := Fa.out.at (i := 0) rfl
            have m1 := Fa.out.at (i := 1) rfl
            have m2 := Fa.out.at (i := 2) rfl
            have m3 := Fa.out.at (i := 3) rfl
            have m4 := Fa.out.at (i := 4) rfl
            have x0 := Xa.out.at (i := 0) rfl
            have x1 := Xa.out.at (i := 1) rfl
            have x2 := Xa.out.at (i := 2) rfl
            have x3 := Xa.out.at (i := 3) rfl
            have hfl := Fa.out.lt
            have hfn : fb ≠ wa.heap.size := by omega
            clear ua hba hra H9 F9 X9
            go_wp2_with fail
            have ub := Below.alloc (Below.alloc (Below.refl wa.heap.size wa) (Nat.le_refl _) (.cells #[.int .i64 t, .string (bs (kindT t)), .string (bs u), .slice none 0 0] 73)) (by simp) (.cells #[.int .i64 t, .string (bs (kindT t)), .string (bs u), .slice none 0 0] 73)
            have Eb : cls ((wa.alloc (.cells #[.int .i64 t, .string (bs (kindT t)), .string (bs u), .slice none 0 0] 73)).alloc (.cells #[.int .i64 t, .string (bs (kindT t)), .string (bs u), .slice none 0 0] 73)) (wa.heap.size + 1) #[.int .i64 t, .string (bs (kindT t)), .string (bs u), .slice none 0 0] 73 := by
              have := heap_alloc_new (wa.alloc (.cells #[.int .i64 t, .string (bs (kindT t)), .string (bs u), .slice none 0 0] 73)) (.cells #[.int .i64 t, .string (bs (kindT t)), .string (bs u), .slice none 0 0] 73)
              rw [World.size_alloc] at this
              exact this
            generalize (wa.alloc (.cells #[.int .i64 t, .string (bs (kindT t)), .string (bs u), .slice none 0 0] 73)).alloc (.cells #[.int .i64 t, .string (bs (kindT t)), .string (bs u), .slice none 0 0] 73) = wb at ub Eb ⊢
            have CA2 := hid (asked_any q hq4 nf (.slice ads l.length caps) (fun j => j = wa.heap.size + 1) wb ⟨wa.heap.size + 1, 0, none⟩ 1 1 [keyX t u] (el_rd1 Eb rfl) (fun j hj => by rw [hj]; exact Eb.lt) HNF.out KXp.out)
            go_at_call 31
            refine CA2.out.mono ?_
            rintro e wd ⟨rfl, ud⟩
            have Hd := hid ((Ha.out.up ub).up ud)
            have Xd := hid ((Xa.out.up ub).up ud)
            have Rd' := hid ((RA.out.up ub).up ud)
            have SZD := hid (Nat.le_trans ub.size ud.size)
            have b0 := Hd.out.1.at (i := 0) rfl
            have VD := hid (HV.out.up Hd.out.2.2.2.2.2.2.2)
            have CF := hid (Find_any F wd a m T A (wrS false 0 3 (askQ q nf [keyX t u])) Hd.out.2.1 (fun j hj => (Hd.out.2.2.2.1 j hj).1) HG.out VD.out.2.1 VD.out.2.2.1 VD.out.2.2.2 VD.out.1)
            clear ub ud Eb CA2 Ha Fa Xa RA m0 m1 m2 m3 m4 x0 x1 x2 x3 hfl hfn
            generalize HQ : wrS false 0 3 (askQ q nf [keyX t u]) = qs at CF ⊢
            go_wp2_with fail
            go_at_call 36
            refine CF.out.mono ?_
            rintro e we ⟨ve, rfl, ue, hrow⟩
            have He := hid (Hd.out.up ue)
            have SZE := hid (Nat.le_trans SZD.out ue.size)
            have Xe := hid (Xd.out.up ue)
            have Re := hid (Rd'.out.up ue)
            have x1 := Xe.out.at (i := 1) rfl
            have b2 := He.out.1.at (i := 2) rfl
            have CM := hid (fun W (hW : Below we.heap.size we W) (v : By) (hv : v.length ≤ 64) => Match_any (bs (kindT t)) (bs u) (bs v) W (by rw [bs_size]; omega) (by rw [bs_size]; omega) ((HV.out.1.up He.out.2.2.2.2.2.2.2).up hW))
            obtain ⟨adr, capr, rfl⟩ := row_sl hrow
            have RW := hid hrow
            clear ue hrow Hd Xd Rd' b0 CF VD
            rcases match_two (p := u) (chk_empty t HKT.out.1) with hm | hm
            · obtain ⟨NS, X, fit, V, p1, p2, p3, p4, p5⟩ := sieve_all HG.out hq4 HNF.out HKT.out.1 HKT.out.2.1 HKT.out.2.2.1 HKT.out.2.2.2 hu (show u.getLast? ≠ some (padB (kindT t)) from by rcases pads t HKT.out.1 with e | e <;> rw [e]; exact HLA.out.1; exact HLA.out.2) hm
              rw [HQ] at p2 p3
              rw [p1] at Re ⊢
              rw [p3] at RW
              rw [p2, p3]
              have HS := hid p5
              clear p1 p2 p3 p5
              rw [List.length_map] at RW
              rw [List.length_map, List.length_map]
              go_wp2_with fail
              go_at_call 12
              refine (CM.out we (Below.refl _ _) [] (by decide)).mono ?_
              rintro e wf ⟨rfl, uf⟩
              simp only [bs_list]
              rw [hm]
              have b2 := (He.out.up uf).1.at (i := 2) rfl
              have UF := hid (show Below we.heap.size we wf from uf)
              generalize matchV (kindT t) u [] = mv
              clear uf
              go_wp2_with fail
              go_loopw [24, 25] (fun nv i wr => ∃ k N : Nat, k ≤ NS.length ∧ i = .int .i64 k ∧ nv = .int .i64 N ∧ Hid (N = ((NS.take k).filter fit).length) ∧ N ≤ 48 ∧ Hid (Below wf.heap.size wf wr)) (fun _ i _ => NS.length - (intOf i).toNat)
              case atStart => exact ⟨0, 0, Nat.zero_le _, rfl, rfl, (by unfold Hid; simp), by omega, Below.refl _ _⟩
              case round =>
                obtain ⟨k9, N, hk9, rfl, rfl, hN, hN48, hU9⟩ := hrel
                have BW := hid (UF.out.trans (hU9.out.mono UF.out.size))
                have Xw := hid (Xe.out.up BW.out)
                have y0 := Xw.out.at (i := 0) rfl
                have y1 := Xw.out.at (i := 1) rfl
                by_cases hkl : k9 < NS.length
                · obtain ⟨a5, ad9, cap9, rfl, _, c5, hrd⟩ := RdI.at (Re.out.up BW.out) (i := k9) (x := X NS[k9]) (by rw [List.getElem?_map, List.getElem?_eq_getElem hkl]; rfl)
                  have HSk := hid (HS.out _ (List.getElem_mem hkl))
                  have FA := hid (fun h => filt_at (p := fit) hkl h)
                  have FY := hid (fun h => filt_yes (p := fit) hkl h)
                  have FN := hid (fun h => filt_no (p := fit) hkl h)
                  generalize NS[k9] = s9 at c5 hrd HSk FA FY FN
                  have hk9i : (k9 : Int) < NS.length := by omega
                  have CT := hid (fun W (hW : Below wr.heap.size wr W) => ktext_same 2 _ W _ (X s9) t (hrd.up hW) (by have := HSk.out.2.2.1; omega))
                  rw [HSk.out.2.2.2.1] at CT
                  have CMs := hid (fun W (hW : Below wr.heap.size wr W) => CM.out W (BW.out.trans (hW.mono BW.out.size)) (V s9) HSk.out.2.2.2.2.1)
                  simp only [bs_list, HSk.out.2.2.2.2.2.1, HSk.out.2.2.2.2.2.2] at CMs
                  have KS := hid (show ∀ W, Below wr.drew.heap.size wr.drew W → W.cell? ⟨xb, 0, none⟩ = some (.int .i64 t) ∧ W.cell? ⟨xb, 1, none⟩ = some (.string (bs (kindT t))) ∧ W.cell? (a5.add k9) = some (.slice ad9 (X s9).length cap9) from fun W hW => ⟨(hW.cell (World.block_lt_of_cell? wr _ y0)).trans y0, (hW.cell (World.block_lt_of_cell? wr _ y1)).trans y1, (hW.cell (World.block_lt_of_cell? wr _ c5)).trans c5⟩)
                  have RDX := hid hrd
                  clear hrd
                  go_wp2_with fail
                  go_region_held3 (fun W => W.cell? ⟨xb, 0, none⟩ = some (.int .i64 t) ∧ W.cell? ⟨xb, 1, none⟩ = some (.string (bs (kindT t))) ∧ W.cell? (a5.add k9) = some (.slice ad9 (X s9).length cap9)) (first | go_keep | exact KS.out _ (by assumption)) (first | (go_at_call 33; refine (CT.out _ (Below.drew (Below.refl _ _))).mono ?_; rintro e wg ⟨rfl, rfl⟩) | (go_at_call 12; refine (CMs.out _ (Below.drew (Below.refl _ _))).mono ?_; rintro e wg ⟨rfl, ug⟩))
                  have UG := hid (show Below wr.heap.size wr wg from (Below.drew (Below.refl wr.heap.size wr)).trans (show Below wr.drew.heap.size wr.drew wg from ug))
                  have BG := hid (hU9.out.trans (UG.out.mono hU9.out.size))
                  have c5g := (UG.out.cell (World.block_lt_of_cell? _ _ c5)).trans c5
                  rename_i hHeld
                  clear hHeld ug CT CMs KS
                  by_cases hf : fit s9 = true
                  · obtain ⟨f1, f2⟩ := (show Hid ((NS.filter fit)[N]? = some s9) ∧ Hid (N + 1 = ((NS.take (k9 + 1)).filter fit).length) from ⟨by unfold Hid; rw [hN.out]; exact FA.out hf, by unfold Hid; rw [hN.out]; exact (FY.out hf).symm⟩)
                    have hNl : N < (NS.filter fit).length := (List.getElem?_eq_some_iff.1 f1.out).1
                    have hfl9 : (NS.filter fit).length ≤ 48 := Nat.le_trans (List.length_filter_le _ _) p4
                    rw [hf]
                    go_wp2_with fail
                    go_at_call 37
                    refine (Encode_any 3 (by decide) _ wg _ (X s9) (fun j hj => hj.2) (show Rd wg (fun j => j < wg.heap.size ∧ j < wg.heap.size) 3 _ (X s9) from (RDX.out.up UG.out).keep (fun j hj => ?_) (fun _ _ _ => rfl)) (fun _ => Nat.le_trans HSk.out.2.1 (by decide))).mono ?_
                    · have h1 := SZE.out
                      have h2 := BW.out.size
                      have h3 := UG.out.size
                      have h4 := hj.2
                      exact ⟨by omega, by omega⟩
                    rintro e wh ⟨uh, ⟨hbad, _⟩ | ⟨_, rfl⟩⟩
                    · exact absurd HSk.out.1 hbad
                    have BH := hid (BG.out.trans (uh.mono BG.out.size))
                    have RWh := hid (ownsRow_keep RW.out (w' := wh) (fun j hj => (UF.out.trans (BH.out.mono UF.out.size)).block j (ownsRow_lt RW.out j hj)))
                    obtain ⟨gr, capx, ex, cx⟩ := str_at (L := (NS.filter fit).map (fun s => wrS false 0 3 (X s))) RWh.out (k := N) (by rw [List.length_map]; exact hNl)
                    rw [List.getElem_map, show (NS.filter fit)[N] = s9 from (List.getElem?_eq_some_iff.1 f1.out).2] at cx
                    obtain ⟨rfl, hzz, rfl⟩ := Value.slice.inj ex
                    clear hzz
                    have hNi : (N : Int) < (NS.filter fit).length := by omega
                    have hNg : decide (((NS.filter fit).length : Int) ≤ (N : Int)) = false := decide_eq_false (by omega)
                    have eb9 := bs_toList (wrS false 0 3 (X s9))
                    generalize wrS false 0 3 (X s9) = bb at cx eb9 ⊢
                    clear ex uh
                    go_wp2
                    go_roundw
                    case rel => exact ⟨k9 + 1, N + 1, by omega, by go_num, by go_num, f2, by omega, BH⟩
                    case measure => simp [intOf]; omega
                  · have hf' : fit s9 = false := by simpa using hf
                    have f2 : Hid (N = ((NS.take (k9 + 1)).filter fit).length) := by unfold Hid; rw [hN.out]; exact (FN.out hf').symm
                    rw [hf']
                    go_wp2
                    go_roundw
                    case rel => exact ⟨k9 + 1, N, by omega, by go_num, rfl, f2, hN48, BG⟩
                    case measure => simp [intOf]; omega
                · obtain rfl : k9 = NS.length := by omega
                  have hNe : N = (NS.filter fit).length := by have := hN.out; rwa [List.take_length] at this
                  have HE := hid (show Below w.heap.size w wr from (He.out.up BW.out).2.2.2.2.2.2.2)
                  subst hNe
                  go_wp2
                  go_ret
                  exact ⟨by simp, HE.out⟩
            · obtain ⟨q1, q2⟩ := ask_bad hq4 HNF.out (x := keyX t u) KXp.out (by show matchE (kindT t) u [] ≠ 0; rw [hm]; decide)
              have q1' : fndE qs = 12 := by rw [← HQ]; exact q1.trans hm
              have q2' : fndL A qs = [] := by rw [← HQ]; exact q2 A
              rw [q1', q2']
              go_wp2_with fail
              go_at_call 12
              refine (CM.out we (Below.refl _ _) [] (by decide)).mono ?_
              rintro e wf ⟨rfl, uf⟩
              simp only [bs_list]
              rw [hm]
              have b2 := (He.out.up uf).1.at (i := 2) rfl
              have HE := hid (show Below w.heap.size w wf from (He.out.up uf).2.2.2.2.2.2.2)
              go_wp2
              go_ret
              exact ⟨rfl, HE.out⟩
end Go.Proofs.YtaokifbpakbgdaaGreatDoor

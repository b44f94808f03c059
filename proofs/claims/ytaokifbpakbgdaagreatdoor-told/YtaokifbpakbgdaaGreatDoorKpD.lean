/-
  Package foliokeep: the description that numbers speak of (Picture.described).
-/
import Derived.Test.YtaokifbpakbgdaaGreatDoorKpD1
namespace Go.Proofs.YtaokifbpakbgdaaGreatDoor
open Go.RowKit
set_option maxRecDepth 20000 in
set_option maxHeartbeats 4000000 in
theorem described_any (a1 a2 : Option Addr) (n1 c1 n2 c2 : Nat) (Z1 Z2 : Nat → Int) (g : Bool) (w : World) (h1 : Raws w a1 n1 c1 Z1) (h2 : Raws w a2 n2 c2 Z2) :
    Calls Tryz.prog 107 #[.agg #[.slice a1 n1 c1, .slice a2 n2 c2, .bool g]] w (FactEnd w) := by
  obtain ⟨i0, hi0, hz0, hz1, hz2⟩ := info_parts info_element
  have HI := hid hi0
  clear hi0
  obtain ⟨j0, hj, hj0, hj1, hj2⟩ := info_parts info_item
  have HJ := hid hj
  clear hj
  have R1 := hid h1
  have R2 := hid h2
  clear h1 h2
  go_enter Tryz.func107, Tryz.ntmps107
  go_wp2_with fail
  have U0 := (Below.alloc (Below.alloc (Below.refl w.heap.size w) (Nat.le_refl _) (.cells #[.slice a1 n1 c1, .slice a2 n2 c2, .bool g] 102)) (by simp) (.cells #[.string ⟨#[]⟩, .string ⟨#[]⟩, .string ⟨#[]⟩, .string ⟨#[]⟩, .slice none 0 0] 61))
  have PB : cls ((w.alloc (.cells #[.slice a1 n1 c1, .slice a2 n2 c2, .bool g] 102)).alloc (.cells #[.string ⟨#[]⟩, .string ⟨#[]⟩, .string ⟨#[]⟩, .string ⟨#[]⟩, .slice none 0 0] 61)) w.heap.size #[.slice a1 n1 c1, .slice a2 n2 c2, .bool g] 102 :=
    (Below.heap_alloc _ _ _ (by simp)).trans (heap_alloc_new _ _)
  have RB : cls ((w.alloc (.cells #[.slice a1 n1 c1, .slice a2 n2 c2, .bool g] 102)).alloc (.cells #[.string ⟨#[]⟩, .string ⟨#[]⟩, .string ⟨#[]⟩, .string ⟨#[]⟩, .slice none 0 0] 61)) (w.heap.size + 1) #[.string ⟨#[]⟩, .string ⟨#[]⟩, .string ⟨#[]⟩, .string ⟨#[]⟩, .slice none 0 0] 61 := by
    have := heap_alloc_new (w.alloc (.cells #[.slice a1 n1 c1, .slice a2 n2 c2, .bool g] 102)) (.cells #[.string ⟨#[]⟩, .string ⟨#[]⟩, .string ⟨#[]⟩, .string ⟨#[]⟩, .slice none 0 0] 61)
    rw [World.size_alloc] at this
    exact this
  generalize (w.alloc (.cells #[.slice a1 n1 c1, .slice a2 n2 c2, .bool g] 102)).alloc (.cells #[.string ⟨#[]⟩, .string ⟨#[]⟩, .string ⟨#[]⟩, .string ⟨#[]⟩, .slice none 0 0] 61) = W0 at U0 PB RB ⊢
  have pc0 := PB.at (i := 0) rfl
  have pc1 := PB.at (i := 1) rfl
  obtain ⟨r0, r0a, r0b⟩ := R1.out 0 W0 U0
  obtain ⟨r1, r1a, r1b⟩ := R1.out 1 W0 U0
  obtain ⟨r2, r2a, r2b⟩ := R1.out 2 W0 U0
  have p0 := vpk_bd (rawI n1 Z1 0) 3 (by omega)
  have p1 := vpk_bd (rawI n1 Z1 1) 2 (by omega)
  have p2 := vpk_bd (rawI n1 Z1 2) 2 (by omega)
  go_at_call 25; refine r0.mono ?_; rintro e w1 ⟨rfl, rfl⟩
  go_wp2_with fail
  go_at_call 24; refine (vpick_any _ _ _ r0a r0b (by omega) (by omega)).mono ?_; rintro e w2 ⟨rfl, rfl⟩
  generalize vpk (rawI n1 Z1 0) 3 = y0 at p0 ⊢
  obtain ⟨p, rfl⟩ : ∃ p : Nat, y0 = p := ⟨y0.toNat, by omega⟩
  clear r0 r0a r0b
  go_wp2_with fail
  go_at_call 25; refine r1.mono ?_; rintro e w1 ⟨rfl, rfl⟩
  go_wp2_with fail
  go_at_call 24; refine (vpick_any _ _ _ r1a r1b (by omega) (by omega)).mono ?_; rintro e w2 ⟨rfl, rfl⟩
  generalize vpk (rawI n1 Z1 1) 2 = y1 at p1 ⊢
  obtain ⟨q1, rfl⟩ : ∃ p : Nat, y1 = p := ⟨y1.toNat, by omega⟩
  clear r1 r1a r1b
  go_wp2_with fail
  go_at_call 25; refine r2.mono ?_; rintro e w1 ⟨rfl, rfl⟩
  go_wp2_with fail
  go_at_call 24; refine (vpick_any _ _ _ r2a r2b (by omega) (by omega)).mono ?_; rintro e w2 ⟨rfl, rfl⟩
  generalize vpk (rawI n1 Z1 2) 2 = y2 at p2 ⊢
  obtain ⟨q2, rfl⟩ : ∃ p : Nat, y2 = p := ⟨y2.toNat, by omega⟩
  clear r2 r2a r2b
  go_wp2_with fail
  obtain ⟨s, hs⟩ : ∃ s : Nat, s = 3 * p + q1 := ⟨_, rfl⟩
  obtain ⟨e, he⟩ : ∃ e : Nat, e = 5 * s + q2 := ⟨_, rfl⟩
  rw [show (3 * (p : Int) + (q1 : Int)) = (s : Int) by omega, show (5 * (s : Int) + (q2 : Int)) = (e : Int) by omega]
  have sB : s < 8 := by omega
  have eB : e < 37 := by omega
  have NO := hid (show p < 3 ∧ (s = 3 * p ∨ s = 3 * p + 1) ∧ (e = 5 * s ∨ e = 5 * s + 1) from ⟨by omega, by omega, by omega⟩)
  clear hs he p1 p2
  obtain ⟨r3, r3a, r3b⟩ := R1.out 3 w2 U0
  have p3 := vpk_bd (rawI n1 Z1 3) 3 (by omega)
  obtain ⟨c, hc⟩ : ∃ c : Nat, vpk (rawI n1 Z1 3) 3 = c := ⟨(vpk (rawI n1 Z1 3) 3).toNat, by omega⟩
  rw [hc] at p3
  refine wp_region_tab 191 24 tab4 rfl rfl (by kernel_rfl) (by kernel_rfl) (by kernel_rfl) (by kernel_rfl) (by kernel_rfl) (fun W => Below w2.heap.size w2 W) (VL4 w.heap.size w2.heap.size p s e c (rawI n1 Z1 3) a1 n1 c1) (Below.drew (Below.refl _ _)) ?_ ?_
  · refine ⟨?_, ?_, ?_, ?_, ?_, ?_, ?_, ?_, ?_, ?_, ?_, ?_, ?_, ?_, ?_, ?_, ?_, ?_, ?_, ?_, ?_, ?_, ?_, ?_, trivial⟩
    · intro a' W hS hE hV K hK
      have e3 : a'.tmps.getD 3 undef = .int .i64 p := hE 3 (by kernel_rfl)
      go_simp
      exact hK _ _ hS (fun _ _ _ h => h) rfl
    · intro a' W hS hE hV K hK
      have e37 : a'.tmps.getD 37 undef = .int .i64 p := hV 0 (by kernel_rfl) 37 (by kernel_rfl)
      go_simp
      refine (dig_det p 1 W (by omega) (by omega)).mono ?_
      rintro e9 W9 ⟨rfl, u9⟩
      exact hK _ _ (hS.trans (u9.mono hS.size)) (VL4.up u9) rfl
    · intro a' W hS hE hV K hK
      have e38 : a'.tmps.getD 38 undef = .string (bs (dgs 1 p)) := hV 1 (by kernel_rfl) 38 (by kernel_rfl)
      have h9 : (⟨#[80]⟩ : ByteArray) ++ bs (dgs 1 p) = bs (nmP p s e c 0) := bs_append [80] (dgs 1 p)
      have l9 := bs_size (dgs 1 p)
      rw [dgs_len] at l9
      go_simp
      exact hK _ _ hS (fun _ _ _ h => h) rfl
    · intro a' W hS hE hV K hK
      have e4 : a'.tmps.getD 4 undef = .int .i64 s := hE 4 (by kernel_rfl)
      go_simp
      exact hK _ _ hS (fun _ _ _ h => h) rfl
    · intro a' W hS hE hV K hK
      have e40 : a'.tmps.getD 40 undef = .int .i64 s := hV 3 (by kernel_rfl) 40 (by kernel_rfl)
      have w9 : IntKind.i64.wrap ((s : Int) + 10) = (s : Int) + 10 := by rw [IntKind.wrap_i64]; omega
      go_simp
      exact hK _ _ hS (fun _ _ _ h => h) rfl
    · intro a' W hS hE hV K hK
      have e41 : a'.tmps.getD 41 undef = .int .i64 ((s : Int) + 10) := hV 4 (by kernel_rfl) 41 (by kernel_rfl)
      go_simp
      refine (dig_det (s + 10) 2 W (by omega) (by omega)).mono ?_
      rintro e9 W9 ⟨rfl, u9⟩
      exact hK _ _ (hS.trans (u9.mono hS.size)) (VL4.up u9) rfl
    · intro a' W hS hE hV K hK
      have e42 : a'.tmps.getD 42 undef = .string (bs (dgs 2 (s + 10))) := hV 5 (by kernel_rfl) 42 (by kernel_rfl)
      have h9 : (⟨#[49, 46]⟩ : ByteArray) ++ bs (dgs 2 (s + 10)) = bs (nmP p s e c 1) := bs_append [49, 46] (dgs 2 (s + 10))
      have l9 := bs_size (dgs 2 (s + 10))
      rw [dgs_len] at l9
      go_simp
      exact hK _ _ hS (fun _ _ _ h => h) rfl
    · intro a' W hS hE hV K hK
      have e5 : a'.tmps.getD 5 undef = .int .i64 e := hE 5 (by kernel_rfl)
      go_simp
      exact hK _ _ hS (fun _ _ _ h => h) rfl
    · intro a' W hS hE hV K hK
      have e44 : a'.tmps.getD 44 undef = .int .i64 e := hV 7 (by kernel_rfl) 44 (by kernel_rfl)
      have w9 : IntKind.i64.wrap ((e : Int) + 10) = (e : Int) + 10 := by rw [IntKind.wrap_i64]; omega
      go_simp
      exact hK _ _ hS (fun _ _ _ h => h) rfl
    · intro a' W hS hE hV K hK
      have e45 : a'.tmps.getD 45 undef = .int .i64 ((e : Int) + 10) := hV 8 (by kernel_rfl) 45 (by kernel_rfl)
      go_simp
      refine (dig_det (e + 10) 2 W (by omega) (by omega)).mono ?_
      rintro e9 W9 ⟨rfl, u9⟩
      exact hK _ _ (hS.trans (u9.mono hS.size)) (VL4.up u9) rfl
    · intro a' W hS hE hV K hK
      have e46 : a'.tmps.getD 46 undef = .string (bs (dgs 2 (e + 10))) := hV 9 (by kernel_rfl) 46 (by kernel_rfl)
      have h9 : (⟨#[49, 46, 50, 46]⟩ : ByteArray) ++ bs (dgs 2 (e + 10)) = bs (nmP p s e c 2) := bs_append [49, 46, 50, 46] (dgs 2 (e + 10))
      have l9 := bs_size (dgs 2 (e + 10))
      rw [dgs_len] at l9
      go_simp
      exact hK _ _ hS (fun _ _ _ h => h) rfl
    · intro a' W hS hE hV K hK
      have e5 : a'.tmps.getD 5 undef = .int .i64 e := hE 5 (by kernel_rfl)
      go_simp
      exact hK _ _ hS (fun _ _ _ h => h) rfl
    · intro a' W hS hE hV K hK
      have e48 : a'.tmps.getD 48 undef = .int .i64 e := hV 11 (by kernel_rfl) 48 (by kernel_rfl)
      have w9 : IntKind.i64.wrap (7 * (e : Int)) = 7 * (e : Int) := by rw [IntKind.wrap_i64]; omega
      go_simp
      exact hK _ _ hS (fun _ _ _ h => h) rfl
    · intro a' W hS hE hV K hK
      have e1 : a'.tmps.getD 1 undef = .pointer (some ⟨w.heap.size, 0, none⟩) := hE 1 (by kernel_rfl)
      go_simp
      exact hK _ _ hS (fun _ _ _ h => h) rfl
    · intro a' W hS hE hV K hK
      have e50 : a'.tmps.getD 50 undef = .pointer (some ⟨w.heap.size, 0, none⟩) := hV 13 (by kernel_rfl) 50 (by kernel_rfl)
      have c9 := (PB.up hS).at (i := 0) (u := .slice a1 n1 c1) rfl
      go_simp
      exact hK _ _ hS (fun _ _ _ h => h) rfl
    · intro a' W hS hE hV K hK
      have e51 : a'.tmps.getD 51 undef = .slice a1 n1 c1 := hV 14 (by kernel_rfl) 51 (by kernel_rfl)
      go_simp
      refine (R1.out 3 W (U0.trans (hS.mono U0.size))).1.mono ?_
      rintro e9 W9 ⟨rfl, rfl⟩
      exact hK _ _ hS (fun _ _ _ h => h) rfl
    · intro a' W hS hE hV K hK
      have e52 : a'.tmps.getD 52 undef = .int .i64 (rawI n1 Z1 3) := hV 15 (by kernel_rfl) 52 (by kernel_rfl)
      go_simp
      refine (vpick_any _ _ _ r3a r3b (by omega) (by omega)).mono ?_
      rintro e9 W9 ⟨rfl, rfl⟩
      rw [hc]
      exact hK _ _ hS (fun _ _ _ h => h) rfl
    · intro a' W hS hE hV K hK
      have e49 : a'.tmps.getD 49 undef = .int .i64 (7 * (e : Int)) := hV 12 (by kernel_rfl) 49 (by kernel_rfl)
      have e53 : a'.tmps.getD 53 undef = .int .i64 c := hV 16 (by kernel_rfl) 53 (by kernel_rfl)
      have w9 : IntKind.i64.wrap (7 * (e : Int) + c) = 7 * (e : Int) + c := by rw [IntKind.wrap_i64]; omega
      go_simp
      exact hK _ _ hS (fun _ _ _ h => h) rfl
    · intro a' W hS hE hV K hK
      have e54 : a'.tmps.getD 54 undef = .int .i64 (7 * (e : Int) + c) := hV 17 (by kernel_rfl) 54 (by kernel_rfl)
      have w9 : IntKind.i64.wrap (7 * (e : Int) + c + 100) = 7 * (e : Int) + c + 100 := by rw [IntKind.wrap_i64]; omega
      go_simp
      exact hK _ _ hS (fun _ _ _ h => h) rfl
    · intro a' W hS hE hV K hK
      have e55 : a'.tmps.getD 55 undef = .int .i64 (7 * (e : Int) + c + 100) := hV 18 (by kernel_rfl) 55 (by kernel_rfl)
      go_simp
      refine (dig_det (7 * e + c + 100) 3 W (by omega) (by omega)).mono ?_
      rintro e9 W9 ⟨rfl, u9⟩
      exact hK _ _ (hS.trans (u9.mono hS.size)) (VL4.up u9) rfl
    · intro a' W hS hE hV K hK
      have e56 : a'.tmps.getD 56 undef = .string (bs (dgs 3 (7 * e + c + 100))) := hV 19 (by kernel_rfl) 56 (by kernel_rfl)
      have h9 : (⟨#[49, 46, 50, 46, 51, 46]⟩ : ByteArray) ++ bs (dgs 3 (7 * e + c + 100)) = bs (nmP p s e c 3) := bs_append [49, 46, 50, 46, 51, 46] (dgs 3 (7 * e + c + 100))
      have l9 := bs_size (dgs 3 (7 * e + c + 100))
      rw [dgs_len] at l9
      go_simp
      exact hK _ _ hS (fun _ _ _ h => h) rfl
    · intro a' W hS hE hV K hK
      have e39 : a'.tmps.getD 39 undef = .string (bs (nmP p s e c 0)) := hV 2 (by kernel_rfl) 39 (by kernel_rfl)
      have f39 : a'.tmps[39]?.getD undef = .string (bs (nmP p s e c 0)) := by rw [← Array.getD_eq_getD_getElem?]; exact e39
      have e43 : a'.tmps.getD 43 undef = .string (bs (nmP p s e c 1)) := hV 6 (by kernel_rfl) 43 (by kernel_rfl)
      have f43 : a'.tmps[43]?.getD undef = .string (bs (nmP p s e c 1)) := by rw [← Array.getD_eq_getD_getElem?]; exact e43
      have e47 : a'.tmps.getD 47 undef = .string (bs (nmP p s e c 2)) := hV 10 (by kernel_rfl) 47 (by kernel_rfl)
      have f47 : a'.tmps[47]?.getD undef = .string (bs (nmP p s e c 2)) := by rw [← Array.getD_eq_getD_getElem?]; exact e47
      have e57 : a'.tmps.getD 57 undef = .string (bs (nmP p s e c 3)) := hV 20 (by kernel_rfl) 57 (by kernel_rfl)
      have f57 : a'.tmps[57]?.getD undef = .string (bs (nmP p s e c 3)) := by rw [← Array.getD_eq_getD_getElem?]; exact e57
      go_simp
      exact hK _ _ hS (fun _ _ _ h => h) rfl
    · intro a' W hS hE hV K hK
      have e58 : a'.tmps.getD 58 undef = .agg #[.string (bs (nmP p s e c 0)), .string (bs (nmP p s e c 1)), .string (bs (nmP p s e c 2)), .string (bs (nmP p s e c 3))] := hV 21 (by kernel_rfl) 58 (by kernel_rfl)
      have f58 : a'.tmps[58]?.getD undef = .agg #[.string (bs (nmP p s e c 0)), .string (bs (nmP p s e c 1)), .string (bs (nmP p s e c 2)), .string (bs (nmP p s e c 3))] := by rw [← Array.getD_eq_getD_getElem?]; exact e58
      go_simp
      exact hK _ _ hS (fun _ _ _ h => h) rfl
    · intro a' W hS hE hV K hK
      go_simp
      refine hK _ _ (Below.alloc hS hS.size _) (VL4.up (Below.alloc (Below.refl _ _) (Nat.le_refl _) _)) ⟨W.heap.size, _, rfl, hS.size, heap_alloc_new _ _, rfl⟩
  · intro vs W3 o9 ho9 hS hV
    obtain rfl := Option.some.inj ho9
    have v22 : vs 22 = factV (nmP p s e c) (.slice none 0 0) := hV 22 (by decide)
    obtain ⟨G, xs, v23, hG, hX, hx5⟩ : ∃ g xs, vs 23 = .pointer (some ⟨g, 0, none⟩) ∧ w2.heap.size ≤ g ∧ cls W3 g xs 61 ∧ xs.size = 5 := hV 23 (by decide)
    unfold factV at v22
    simp only [tab4, zipT, v22, v23]
    obtain ⟨x0, x1, x2, x3, x4, rfl⟩ : ∃ x0 x1 x2 x3 x4, xs = #[x0, x1, x2, x3, x4] := arr5 hx5
    have y0 := hX.at (i := 0) rfl
    have y1 := hX.at (i := 1) rfl
    have y2 := hX.at (i := 2) rfl
    have y3 := hX.at (i := 3) rfl
    have y4 := hX.at (i := 4) rfl
    have f0 := hX.free 0
    have f1 := hX.free 1
    have f2 := hX.free 2
    have f3 := hX.free 3
    have f4 := hX.free 4
    have FB := hid (cls_set5 hX (.string (bs (nmP p s e c 0))) (.string (bs (nmP p s e c 1))) (.string (bs (nmP p s e c 2))) (.string (bs (nmP p s e c 3))) (.slice none 0 0))
    have U4 := hid (Below.set5 hS hG (.string (bs (nmP p s e c 0))) (.string (bs (nmP p s e c 1))) (.string (bs (nmP p s e c 2))) (.string (bs (nmP p s e c 3))) (.slice none 0 0))
    go_simp
    generalize ((((W3.setCell ⟨G, 0, none⟩ (.string (bs (nmP p s e c 0)))).setCell ⟨G, 1, none⟩ (.string (bs (nmP p s e c 1)))).setCell ⟨G, 2, none⟩ (.string (bs (nmP p s e c 2)))).setCell ⟨G, 3, none⟩ (.string (bs (nmP p s e c 3)))).setCell ⟨G, 4, none⟩ (.slice none 0 0) = W4 at FB U4 ⊢
    have PB4 := hid (PB.up U4.out)
    have RB4 := hid (RB.up U4.out)
    have V4 := hid (U0.trans (U4.out.mono U0.size))
    have NO4 := hid (show NumsOk p s e c from ⟨NO.out.1, NO.out.2.1, NO.out.2.2, by omega⟩)
    have HG := hid (show w.heap.size + 1 < G from by have := RB.lt; omega)
    generalize vs 0 = z0, vs 1 = z1, vs 2 = z2
    clear y0 y1 y2 y3 y4 f0 f1 f2 f3 f4 hX hx5 v22 v23 hV hS hG PB RB U0 U4 NO sB eB p0 p3 hc r3 r3a r3b pc0 pc1
    go_wp2_with fail
    go_at_call 27
    refine (ktags_any W4).mono ?_
    rintro e9 w3 ⟨rfl, u3⟩
    have V5 := hid (V4.out.trans (u3.mono V4.out.size))
    have FB5 := hid (FB.out.up u3)
    have PB5 := hid (PB4.out.up u3)
    have RB5 := hid (RB4.out.up u3)
    clear u3 V4 FB PB4 RB4
    go_wp2_with fail
    have T5 : cls (w3.alloc (.cells #[.int .i64 1048608, .int .i64 2097165, .int .i64 2097166, .int .i64 524312] 66)) w3.heap.size #[.int .i64 1048608, .int .i64 2097165, .int .i64 2097166, .int .i64 524312] 66 := heap_alloc_new _ _
    have u4 := Below.alloc (Below.refl w3.heap.size w3) (Nat.le_refl _) (.cells #[.int .i64 1048608, .int .i64 2097165, .int .i64 2097166, .int .i64 524312] 66)
    have V6 := hid (V5.out.trans (u4.mono V5.out.size))
    have FB6 := hid (FB5.out.up u4)
    have PB6 := hid (PB5.out.up u4)
    have RB6 := hid (RB5.out.up u4)
    clear u4 V5 FB5 PB5 RB5
    generalize w3.alloc (.cells #[.int .i64 1048608, .int .i64 2097165, .int .i64 2097166, .int .i64 524312] 66) = w4 at T5 V6 FB6 PB6 RB6 ⊢
    go_at_call 28
    refine (kkinds_any w4).mono ?_
    rintro e9 w5 ⟨rfl, u5⟩
    have V7 := hid (V6.out.trans (u5.mono V6.out.size))
    have FB7 := hid (FB6.out.up u5)
    have PB7 := hid (PB6.out.up u5)
    have RB7 := hid (RB6.out.up u5)
    have T7 := hid (T5.up u5)
    clear u5 V6 FB6 PB6 RB6 T5
    go_wp2_with fail
    have K8 : cls (w5.alloc (.cells #[.string ⟨#[76, 79]⟩, .string ⟨#[85, 73]⟩, .string ⟨#[85, 73]⟩, .string ⟨#[85, 73]⟩] 58)) w5.heap.size #[.string ⟨#[76, 79]⟩, .string ⟨#[85, 73]⟩, .string ⟨#[85, 73]⟩, .string ⟨#[85, 73]⟩] 58 := heap_alloc_new _ _
    have u6 := Below.alloc (Below.refl w5.heap.size w5) (Nat.le_refl _) (.cells #[.string ⟨#[76, 79]⟩, .string ⟨#[85, 73]⟩, .string ⟨#[85, 73]⟩, .string ⟨#[85, 73]⟩] 58)
    have V8 := hid (V7.out.trans (u6.mono V7.out.size))
    have FB8 := hid (FB7.out.up u6)
    have PB8 := hid (PB7.out.up u6)
    have RB8 := hid (RB7.out.up u6)
    have T8 := hid (T7.out.up u6)
    clear u6 V7 FB7 PB7 RB7 T7
    generalize w5.alloc (.cells #[.string ⟨#[76, 79]⟩, .string ⟨#[85, 73]⟩, .string ⟨#[85, 73]⟩, .string ⟨#[85, 73]⟩] 58) = w6 at K8 V8 FB8 PB8 RB8 T8 ⊢
    have K8' := hid K8
    clear K8
    go_loopw [9, 10] (fun v i wr => ∃ (k : Nat) (adv : Option Addr) (capv : Nat) (ys : List Value), k ≤ 4 ∧ i = .int .i64 k ∧ v = .slice adv k capv ∧ Hid (wr.ownsRow w6.heap.size 73 4 (.slice adv k capv) k ys) ∧ Hid (Ls 4 FlC ys ((nmL p s e c).take k) []) ∧ Hid (Below w6.heap.size w6 wr)) (fun _ i _ => 4 - (intOf i).toNat)
    case atStart => exact ⟨0, _, _, [], Nat.zero_le _, rfl, rfl, World.ownsRow_nil _ _ _ _, ⟨rfl, rfl⟩, Below.refl _ _⟩
    case round =>
      obtain ⟨k, adv, capv, ys, hk, rfl, rfl, hown, hls, hU⟩ := hrel
      by_cases hkl : k < 4
      · have t9 := ask_tag (T8.out.up hU.out) hkl
        have k9 := ask_kind (K8'.out.up hU.out) hkl
        have f9 := ask_name (nf := nmP p s e c) (FB8.out.up hU.out) hkl
        have hst := hid (nmL_take p s e c hkl)
        generalize nameT k = tk at t9 k9 hst
        generalize nmP p s e c k = nk at f9 hst
        have hk4 : (k : Int) < 4 := by omega
        go_wp2_with fail
        go_region_law (refine step_append_sep rfl (.tmp 66) (.tmp 78) 59 rfl 73 i0 zeroE 4 64 Tryz.underlying59 HI.out hz0 hz1 hz2 rfl (by decide) _ _ _ (by simp [Act.eval]) (ownsRow_low (hown.out.alloc _)) ⟨wr.heap.size, 0, none⟩ 1 1 [.int .i64 tk, .string (bs (kindT tk)), .string (bs nk), .slice none 0 0] (by simp [Act.eval]) rfl (four_at _ _ _ _ _ _ _ (by simp)) four_one (by unfold maxLen; omega) (by omega) ?_; intro v6 w7 hown6 hg6 hm6)
        all_goals have U7 := hid (Below.grown (Below.drew (Below.alloc hU.out hU.out.size _)) hg6 (by have := hU.out.size; simp; omega) (fun j hj => (hown.out.lt j hj).1))
        all_goals have O7 := hid (own_lift hown.out hown6 hm6 (by have := hU.out.size; simp; omega))
        all_goals obtain ⟨ad7, cap7, rfl⟩ := own_slice2 hown6
        all_goals clear hown6 hg6 hm6
        all_goals go_wp2
        all_goals go_roundw
        all_goals first
          | (case measure => simp [intOf]; omega)
          | skip
        all_goals
          refine ⟨k + 1, _, _, _, by omega, by go_num, rfl, O7, ?_, U7⟩
          unfold Hid
          rw [hst.out]
          exact Ls.snoc (k := 4) (R := FlC) (c := [.int .i64 tk, .string (bs (kindT tk)), .string (bs nk), .slice none 0 0]) (x := flE 2 tk (kindT tk) nk) (b := []) rfl ⟨rfl, rfl, rfl⟩ hls.out
      · obtain rfl : k = 4 := by omega
        have hls4 := hid (show Ls 4 FlC ys (nmL p s e c) [] from hls.out)
        have PB9 := hid (PB8.out.up hU.out)
        have RB9 := hid (RB8.out.up hU.out)
        have FB9 := hid (FB8.out.up hU.out)
        have V9 := hid (V8.out.trans (hU.out.mono V8.out.size))
        have pc1 := PB9.out.at (i := 1) (u := .slice a2 n2 c2) rfl
        obtain ⟨r0, r0a, r0b⟩ := R2.out 0 wr V9.out
        clear hls T8 K8' hk hkl
        go_wp2_with fail
        go_at_call 25; refine r0.mono ?_; rintro e9 wX ⟨rfl, rfl⟩
        go_wp2_with fail
        go_at_call 20; refine (date_any _ _ r0a r0b).mono ?_; rintro e9 wa ⟨⟨sd, yy, mm, dd, rfl, hsd, lsd, d1, d2, d3, d4, d5, d6⟩, ua⟩
        have HD := hid (show ValOk [68, 65] sd.data.toList from by
          rw [hsd.out]
          exact ⟨chk_of (date_chk yy mm dd (by omega) d3 d4 d5 d6), by rw [date_len]; decide, dig_last (date_dig yy mm dd)⟩)
        have V10 := hid (V9.out.trans (Below.mono ua V9.out.size))
        have PB10 := hid (PB9.out.up ua)
        have RB10 := hid (RB9.out.up ua)
        have FB10 := hid (FB9.out.up ua)
        have O10 := hid (ownsRow_keep hown.out (fun j hj => Below.block ua j (ownsRow_lt hown.out j hj)))
        have W10 := hid (hU.out.trans (Below.mono ua hU.out.size))
        clear hsd lsd d1 d2 d3 d4 d5 d6 r0 r0a r0b pc1 PB9 RB9 FB9 V9 hU hown ua
        have pc1 := PB10.out.at (i := 1) (u := .slice a2 n2 c2) rfl
        obtain ⟨r0, r0a, r0b⟩ := R2.out 1 wa V10.out
        generalize (400 * (yy : Int) + 32 * mm + dd) = dn
        go_wp2_with fail
        go_at_call 25; refine r0.mono ?_; rintro e9 wX ⟨rfl, rfl⟩
        go_wp2_with fail
        go_at_call 22; refine (time_any _ _ r0a r0b).mono ?_; rintro e9 wb ⟨⟨st, tn, rfl, hst, lst, t1⟩, ub⟩
        have HT := hid (show ValOk [84, 77] st.data.toList from by
          rw [hst.out]
          exact ⟨chk_of (tm_chk tn t1), by rw [tm_len]; decide, dig_last (tm_digs tn)⟩)
        have V11 := hid (V10.out.trans (Below.mono ub V10.out.size))
        have PB11 := hid (PB10.out.up ub)
        have RB11 := hid (RB10.out.up ub)
        have FB11 := hid (FB10.out.up ub)
        have O11 := hid (ownsRow_keep O10.out (fun j hj => Below.block ub j (ownsRow_lt O10.out j hj)))
        have W11 := hid (W10.out.trans (Below.mono ub W10.out.size))
        clear hst lst t1 r0 r0a r0b pc1 PB10 RB10 FB10 V10 O10 W10 ub
        go_wp2_with fail
        have b5' := vpk_bd (rawI n2 Z2 5) 3 (by omega)
        have b6' := vpk_bd (rawI n2 Z2 6) 20 (by omega)
        have b7' := vpk_bd (rawI n2 Z2 7) 20 (by omega)
        obtain ⟨k5, hk5'⟩ : ∃ c : Nat, vpk (rawI n2 Z2 5) 3 = c := ⟨(vpk (rawI n2 Z2 5) 3).toNat, by omega⟩
        obtain ⟨k6, hk6'⟩ : ∃ c : Nat, vpk (rawI n2 Z2 6) 20 = c := ⟨(vpk (rawI n2 Z2 6) 20).toNat, by omega⟩
        obtain ⟨k7, hk7'⟩ : ∃ c : Nat, vpk (rawI n2 Z2 7) 20 = c := ⟨(vpk (rawI n2 Z2 7) 20).toNat, by omega⟩
        have b5 : k5 < 3 := by omega
        have b6 : k6 < 20 := by omega
        have b7 : k7 < 20 := by omega
        have hk5 := hid hk5'
        have hk6 := hid hk6'
        have hk7 := hid hk7'
        clear hk5' hk6' hk7' b5' b6' b7'
        refine wp_region_tab 191 40 tab14 rfl rfl (by kernel_rfl) (by kernel_rfl) (by kernel_rfl) (by kernel_rfl) (by kernel_rfl) (fun W => Below wb.heap.size wb W) (VL14 w.heap.size wb.heap.size n2 c2 k5 k6 k7 Z2 a2 sd st) (Below.drew (Below.refl _ _)) ?_ ?_
        · refine ⟨?_, ?_, ?_, ?_, ?_, ?_, ?_, ?_, ?_, ?_, ?_, ?_, ?_, ?_, ?_, ?_, ?_, ?_, ?_, ?_, ?_, ?_, ?_, ?_, ?_, ?_, ?_, ?_, ?_, ?_, ?_, ?_, ?_, ?_, ?_, ?_, ?_, ?_, ?_, ?_, trivial⟩
          · intro a' W hS hE hV K hK
            have e1 : a'.tmps.getD 1 undef = .pointer (some ⟨w.heap.size, 0, none⟩) := hE 1 (by kernel_rfl)
            have f1 : a'.tmps[1]?.getD undef = .pointer (some ⟨w.heap.size, 0, none⟩) := by rw [← Array.getD_eq_getD_getElem?]; exact e1
            go_simp
            exact hK _ _ hS (fun _ _ _ h => h) rfl
          · intro a' W hS hE hV K hK
            have e94 : a'.tmps.getD 94 undef = .pointer (some ⟨w.heap.size, 1, none⟩) := hV 0 (by kernel_rfl) 94 (by kernel_rfl)
            have f94 : a'.tmps[94]?.getD undef = .pointer (some ⟨w.heap.size, 1, none⟩) := by rw [← Array.getD_eq_getD_getElem?]; exact e94
            have c9 := (PB11.out.up hS).at (i := 1) (u := .slice a2 n2 c2) rfl
            go_simp
            exact hK _ _ hS (fun _ _ _ h => h) rfl
          · intro a' W hS hE hV K hK
            have e95 : a'.tmps.getD 95 undef = .slice a2 n2 c2 := hV 1 (by kernel_rfl) 95 (by kernel_rfl)
            have f95 : a'.tmps[95]?.getD undef = .slice a2 n2 c2 := by rw [← Array.getD_eq_getD_getElem?]; exact e95
            go_simp
            refine (R2.out 2 W (V11.out.trans (hS.mono V11.out.size))).1.mono ?_
            rintro e9 W9 ⟨rfl, rfl⟩
            exact hK _ _ hS (fun _ _ _ h => h) rfl
          · intro a' W hS hE hV K hK
            have e1 : a'.tmps.getD 1 undef = .pointer (some ⟨w.heap.size, 0, none⟩) := hE 1 (by kernel_rfl)
            have f1 : a'.tmps[1]?.getD undef = .pointer (some ⟨w.heap.size, 0, none⟩) := by rw [← Array.getD_eq_getD_getElem?]; exact e1
            go_simp
            exact hK _ _ hS (fun _ _ _ h => h) rfl
          · intro a' W hS hE hV K hK
            have e97 : a'.tmps.getD 97 undef = .pointer (some ⟨w.heap.size, 1, none⟩) := hV 3 (by kernel_rfl) 97 (by kernel_rfl)
            have f97 : a'.tmps[97]?.getD undef = .pointer (some ⟨w.heap.size, 1, none⟩) := by rw [← Array.getD_eq_getD_getElem?]; exact e97
            have c9 := (PB11.out.up hS).at (i := 1) (u := .slice a2 n2 c2) rfl
            go_simp
            exact hK _ _ hS (fun _ _ _ h => h) rfl
          · intro a' W hS hE hV K hK
            have e98 : a'.tmps.getD 98 undef = .slice a2 n2 c2 := hV 4 (by kernel_rfl) 98 (by kernel_rfl)
            have f98 : a'.tmps[98]?.getD undef = .slice a2 n2 c2 := by rw [← Array.getD_eq_getD_getElem?]; exact e98
            go_simp
            refine (R2.out 3 W (V11.out.trans (hS.mono V11.out.size))).1.mono ?_
            rintro e9 W9 ⟨rfl, rfl⟩
            exact hK _ _ hS (fun _ _ _ h => h) rfl
          · intro a' W hS hE hV K hK
            have e96 : a'.tmps.getD 96 undef = .int .i64 (rawI n2 Z2 2) := hV 2 (by kernel_rfl) 96 (by kernel_rfl)
            have f96 : a'.tmps[96]?.getD undef = .int .i64 (rawI n2 Z2 2) := by rw [← Array.getD_eq_getD_getElem?]; exact e96
            have e99 : a'.tmps.getD 99 undef = .int .i64 (rawI n2 Z2 3) := hV 5 (by kernel_rfl) 99 (by kernel_rfl)
            have f99 : a'.tmps[99]?.getD undef = .int .i64 (rawI n2 Z2 3) := by rw [← Array.getD_eq_getD_getElem?]; exact e99
            go_simp
            exact hK _ _ (Below.alloc hS hS.size _) (VL14.up (Below.alloc (Below.refl _ _) (Nat.le_refl _) _)) ⟨W.heap.size, rfl, ints2 _ _ _ (R2.out 2 wb V11.out).2 (R2.out 3 wb V11.out).2 rfl rfl⟩
          · intro a' W hS hE hV K hK
            obtain ⟨b, e100, hi⟩ : ∃ b, a'.tmps.getD 100 undef = .slice (some ⟨b, 0, none⟩) 2 2 ∧ Ints W b 0 2 (fun j => rawI n2 Z2 (2 + j)) := hV 6 (by kernel_rfl) 100 (by kernel_rfl)
            have f100 : a'.tmps[100]?.getD undef = _ := (Array.getD_eq_getD_getElem? ..).symm.trans e100
            go_simp
            refine (let_few b 2 2 _ W (by omega) hi).mono ?_
            rintro e9 W9 ⟨⟨u, rfl, hu⟩, u9⟩
            exact hK _ _ (hS.trans (u9.mono hS.size)) (VL14.up u9) ⟨u, rfl, hu.out⟩
          · intro a' W hS hE hV K hK
            obtain ⟨u, e101, hu⟩ : ∃ u, a'.tmps.getD 101 undef = .string u ∧ LetS u := hV 7 (by kernel_rfl) 101 (by kernel_rfl)
            have f101 : a'.tmps[101]?.getD undef = _ := (Array.getD_eq_getD_getElem? ..).symm.trans e101
            go_simp
            exact hK _ _ hS (fun _ _ _ h => h) ⟨u, rfl, hu⟩
          · intro a' W hS hE hV K hK
            have e11 : a'.tmps.getD 11 undef = .string sd := hE 11 (by kernel_rfl)
            have f11 : a'.tmps[11]?.getD undef = .string sd := by rw [← Array.getD_eq_getD_getElem?]; exact e11
            go_simp
            exact hK _ _ hS (fun _ _ _ h => h) rfl
          · intro a' W hS hE hV K hK
            have e103 : a'.tmps.getD 103 undef = .string sd := hV 9 (by kernel_rfl) 103 (by kernel_rfl)
            have f103 : a'.tmps[103]?.getD undef = .string sd := by rw [← Array.getD_eq_getD_getElem?]; exact e103
            go_simp
            exact hK _ _ hS (fun _ _ _ h => h) rfl
          · intro a' W hS hE hV K hK
            have e13 : a'.tmps.getD 13 undef = .string st := hE 13 (by kernel_rfl)
            have f13 : a'.tmps[13]?.getD undef = .string st := by rw [← Array.getD_eq_getD_getElem?]; exact e13
            go_simp
            exact hK _ _ hS (fun _ _ _ h => h) rfl
          · intro a' W hS hE hV K hK
            have e105 : a'.tmps.getD 105 undef = .string st := hV 11 (by kernel_rfl) 105 (by kernel_rfl)
            have f105 : a'.tmps[105]?.getD undef = .string st := by rw [← Array.getD_eq_getD_getElem?]; exact e105
            go_simp
            exact hK _ _ hS (fun _ _ _ h => h) rfl
          · intro a' W hS hE hV K hK
            have e1 : a'.tmps.getD 1 undef = .pointer (some ⟨w.heap.size, 0, none⟩) := hE 1 (by kernel_rfl)
            have f1 : a'.tmps[1]?.getD undef = .pointer (some ⟨w.heap.size, 0, none⟩) := by rw [← Array.getD_eq_getD_getElem?]; exact e1
            go_simp
            exact hK _ _ hS (fun _ _ _ h => h) rfl
          · intro a' W hS hE hV K hK
            have e107 : a'.tmps.getD 107 undef = .pointer (some ⟨w.heap.size, 1, none⟩) := hV 13 (by kernel_rfl) 107 (by kernel_rfl)
            have f107 : a'.tmps[107]?.getD undef = .pointer (some ⟨w.heap.size, 1, none⟩) := by rw [← Array.getD_eq_getD_getElem?]; exact e107
            have c9 := (PB11.out.up hS).at (i := 1) (u := .slice a2 n2 c2) rfl
            go_simp
            exact hK _ _ hS (fun _ _ _ h => h) rfl
          · intro a' W hS hE hV K hK
            have e108 : a'.tmps.getD 108 undef = .slice a2 n2 c2 := hV 14 (by kernel_rfl) 108 (by kernel_rfl)
            have f108 : a'.tmps[108]?.getD undef = .slice a2 n2 c2 := by rw [← Array.getD_eq_getD_getElem?]; exact e108
            go_simp
            refine (R2.out 4 W (V11.out.trans (hS.mono V11.out.size))).1.mono ?_
            rintro e9 W9 ⟨rfl, rfl⟩
            exact hK _ _ hS (fun _ _ _ h => h) rfl
          · intro a' W hS hE hV K hK
            have e109 : a'.tmps.getD 109 undef = .int .i64 (rawI n2 Z2 4) := hV 15 (by kernel_rfl) 109 (by kernel_rfl)
            have f109 : a'.tmps[109]?.getD undef = .int .i64 (rawI n2 Z2 4) := by rw [← Array.getD_eq_getD_getElem?]; exact e109
            go_simp
            exact hK _ _ (Below.alloc hS hS.size _) (VL14.up (Below.alloc (Below.refl _ _) (Nat.le_refl _) _)) ⟨W.heap.size, rfl, ints1 _ _ (R2.out 4 wb V11.out).2 rfl⟩
          · intro a' W hS hE hV K hK
            obtain ⟨b, e110, hi⟩ : ∃ b, a'.tmps.getD 110 undef = .slice (some ⟨b, 0, none⟩) 1 1 ∧ Ints W b 0 1 (fun j => rawI n2 Z2 (4 + j)) := hV 16 (by kernel_rfl) 110 (by kernel_rfl)
            have f110 : a'.tmps[110]?.getD undef = _ := (Array.getD_eq_getD_getElem? ..).symm.trans e110
            go_simp
            refine (let_few b 1 1 _ W (by omega) hi).mono ?_
            rintro e9 W9 ⟨⟨u, rfl, hu⟩, u9⟩
            exact hK _ _ (hS.trans (u9.mono hS.size)) (VL14.up u9) ⟨u, rfl, hu.out⟩
          · intro a' W hS hE hV K hK
            obtain ⟨u, e111, hu⟩ : ∃ u, a'.tmps.getD 111 undef = .string u ∧ LetS u := hV 17 (by kernel_rfl) 111 (by kernel_rfl)
            have f111 : a'.tmps[111]?.getD undef = _ := (Array.getD_eq_getD_getElem? ..).symm.trans e111
            go_simp
            exact hK _ _ hS (fun _ _ _ h => h) ⟨u, rfl, hu⟩
          · intro a' W hS hE hV K hK
            go_simp
            exact hK _ _ (Below.alloc hS hS.size _) (VL14.up (Below.alloc (Below.refl _ _) (Nat.le_refl _) _)) ⟨W.heap.size, rfl, heap_alloc_new _ _⟩
          · intro a' W hS hE hV K hK
            have e1 : a'.tmps.getD 1 undef = .pointer (some ⟨w.heap.size, 0, none⟩) := hE 1 (by kernel_rfl)
            have f1 : a'.tmps[1]?.getD undef = .pointer (some ⟨w.heap.size, 0, none⟩) := by rw [← Array.getD_eq_getD_getElem?]; exact e1
            go_simp
            exact hK _ _ hS (fun _ _ _ h => h) rfl
          · intro a' W hS hE hV K hK
            have e114 : a'.tmps.getD 114 undef = .pointer (some ⟨w.heap.size, 1, none⟩) := hV 20 (by kernel_rfl) 114 (by kernel_rfl)
            have f114 : a'.tmps[114]?.getD undef = .pointer (some ⟨w.heap.size, 1, none⟩) := by rw [← Array.getD_eq_getD_getElem?]; exact e114
            have c9 := (PB11.out.up hS).at (i := 1) (u := .slice a2 n2 c2) rfl
            go_simp
            exact hK _ _ hS (fun _ _ _ h => h) rfl
          · intro a' W hS hE hV K hK
            have e115 : a'.tmps.getD 115 undef = .slice a2 n2 c2 := hV 21 (by kernel_rfl) 115 (by kernel_rfl)
            have f115 : a'.tmps[115]?.getD undef = .slice a2 n2 c2 := by rw [← Array.getD_eq_getD_getElem?]; exact e115
            go_simp
            refine (R2.out 5 W (V11.out.trans (hS.mono V11.out.size))).1.mono ?_
            rintro e9 W9 ⟨rfl, rfl⟩
            exact hK _ _ hS (fun _ _ _ h => h) rfl
          · intro a' W hS hE hV K hK
            have e116 : a'.tmps.getD 116 undef = .int .i64 (rawI n2 Z2 5) := hV 22 (by kernel_rfl) 116 (by kernel_rfl)
            have f116 : a'.tmps[116]?.getD undef = .int .i64 (rawI n2 Z2 5) := by rw [← Array.getD_eq_getD_getElem?]; exact e116
            go_simp
            refine (vpick_any _ _ _ (R2.out 5 wb V11.out).2.1 (R2.out 5 wb V11.out).2.2 (by omega) (by omega)).mono ?_
            rintro e9 W9 ⟨rfl, rfl⟩
            rw [hk5.out]
            exact hK _ _ hS (fun _ _ _ h => h) rfl
          · intro a' W hS hE hV K hK
            obtain ⟨b, e113, hb9⟩ : ∃ b, a'.tmps.getD 113 undef = .slice (some ⟨b, 0, none⟩) 3 3 ∧ cls W b #[.string ⟨#[67, 84]⟩, .string ⟨#[77, 82]⟩, .string ⟨#[85, 83]⟩] 9 := hV 19 (by kernel_rfl) 113 (by kernel_rfl)
            have f113 : a'.tmps[113]?.getD undef = _ := (Array.getD_eq_getD_getElem? ..).symm.trans e113
            have e117 : a'.tmps.getD 117 undef = .int .i64 k5 := hV 23 (by kernel_rfl) 117 (by kernel_rfl)
            have f117 : a'.tmps[117]?.getD undef = .int .i64 k5 := by rw [← Array.getD_eq_getD_getElem?]; exact e117
            have i9 : (k5 : Int) < 3 := by omega
            have c9 := way_at hb9 b5
            go_simp
            exact hK _ _ hS (fun _ _ _ h => h) ⟨b, rfl, c9⟩
          · intro a' W hS hE hV K hK
            obtain ⟨b, e118, c9⟩ : ∃ b, a'.tmps.getD 118 undef = .pointer (some ⟨b, k5, none⟩) ∧ W.cell? ⟨b, k5, none⟩ = some (.string (bs (way k5))) := hV 24 (by kernel_rfl) 118 (by kernel_rfl)
            have f118 : a'.tmps[118]?.getD undef = _ := (Array.getD_eq_getD_getElem? ..).symm.trans e118
            go_simp
            exact hK _ _ hS (fun _ _ _ h => h) rfl
          · intro a' W hS hE hV K hK
            have e119 : a'.tmps.getD 119 undef = .string (bs (way k5)) := hV 25 (by kernel_rfl) 119 (by kernel_rfl)
            have f119 : a'.tmps[119]?.getD undef = .string (bs (way k5)) := by rw [← Array.getD_eq_getD_getElem?]; exact e119
            go_simp
            exact hK _ _ hS (fun _ _ _ h => h) rfl
          · intro a' W hS hE hV K hK
            have e1 : a'.tmps.getD 1 undef = .pointer (some ⟨w.heap.size, 0, none⟩) := hE 1 (by kernel_rfl)
            have f1 : a'.tmps[1]?.getD undef = .pointer (some ⟨w.heap.size, 0, none⟩) := by rw [← Array.getD_eq_getD_getElem?]; exact e1
            go_simp
            exact hK _ _ hS (fun _ _ _ h => h) rfl
          · intro a' W hS hE hV K hK
            have e121 : a'.tmps.getD 121 undef = .pointer (some ⟨w.heap.size, 1, none⟩) := hV 27 (by kernel_rfl) 121 (by kernel_rfl)
            have f121 : a'.tmps[121]?.getD undef = .pointer (some ⟨w.heap.size, 1, none⟩) := by rw [← Array.getD_eq_getD_getElem?]; exact e121
            have c9 := (PB11.out.up hS).at (i := 1) (u := .slice a2 n2 c2) rfl
            go_simp
            exact hK _ _ hS (fun _ _ _ h => h) rfl
          · intro a' W hS hE hV K hK
            have e122 : a'.tmps.getD 122 undef = .slice a2 n2 c2 := hV 28 (by kernel_rfl) 122 (by kernel_rfl)
            have f122 : a'.tmps[122]?.getD undef = .slice a2 n2 c2 := by rw [← Array.getD_eq_getD_getElem?]; exact e122
            go_simp
            refine (R2.out 6 W (V11.out.trans (hS.mono V11.out.size))).1.mono ?_
            rintro e9 W9 ⟨rfl, rfl⟩
            exact hK _ _ hS (fun _ _ _ h => h) rfl
          · intro a' W hS hE hV K hK
            have e123 : a'.tmps.getD 123 undef = .int .i64 (rawI n2 Z2 6) := hV 29 (by kernel_rfl) 123 (by kernel_rfl)
            have f123 : a'.tmps[123]?.getD undef = .int .i64 (rawI n2 Z2 6) := by rw [← Array.getD_eq_getD_getElem?]; exact e123
            go_simp
            refine (vpick_any _ _ _ (R2.out 6 wb V11.out).2.1 (R2.out 6 wb V11.out).2.2 (by omega) (by omega)).mono ?_
            rintro e9 W9 ⟨rfl, rfl⟩
            rw [hk6.out]
            exact hK _ _ hS (fun _ _ _ h => h) rfl
          · intro a' W hS hE hV K hK
            have e124 : a'.tmps.getD 124 undef = .int .i64 k6 := hV 30 (by kernel_rfl) 124 (by kernel_rfl)
            have f124 : a'.tmps[124]?.getD undef = .int .i64 k6 := by rw [← Array.getD_eq_getD_getElem?]; exact e124
            go_simp
            refine (dig_det k6 2 W (by omega) (by omega)).mono ?_
            rintro e9 W9 ⟨rfl, u9⟩
            exact hK _ _ (hS.trans (u9.mono hS.size)) (VL14.up u9) rfl
          · intro a' W hS hE hV K hK
            have e125 : a'.tmps.getD 125 undef = .string (bs (dgs 2 k6)) := hV 31 (by kernel_rfl) 125 (by kernel_rfl)
            have f125 : a'.tmps[125]?.getD undef = .string (bs (dgs 2 k6)) := by rw [← Array.getD_eq_getD_getElem?]; exact e125
            go_simp
            exact hK _ _ hS (fun _ _ _ h => h) rfl
          · intro a' W hS hE hV K hK
            have e1 : a'.tmps.getD 1 undef = .pointer (some ⟨w.heap.size, 0, none⟩) := hE 1 (by kernel_rfl)
            have f1 : a'.tmps[1]?.getD undef = .pointer (some ⟨w.heap.size, 0, none⟩) := by rw [← Array.getD_eq_getD_getElem?]; exact e1
            go_simp
            exact hK _ _ hS (fun _ _ _ h => h) rfl
          · intro a' W hS hE hV K hK
            have e127 : a'.tmps.getD 127 undef = .pointer (some ⟨w.heap.size, 1, none⟩) := hV 33 (by kernel_rfl) 127 (by kernel_rfl)
            have f127 : a'.tmps[127]?.getD undef = .pointer (some ⟨w.heap.size, 1, none⟩) := by rw [← Array.getD_eq_getD_getElem?]; exact e127
            have c9 := (PB11.out.up hS).at (i := 1) (u := .slice a2 n2 c2) rfl
            go_simp
            exact hK _ _ hS (fun _ _ _ h => h) rfl
          · intro a' W hS hE hV K hK
            have e128 : a'.tmps.getD 128 undef = .slice a2 n2 c2 := hV 34 (by kernel_rfl) 128 (by kernel_rfl)
            have f128 : a'.tmps[128]?.getD undef = .slice a2 n2 c2 := by rw [← Array.getD_eq_getD_getElem?]; exact e128
            go_simp
            refine (R2.out 7 W (V11.out.trans (hS.mono V11.out.size))).1.mono ?_
            rintro e9 W9 ⟨rfl, rfl⟩
            exact hK _ _ hS (fun _ _ _ h => h) rfl
          · intro a' W hS hE hV K hK
            have e129 : a'.tmps.getD 129 undef = .int .i64 (rawI n2 Z2 7) := hV 35 (by kernel_rfl) 129 (by kernel_rfl)
            have f129 : a'.tmps[129]?.getD undef = .int .i64 (rawI n2 Z2 7) := by rw [← Array.getD_eq_getD_getElem?]; exact e129
            go_simp
            refine (vpick_any _ _ _ (R2.out 7 wb V11.out).2.1 (R2.out 7 wb V11.out).2.2 (by omega) (by omega)).mono ?_
            rintro e9 W9 ⟨rfl, rfl⟩
            rw [hk7.out]
            exact hK _ _ hS (fun _ _ _ h => h) rfl
          · intro a' W hS hE hV K hK
            have e130 : a'.tmps.getD 130 undef = .int .i64 k7 := hV 36 (by kernel_rfl) 130 (by kernel_rfl)
            have f130 : a'.tmps[130]?.getD undef = .int .i64 k7 := by rw [← Array.getD_eq_getD_getElem?]; exact e130
            go_simp
            refine (dig_det k7 1 W (by omega) (by omega)).mono ?_
            rintro e9 W9 ⟨rfl, u9⟩
            exact hK _ _ (hS.trans (u9.mono hS.size)) (VL14.up u9) rfl
          · intro a' W hS hE hV K hK
            have e131 : a'.tmps.getD 131 undef = .string (bs (dgs 1 k7)) := hV 37 (by kernel_rfl) 131 (by kernel_rfl)
            have f131 : a'.tmps[131]?.getD undef = .string (bs (dgs 1 k7)) := by rw [← Array.getD_eq_getD_getElem?]; exact e131
            go_simp
            exact hK _ _ hS (fun _ _ _ h => h) rfl
          · intro a' W hS hE hV K hK
            obtain ⟨u1, e102, hu1⟩ : ∃ u, a'.tmps.getD 102 undef = .agg #[.int .i64 1048592, .string ⟨#[80, 78]⟩, .string u, .slice none 0 0] ∧ LetS u := hV 8 (by kernel_rfl) 102 (by kernel_rfl)
            have f102 : a'.tmps[102]?.getD undef = _ := (Array.getD_eq_getD_getElem? ..).symm.trans e102
            have e104 : a'.tmps.getD 104 undef = .agg #[.int .i64 524320, .string ⟨#[68, 65]⟩, .string sd, .slice none 0 0] := hV 10 (by kernel_rfl) 104 (by kernel_rfl)
            have f104 : a'.tmps[104]?.getD undef = .agg #[.int .i64 524320, .string ⟨#[68, 65]⟩, .string sd, .slice none 0 0] := by rw [← Array.getD_eq_getD_getElem?]; exact e104
            have e106 : a'.tmps.getD 106 undef = .agg #[.int .i64 524336, .string ⟨#[84, 77]⟩, .string st, .slice none 0 0] := hV 12 (by kernel_rfl) 106 (by kernel_rfl)
            have f106 : a'.tmps[106]?.getD undef = .agg #[.int .i64 524336, .string ⟨#[84, 77]⟩, .string st, .slice none 0 0] := by rw [← Array.getD_eq_getD_getElem?]; exact e106
            obtain ⟨u2, e112, hu2⟩ : ∃ u, a'.tmps.getD 112 undef = .agg #[.int .i64 524368, .string ⟨#[76, 79]⟩, .string u, .slice none 0 0] ∧ LetS u := hV 18 (by kernel_rfl) 112 (by kernel_rfl)
            have f112 : a'.tmps[112]?.getD undef = _ := (Array.getD_eq_getD_getElem? ..).symm.trans e112
            have e120 : a'.tmps.getD 120 undef = .agg #[.int .i64 524384, .string ⟨#[67, 83]⟩, .string (bs (way k5)), .slice none 0 0] := hV 26 (by kernel_rfl) 120 (by kernel_rfl)
            have f120 : a'.tmps[120]?.getD undef = .agg #[.int .i64 524384, .string ⟨#[67, 83]⟩, .string (bs (way k5)), .slice none 0 0] := by rw [← Array.getD_eq_getD_getElem?]; exact e120
            have e126 : a'.tmps.getD 126 undef = .agg #[.int .i64 2097169, .string ⟨#[73, 83]⟩, .string (bs (dgs 2 k6)), .slice none 0 0] := hV 32 (by kernel_rfl) 126 (by kernel_rfl)
            have f126 : a'.tmps[126]?.getD undef = .agg #[.int .i64 2097169, .string ⟨#[73, 83]⟩, .string (bs (dgs 2 k6)), .slice none 0 0] := by rw [← Array.getD_eq_getD_getElem?]; exact e126
            have e132 : a'.tmps.getD 132 undef = .agg #[.int .i64 2097171, .string ⟨#[73, 83]⟩, .string (bs (dgs 1 k7)), .slice none 0 0] := hV 38 (by kernel_rfl) 132 (by kernel_rfl)
            have f132 : a'.tmps[132]?.getD undef = .agg #[.int .i64 2097171, .string ⟨#[73, 83]⟩, .string (bs (dgs 1 k7)), .slice none 0 0] := by rw [← Array.getD_eq_getD_getElem?]; exact e132
            go_simp
            exact hK _ _ (Below.alloc hS hS.size _) (VL14.up (Below.alloc (Below.refl _ _) (Nat.le_refl _) _)) ⟨W.heap.size, u1, u2, rfl, hS.size, heap_alloc_new _ _, hu1, hu2⟩
        · intro vs2 W12 o9 ho9 hS hV
          obtain rfl := Option.some.inj ho9
          obtain ⟨vb, u1, u2, v39, hvb, hvc, hu1, hu2⟩ : ∃ b u1 u2, vs2 39 = .slice (some ⟨b, 0, none⟩) 7 7 ∧ wb.heap.size ≤ b ∧ cls W12 b (vals7 sd st u1 u2 k5 k6 k7) 73 ∧ LetS u1 ∧ LetS u2 := hV 39 (by decide)
          simp only [tab14, zipT, v39]
          have PB12 := hid (PB11.out.up hS)
          have RB12 := hid (RB11.out.up hS)
          have FB12 := hid (FB11.out.up hS)
          have V12 := hid (V11.out.trans (hS.mono V11.out.size))
          have W12' := hid (W11.out.trans (hS.mono W11.out.size))
          have O12 := hid (ownsRow_keep O11.out (fun j hj => hS.block j (ownsRow_lt O11.out j hj)))
          have HVC := hid hvc
          have OB := hid (show ∀ j ∈ (Value.slice adv 4 capv).ownBlock.toList, j < wb.heap.size from ownsRow_lt O11.out)
          have HVB2 := hid hvb
          have HVB := hid (show w6.heap.size ≤ vb from Nat.le_trans W11.out.size hvb)
          have HU := hid (show LetS u1 ∧ LetS u2 from ⟨hu1, hu2⟩)
          have HK := hid (show k5 < 3 ∧ k6 < 20 ∧ k7 < 20 from ⟨b5, b6, b7⟩)
          clear hS hV v39 hvb hvc hu1 hu2 PB11 RB11 FB11 V11 W11 O11 hk5 hk6 hk7 b5 b6 b7
          go_simp
          go_wp2_with fail
          go_loopw [9, 16] (fun v i wr => ∃ (k m : Nat) (adv : Option Addr) (capv : Nat) (ys : List Value) (r : List (El 3)), k ≤ 7 ∧ m ≤ 4 + k ∧ i = .int .i64 k ∧ v = .slice adv m capv ∧ Hid (wr.ownsRow w6.heap.size 73 4 (.slice adv m capv) m ys) ∧ Hid (Ls 4 FlC ys (nmL p s e c ++ r) []) ∧ Hid ((r.map (·.1)).Sublist (restT.take k) ∧ ∀ x ∈ r, DOk x) ∧ Hid (m = 4 + r.length) ∧ Hid (cls wr vb (vals7 sd st u1 u2 k5 k6 k7) 73) ∧ Hid (∀ j ∈ (Value.slice adv m capv).ownBlock.toList, j ≠ vb) ∧ Hid (Below w6.heap.size w6 wr)) (fun _ i _ => 7 - (intOf i).toNat)
          case atStart => exact ⟨0, 4, _, _, ys, [], by omega, by omega, rfl, rfl, O12, by rw [List.append_nil]; exact hls4, ⟨List.Sublist.slnil, fun x hx => by cases hx⟩, rfl, HVC, fun j hj => by have := OB.out j hj; have := HVB2.out; omega, W12'⟩
          case round =>
            obtain ⟨k, m, adv2, capv2, ys2, r, hk, hm, rfl, rfl, hown, hls, hr, hml, hvc, hne, hU⟩ := hrel
            by_cases hkl : k < 7
            · obtain ⟨t, kd, vl, q0, q1, q2, q3, hdok, htag⟩ := val7_at hvc.out HD.out HT.out HU.out.1 HU.out.2 HK.out.1 HK.out.2.1 HK.out.2.2 hkl
              have pc1 := ((PB8.out.up hU.out)).at (i := 1) (u := .slice a2 n2 c2) rfl
              obtain ⟨r8, r8a, r8b⟩ := R2.out 8 wr (V8.out.trans (hU.out.mono V8.out.size))
              have hdok2 := hid hdok
              have htag2 := hid htag
              clear hdok htag
              go_wp2_with fail
              go_at_call 25; refine r8.mono ?_; rintro e9 wX ⟨rfl, rfl⟩
              go_wp2_with fail
              have sb := shr_bd (rawI n2 Z2 8) k hkl r8a r8b
              go_at_call 24; refine (vpick_any _ _ _ sb.1 sb.2 (by omega) (by omega)).mono ?_; rintro e9 wY ⟨rfl, rfl⟩
              generalize vpk (rawI n2 Z2 8 / 2 ^ k) 4 = y
              by_cases hy : 0 < y
              · have U1 := hid (Below.alloc hU.out hU.out.size (.cells #[.int .i64 t, .string (bs kd), .string (bs vl), .slice none 0 0] 73))
                go_wp2_with (at_builtin; refine wpList_append_sep _ rfl _ _ 59 rfl 73 i0 zeroE 4 64 Tryz.underlying59 HI.out hz0 hz1 hz2 rfl (by decide) _ _ _ rfl (ownsRow_low (hown.out.alloc _)) ⟨wY.heap.size, 0, none⟩ 1 1 [.int .i64 t, .string (bs kd), .string (bs vl), .slice none 0 0] rfl rfl (four_at _ _ _ _ _ _ _ (by simp)) four_one (by unfold maxLen; omega) (by omega) ?_)
                intro v8 w8 hown8 hg8 hm8
                have O8 := hid (own_lift hown.out hown8 hm8 (by have := hU.out.size; simp; omega))
                have U8 := hid (up_grow2 hU.out hown.out _ hg8)
                have hvl := hvc.out.lt
                have C8 := hid (hvc.out.keep ((hg8.block vb (by simp; omega) (fun e => hne.out vb (by rw [← e]; simp) rfl)).trans (Below.heap_alloc _ _ _ hvl)))
                have N8 := hid (show ∀ j ∈ v8.ownBlock.toList, j ≠ vb from fun j hj => by
                  rcases hm8 with e | h
                  · exact hne.out j (by rw [← e]; exact hj)
                  · have := h j hj; simp at this; omega)
                obtain ⟨ad8, cap8, rfl⟩ := own_slice2 hown8
                clear hown8 hg8 hm8
                go_wp2
                go_roundw
                case rel =>
                  refine ⟨k + 1, m + 1, _, _, _, r ++ [flE 2 t kd vl], by omega, by omega, by go_num, rfl, O8, ?_, ⟨sub_snoc hr.out.1 htag2.out, fun x hx => ?_⟩, ?_, C8, N8, U8⟩
                  · unfold Hid
                    rw [← List.append_assoc]
                    exact Ls.snoc (k := 4) (R := FlC) (c := [.int .i64 t, .string (bs kd), .string (bs vl), .slice none 0 0]) (x := flE 2 t kd vl) (b := []) rfl ⟨rfl, rfl, rfl⟩ hls.out
                  · rcases List.mem_append.1 hx with hx | hx
                    · exact hr.out.2 x hx
                    · rw [List.mem_singleton] at hx; subst hx; exact hdok2.out
                  · unfold Hid
                    rw [List.length_append, hml.out]; rfl
                case measure => simp [intOf]; omega
              · have hy2 : decide (0 < y) = false := by simpa using hy
                go_wp2
                go_roundw
                case rel => exact ⟨k + 1, m, _, _, ys2, r, by omega, by omega, by go_num, rfl, hown, hls, ⟨sub_more hr.out.1, hr.out.2⟩, hml, hvc, hne, hU⟩
                case measure => simp [intOf]; omega
            · obtain rfl : k = 7 := by omega
              have pc1 := ((PB8.out.up hU.out)).at (i := 1) (u := .slice a2 n2 c2) rfl
              obtain ⟨r9, r9a, r9b⟩ := R2.out 9 wr (V8.out.trans (hU.out.mono V8.out.size))
              have b9 := vpk_bd (rawI n2 Z2 9) 3 (by omega)
              clear hkl hk
              go_wp2_with fail
              go_at_call 25; refine r9.mono ?_; rintro e9 wX ⟨rfl, rfl⟩
              go_wp2_with fail
              go_at_call 24; refine (vpick_any _ _ _ r9a r9b (by omega) (by omega)).mono ?_; rintro e9 wY ⟨rfl, rfl⟩
              generalize vpk (rawI n2 Z2 9) 3 = y9 at b9 ⊢
              obtain ⟨n9, rfl⟩ : ∃ c : Nat, y9 = c := ⟨y9.toNat, by omega⟩
              have hn9 : n9 < 3 := by omega
              clear r9 r9a r9b b9 pc1
              go_wp2_with fail
              go_loopw [17, 18] (fun v i wr => ∃ (n q : Nat) (adv3 : Option Addr) (capv3 : Nat) (zs : List Value) (its : Its 2) (cs : List Nat), q + n = n9 ∧ i = .int .i64 n ∧ v = .slice adv3 q capv3 ∧ Hid (wr.ownsRow 0 182 1 (.slice adv3 q capv3) q zs) ∧ Hid (Ls 1 (ItK wr) zs its cs) ∧ Hid (its.length = q) ∧ Hid (New wY wr ((Value.slice adv3 q capv3).ownBlock.toList ++ cs)) ∧ Hid (Below wY.heap.size wY wr)) (fun _ i _ => (intOf i).toNat)
              case atStart => exact ⟨n9, 0, _, _, [], [], [], by omega, rfl, rfl, World.ownsRow_nil _ _ _ _, ⟨rfl, rfl⟩, rfl, ⟨List.nodup_nil, fun j hj => by cases hj⟩, Below.refl _ _⟩
              case round =>
                obtain ⟨n, q, adv3, capv3, zs, its, cs, hqn, rfl, rfl, hoi, hli, hil, hni, hui⟩ := hrel
                by_cases hn0 : 0 < n
                · have X1 := hid (hU.out.trans (hui.out.mono hU.out.size))
                  have pc1 := ((PB8.out.up X1.out)).at (i := 1) (u := .slice a2 n2 c2) rfl
                  obtain ⟨r9, r9a, r9b⟩ := R2.out (9 + n) wr (V8.out.trans (X1.out.mono V8.out.size))
                  rw [show (((9 + n : Nat) : Nat) : Int) = 9 + (n : Int) by omega] at r9
                  generalize rawI n2 Z2 (9 + n) = z9 at r9 r9a r9b
                  go_wp2_with fail
                  go_at_call 25; refine r9.mono ?_; rintro e9 wZ ⟨rfl, rfl⟩
                  go_wp2_with fail
                  have hi1 := ints1 wZ z9 ⟨r9a, r9b⟩ (Z := fun _ => z9) rfl
                  have x1 := Below.alloc (Below.refl wZ.heap.size wZ) (Nat.le_refl _) (.cells #[.int .i64 z9] 3)
                  generalize wZ.alloc (.cells #[.int .i64 z9] 3) = w21 at hi1 x1 ⊢
                  go_at_call 23; refine (let_few _ 1 1 _ w21 (by omega) hi1).mono ?_; rintro e9 w22 ⟨⟨ul, rfl, hul⟩, x2⟩
                  have hm9 : (⟨#[109]⟩ : ByteArray) ++ bs (dgs 1 n) = bs (109 :: dgs 1 n) := bs_append [109] (dgs 1 n)
                  have hl9 := bs_size (dgs 1 n)
                  rw [dgs_len] at hl9
                  go_wp2_with fail
                  go_at_call 38; refine (dig_det n 1 w22 (by omega) (by omega)).mono ?_; rintro e9 w23 ⟨rfl, x3⟩
                  have X3 := hid (show Below wZ.heap.size wZ w23 from (x1.trans (x2.mono x1.size)).trans (x3.mono (Nat.le_trans x1.size x2.size)))
                  clear x1 x2 x3 hi1 r9 r9a r9b pc1
                  have C4 : cls (w23.alloc (.cells #[.int .i64 524544, .string (bs LO), .string ul, .slice none 0 0, .int .i64 524548, .string (bs LO), .string (bs (109 :: dgs 1 n)), .slice none 0 0] 73)) w23.heap.size #[.int .i64 524544, .string (bs LO), .string ul, .slice none 0 0, .int .i64 524548, .string (bs LO), .string (bs (109 :: dgs 1 n)), .slice none 0 0] 73 := heap_alloc_new _ _
                  have x4 := Below.alloc (Below.refl w23.heap.size w23) (Nat.le_refl _) (.cells #[.int .i64 524544, .string (bs LO), .string ul, .slice none 0 0, .int .i64 524548, .string (bs LO), .string (bs (109 :: dgs 1 n)), .slice none 0 0] 73)
                  have I4 := hid (item_more hul.out (show n < 10 by omega) hli.out hni.out hui.out X3.out x4 C4)
                  have O4 := hid (ownsRow_keep hoi.out (fun j hj => (X3.out.trans (x4.mono X3.out.size)).block j (ownsRow_lt hoi.out j hj)))
                  have Y4 := hid (hui.out.trans ((X3.out.trans (x4.mono X3.out.size)).mono hui.out.size))
                  go_wp2_with (at_builtin; refine wpList_append_sep _ rfl _ _ 71 rfl 182 j0 (.agg #[.slice none 0 0]) 1 24 Tryz.underlying71 HJ.out hj0 hj1 hj2 rfl (by decide) _ _ _ rfl (O4.out.alloc _) ⟨w23.heap.size + 1, 0, none⟩ 1 1 [.slice (some ⟨w23.heap.size, 0, none⟩) 2 2] rfl rfl (one_at' _ _ _ _ (by simp)) (by intro u hu; simp at hu; subst hu; rfl) (by unfold maxLen; omega) (by omega) ?_)
                  intro v8 w8 hown8 hg8 hm8
                  obtain ⟨P1, P2, P3⟩ := Row.push (R := ItK) (w := w23.alloc (.cells #[.int .i64 524544, .string (bs LO), .string ul, .slice none 0 0, .int .i64 524548, .string (bs LO), .string (bs (109 :: dgs 1 n)), .slice none 0 0] 73)) ItK.keep I4.out.1 rfl I4.out.2.1 Y4.out.size I4.out.2.2 (by rw [hil.out]; exact hown8) hg8 hm8
                  have HP1 := hid P1
                  have HP2 := hid (show w8.ownsRow 0 182 1 v8 (q + 1) (zs ++ [.slice (some ⟨w23.heap.size, 0, none⟩) 2 2]) from hown8)
                  have HP3 := hid P3
                  have HY8 := hid (Below.grown (Below.alloc Y4.out Y4.out.size (.cells #[.slice (some ⟨w23.heap.size, 0, none⟩) 2 2] 182)) hg8 (by have := Y4.out.size; simp at this ⊢; omega) (fun j hj => (hni.out.2 j (List.mem_append_left _ (by rw [hj]; simp))).1))
                  obtain ⟨ad8, cap8, rfl⟩ := own_slice2 hown8
                  clear P1 P2 P3 hown8 hg8 hm8 I4 O4 Y4 C4 x4 X3 X1
                  go_wp2
                  go_roundw
                  case rel =>
                    refine ⟨n - 1, q + 1, _, _, _, _, _, by omega, by go_num, rfl, HP2, HP1, ?_, HP3, HY8⟩
                    unfold Hid
                    rw [List.length_append, hil.out]; rfl
                  case measure => simp [intOf]; omega
                · obtain rfl : n = 0 := by omega
                  have X1 := hid (hU.out.trans (hui.out.mono hU.out.size))
                  have RBz := hid (RB8.out.up X1.out)
                  have FBz := hid (FB8.out.up X1.out)
                  have OZ := hid (ownsRow_keep hown.out (fun j hj => hui.out.block j (ownsRow_lt hown.out j hj)))
                  have SZ6 := hid (show w6.heap.size ≤ wY.heap.size from hU.out.size)
                  have GL := hid FB8.out.lt
                  have hml2 := hid (show m = (nmL p s e c ++ r).length from by rw [hml.out, List.length_append]; rfl)
                  have hr8 : Hid ((r.map (·.1)).Sublist restT) := hr.out.1.trans (List.take_sublist 7 restT)
                  have HRB := hid RB8.out.lt
                  have HGB := hid (show w.heap.size ≤ G ∧ G < w6.heap.size from ⟨by have := HG.out; omega, FB8.out.lt⟩)
                  by_cases hq : 0 < q
                  · have hq2 : q ≤ 2 := by omega
                    have hm11 : m ≤ 11 := by omega
                    have HDP := hid (its_dok hli.out (by rw [hil.out]; exact hq2))
                    have hrs : Hid (((r ++ [prE its]).map (·.1)).Sublist restT) := sub_snoc (k := 7) hr.out.1 rfl
                    have hrx : Hid (∀ x ∈ r ++ [prE its], DOk x) := fun x hx => by
                      rcases List.mem_append.1 hx with hx | hx
                      · exact hr.out.2 x hx
                      · rw [List.mem_singleton] at hx; subst hx; exact HDP.out
                    go_wp2_with (at_builtin; refine wpList_append_sep _ rfl _ _ 59 rfl 73 i0 zeroE 4 64 Tryz.underlying59 HI.out hz0 hz1 hz2 rfl (by decide) _ _ _ rfl (ownsRow_low (OZ.out.alloc _)) ⟨wr.heap.size, 0, none⟩ 1 1 [.int .i64 533016, .string (bs SQ), .string (bs []), .slice adv3 q capv3] rfl rfl (four_at _ _ _ _ _ _ _ (by simp)) four_one (by unfold maxLen; omega) (by omega) ?_)
                    intro v8 wZ hown8 hg8 hm8
                    have X9 := hid (up_grow3 X1.out OZ.out _ hg8 X1.out.size)
                    have OL := hid (own_lift OZ.out hown8 hm8 (by have := X1.out.size; simp; omega))
                    have HKZ := hid (show ∀ j, wY.heap.size ≤ j → j < wr.heap.size → wZ.heap[j]? = wr.heap[j]? from fun j hj hl => (hg8.block j (by simp; omega) (fun e => by have := ownsRow_lt hown.out j (by rw [← e]; simp); omega)).trans (Below.heap_alloc _ _ _ hl))
                    have hz9 := hg8.size
                    have QZ := hid (parts_rd (F := fun j => w6.heap.size ≤ j ∧ j < wZ.heap.size) hown8 hml2.out hls.out hoi.out hli.out hil.out hni.out HKZ.out (fun j hj hl => ⟨Nat.le_trans SZ6.out hj, by simp at hz9; omega⟩) (fun j hj => ⟨(OL.out.lt j (by simpa using hj)).1, ownsRow_lt hown8 j hj⟩))
                    rw [List.append_assoc] at QZ
                    have RBz := hid (RB8.out.up X9.out)
                    have FBz := hid (FB8.out.up X9.out)
                    obtain ⟨ad8, cap8, rfl⟩ := own_slice2 hown8
                    clear hown8 hg8 hm8 OL HKZ hz9
                    go_wp2_with fail
                    go_at_call 59
                    refine (ksorted_any 2 _ wZ _ (nmL p s e c ++ (r ++ [prE its])) QZ.out (by rw [← List.append_assoc, List.length_append, ← hml2.out]; simp; omega)).mono ?_
                    rintro e9 w9 ⟨v9, rfl, u9, hr9, hn9⟩
                    obtain ⟨ad9, cap9, rfl⟩ := hr9.slice
                    have U9 := hid u9
                    have HR9 := hid hr9
                    have HN9 := hid hn9
                    have RB9 := RBz.out.up u9
                    have FB9 := FBz.out.up u9
                    have y0 := FB9.at (i := 0) rfl
                    have y1 := FB9.at (i := 1) rfl
                    have y2 := FB9.at (i := 2) rfl
                    have y3 := FB9.at (i := 3) rfl
                    have y4 := FB9.at (i := 4) rfl
                    have f4 := FB9.free 4
                    have x0 := RB9.at (i := 0) rfl
                    have x1 := RB9.at (i := 1) rfl
                    have x2 := RB9.at (i := 2) rfl
                    have x3 := RB9.at (i := 3) rfl
                    have x4 := RB9.at (i := 4) rfl
                    have g0 := RB9.free 0
                    have g1 := RB9.free 1
                    have g2 := RB9.free 2
                    have g3 := RB9.free 3
                    have g4 := RB9.free 4
                    have hGR : G ≠ w.heap.size + 1 := by have := HG.out; omega
                    have RX9 := hid (fun u : Value => RB9.keep (w' := w9.setCell ⟨G, 4, none⟩ u) (Below.heap_setCell _ _ _ _ (by show w.heap.size + 1 ≠ G; omega)))
                    clear u9 hr9 hn9 RB9 FB9 RBz FBz
                    go_wp2_with fail
                    refine bodyPost_ret (results_cell_row Tryz.results107 _ _ (w.heap.size + 1) 61 _ (0, 0) _ rfl (cls_set5 (RX9.out _) _ _ _ _ _) Tryz.underlying61 rfl (by kernel_rfl)) rfl ?_
                    exact desc_fin2 NO4.out hrs.out hrx.out V8.out X9.out U9.out HR9.out HN9.out HRB.out HGB.out _ _ _ _ _ _
                  · obtain rfl : q = 0 := by omega
                    have QZ := hid (fl_rd OZ.out hml2.out hls.out (F := fun j => w6.heap.size ≤ j ∧ j < wr.heap.size) (fun j hj => ⟨(OZ.out.lt j (by simpa using hj)).1, ownsRow_lt OZ.out j hj⟩))
                    have X9 := X1
                    go_wp2_with fail
                    go_at_call 59
                    refine (ksorted_any 2 _ wr _ (nmL p s e c ++ r) QZ.out (by have := hml2.out; omega)).mono ?_
                    rintro e9 w9 ⟨v9, rfl, u9, hr9, hn9⟩
                    obtain ⟨ad9, cap9, rfl⟩ := hr9.slice
                    have U9 := hid u9
                    have HR9 := hid hr9
                    have HN9 := hid hn9
                    have RB9 := RBz.out.up u9
                    have FB9 := FBz.out.up u9
                    have y0 := FB9.at (i := 0) rfl
                    have y1 := FB9.at (i := 1) rfl
                    have y2 := FB9.at (i := 2) rfl
                    have y3 := FB9.at (i := 3) rfl
                    have y4 := FB9.at (i := 4) rfl
                    have f4 := FB9.free 4
                    have x0 := RB9.at (i := 0) rfl
                    have x1 := RB9.at (i := 1) rfl
                    have x2 := RB9.at (i := 2) rfl
                    have x3 := RB9.at (i := 3) rfl
                    have x4 := RB9.at (i := 4) rfl
                    have g0 := RB9.free 0
                    have g1 := RB9.free 1
                    have g2 := RB9.free 2
                    have g3 := RB9.free 3
                    have g4 := RB9.free 4
                    have hGR : G ≠ w.heap.size + 1 := by have := HG.out; omega
                    have RX9 := hid (fun u : Value => RB9.keep (w' := w9.setCell ⟨G, 4, none⟩ u) (Below.heap_setCell _ _ _ _ (by show w.heap.size + 1 ≠ G; omega)))
                    clear u9 hr9 hn9 RB9 FB9 RBz FBz
                    go_wp2_with fail
                    refine bodyPost_ret (results_cell_row Tryz.results107 _ _ (w.heap.size + 1) 61 _ (0, 0) _ rfl (cls_set5 (RX9.out _) _ _ _ _ _) Tryz.underlying61 rfl (by kernel_rfl)) rfl ?_
                    exact desc_fin2 NO4.out hr8.out hr.out.2 V8.out X9.out U9.out HR9.out HN9.out HRB.out HGB.out _ _ _ _ _ _
end Go.Proofs.YtaokifbpakbgdaaGreatDoor

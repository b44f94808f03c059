/-
  Package foliokeep: Told.
-/
import Derived.Test.YtaokifbpakbgdaaGreatDoorPut20
import Derived.Test.YtaokifbpakbgdaaGreatDoorPut21
import Derived.Deep.CutBlock
import Derived.Deep.RegionHeld3
namespace Go.Proofs.YtaokifbpakbgdaaGreatDoor
open Go.RowKit
theorem moved_base {wL wr : World} {o : Obj} {v v6 : Value} (hb : ∀ b ∈ v.ownBlock.toList, wL.heap.size ≤ b) (hU : Below wL.heap.size wL wr) (hm : Moved ((wr.alloc o).drew) v v6) : ∀ b ∈ v6.ownBlock.toList, wL.heap.size ≤ b := fun b hj => by
  rcases hm with e | h
  · exact hb b (by rw [← e]; exact hj)
  · have h1 := h b hj
    have h2 : wr.heap.size + 1 ≤ b := by simpa using h1
    have := hU.size
    omega
theorem toldX_len (q : Nat) : (toldX q (ownT q).length).length = (ownT q).length + 1 := by
  rw [toldX_full, List.length_cons, List.length_map]
theorem there_zero {A : List (List (El 3))} {q : Nat} {ab ab' : By} {k : Nat} {L : List By} (h0 : q = 0) (h : ThereL A q ab k L) : ThereL A q ab' k L :=
  ⟨h.1, fun s => (h.2.1 s).trans ⟨fun ⟨o, h1, _, h3⟩ => ⟨o, h1, Or.inl h0, h3⟩, fun ⟨o, h1, _, h3⟩ => ⟨o, h1, Or.inl h0, h3⟩⟩, h.2.2⟩
def tab6t : List (Option Nat) := [none, none, none, none, none, none, none, none, none, none, none, none, none, none, none, none, none, none, none, none, none, none, none, none, none, none, none, none, none, none, none, some 0, some 1, some 2, some 3, some 4, some 5, some 6, some 7, some 8, some 9, some 10, some 11, some 12, none, none, none, none, none, none, none, none, none, none, none, none, none, none, none, none, none, none, none, none, none, none, none, none, none, none, none, none, none, none, none, none, none, none, none, none, none, none, none, none, none, none, none, none, none, none, none, none, none, none, none, none, none, none, none, none, none, none, none, none, none, none, none, none, none, none, none, none, none, none, none, none, none, none, none, none, none, none, none, none, none, none, none, none, none, none, none, none, none, none, none, none, none, none, none, none, none, none, none, none, none, none, none, none, none, none, none, none, none, none, none, none, none, none, none, none, none, none, none, none, none, none, none, none, none, none, none, none, none, none, none, none, none, none, none, none, none, none, none, none, none, none, none, none, none, none, none, none, none, none, none, none, none, none, none, none, none, none, none, none, none, none]
def VL6t (B gf cap n k : Nat) (z : Int) (l : List (El 3)) (sv : Value) : List (Value → World → Prop) :=
  [fun v _ => v = .pointer (some ⟨B, 0, none⟩),
   fun v _ => v = .pointer (some ⟨B, 0, none⟩),
   fun v _ => v = .pointer (some ⟨B, 1, none⟩),
   fun v _ => v = .slice (some ⟨gf, 0, none⟩) n cap,
   fun v _ => v = .int .i64 z,
   fun v _ => v = .pointer (some ⟨B, 0, none⟩),
   fun v _ => v = .pointer (some ⟨B, 0, none⟩),
   fun v _ => v = .pointer (some ⟨B, 1, none⟩),
   fun v _ => v = .slice (some ⟨gf, 0, none⟩) n cap,
   fun v _ => v = .int .i64 (n : Nat),
   fun v _ => v = .int .i64 (k : Nat),
   fun v _ => v = .pointer (some ⟨gf, k * 5, none⟩),
   fun v _ => v = .agg #[.string (bs (nm (n := 2) 0 l)), .string (bs (nm (n := 2) 1 l)), .string (bs (nm (n := 2) 2 l)), .string (bs (nm (n := 2) 3 l)), sv]]
def tab31t : List (Option Nat) := [none, none, none, none, none, none, none, none, none, none, none, none, none, none, none, none, none, none, none, none, none, none, none, none, none, none, none, none, none, none, none, none, none, none, none, none, none, none, none, none, none, none, none, none, none, none, none, none, none, none, none, none, none, none, none, none, none, none, none, none, none, none, none, none, none, none, none, none, none, none, none, none, none, none, none, none, none, none, none, none, none, none, none, none, none, none, none, none, none, none, none, none, none, none, none, none, none, none, none, none, none, none, none, none, none, none, none, none, none, none, none, none, none, none, none, none, none, none, none, none, none, none, none, none, none, none, none, none, none, none, none, none, none, none, none, none, none, none, none, none, none, none, none, none, none, none, none, some 0, some 1, some 2, some 3, some 4, some 5, some 6, some 7, some 8, some 9, some 10, some 11, some 12, some 13, some 14, some 15, some 16, some 17, some 18, some 19, some 20, some 21, some 22, some 23, some 24, none, none, none, none, none, none, none, none, none, none, none, none, none, none, none, none, none, none, none, none, none, none, none, none, none, none, none, none, none, none, none, none, none, none]
def VL31t (a5 : Addr) (tb gw q k nL c16 c15 nX c9 : Nat) (nt : Int) (s : By) (ad9 : Option Addr) : List (Value → World → Prop) :=
  [fun v _ => v = .slice (some a5) nL c16,
   fun v _ => v = .int .i64 (k : Nat),
   fun v _ => v = .pointer (some (a5.add k)),
   fun v _ => v = .slice ad9 nX c9,
   fun v _ => v = .int .i64 (q : Nat),
   fun v _ => v = .pointer (some ⟨tb, q, none⟩),
   fun v _ => v = .int .i64 nt,
   fun v _ => v = .string (bs s),
   fun v _ => v = .slice (some ⟨gw, 0, none⟩) nL c15,
   fun v _ => v = .int .i64 (k : Nat),
   fun v _ => v = .pointer (some ⟨gw, k, none⟩),
   fun v _ => v = .string (bs s),
   fun v _ => v = .bool false,
   fun v _ => v = .bool false,
   fun v _ => v = .slice (some a5) nL c16,
   fun v _ => v = .int .i64 (k : Nat),
   fun v _ => v = .pointer (some (a5.add k)),
   fun v _ => v = .slice ad9 nX c9,
   fun v _ => v = .string (bs (wordL q)),
   fun v W => ∃ b, v = .slice (some ⟨b, 0, none⟩) 4 4 ∧ W.cell? ⟨b, q, none⟩ = some (.string (bs (wordL q))),
   fun v _ => v = .int .i64 (q : Nat),
   fun v W => ∃ b, v = .pointer (some ⟨b, q, none⟩) ∧ W.cell? ⟨b, q, none⟩ = some (.string (bs (wordL q))),
   fun v _ => v = .string (bs (wordL q)),
   fun v _ => v = .bool false,
   fun v _ => v = .bool false]
theorem VL31t.up {a5 : Addr} {tb gw q k nL c16 c15 nX c9 : Nat} {nt : Int} {s : By} {ad9 : Option Addr} {W W' : World} (hb : Below W.heap.size W W') : ∀ p' ∈ VL31t a5 tb gw q k nL c16 c15 nX c9 nt s ad9, ∀ u, p' u W → p' u W' :=
  List.forall_mem_cons.2 ⟨fun _ h => h, List.forall_mem_cons.2 ⟨fun _ h => h, List.forall_mem_cons.2 ⟨fun _ h => h, List.forall_mem_cons.2 ⟨fun _ h => h, List.forall_mem_cons.2 ⟨fun _ h => h, List.forall_mem_cons.2 ⟨fun _ h => h, List.forall_mem_cons.2 ⟨fun _ h => h, List.forall_mem_cons.2 ⟨fun _ h => h, List.forall_mem_cons.2 ⟨fun _ h => h, List.forall_mem_cons.2 ⟨fun _ h => h, List.forall_mem_cons.2 ⟨fun _ h => h, List.forall_mem_cons.2 ⟨fun _ h => h, List.forall_mem_cons.2 ⟨fun _ h => h, List.forall_mem_cons.2 ⟨fun _ h => h, List.forall_mem_cons.2 ⟨fun _ h => h, List.forall_mem_cons.2 ⟨fun _ h => h, List.forall_mem_cons.2 ⟨fun _ h => h, List.forall_mem_cons.2 ⟨fun _ h => h, List.forall_mem_cons.2 ⟨fun _ h => h, List.forall_mem_cons.2 ⟨fun _ ⟨b, h1, h2⟩ => ⟨b, h1, (hb.cell (World.block_lt_of_cell? _ _ h2)).trans h2⟩, List.forall_mem_cons.2 ⟨fun _ h => h, List.forall_mem_cons.2 ⟨fun _ ⟨b, h1, h2⟩ => ⟨b, h1, (hb.cell (World.block_lt_of_cell? _ _ h2)).trans h2⟩, List.forall_mem_cons.2 ⟨fun _ h => h, List.forall_mem_cons.2 ⟨fun _ h => h, List.forall_mem_cons.2 ⟨fun _ h => h, List.forall_mem_nil _⟩⟩⟩⟩⟩⟩⟩⟩⟩⟩⟩⟩⟩⟩⟩⟩⟩⟩⟩⟩⟩⟩⟩⟩⟩
set_option maxRecDepth 20000 in
set_option maxHeartbeats 16000000 in
theorem Told_any (w : World) (ad : Option Addr) (n c : Nat) (z : Int) (hz : -9223372036854775808 ≤ z ∧ z ≤ 9223372036854775807) (hP : Pix w ad n) (hV : VarsK w) :
    Calls Tryz.prog 9 #[.slice ad n c, .int .i64 z] w fun e w' => e = .returned (.bool true) ∧ Below w.heap.size w w' := by
  obtain ⟨i0, hi0, hz0, hz1, hz2⟩ := info_parts info_element
  have HI := hid hi0
  have HV := hid hV
  have CP := hid (played_any w ad n c hP hV)
  clear hP hV hi0
  go_enter Tryz.func9, Tryz.ntmps9
  go_wp2_with fail
  go_at_call 26
  refine CP.out.mono ?_
  rintro e w1 ⟨B, rfl, a, m, T, F, G, fv, A, hb, hG, hD, hT0, hT1⟩
  have H1 := hid hb
  have HG := hid hG
  have HD := hid hD
  obtain ⟨xs, hown, _⟩ := hb.2.2.1
  obtain ⟨adf, capf, rfl⟩ := row_sl hown
  have b1 := hb.1.at (i := 1) rfl
  have hBl := hb.1.lt
  have hA48 := hG.1
  clear hb hG hD hown CP hT0 hT1
  go_upto_if 30 with fail
  have u2 := Below.alloc (Below.refl w1.heap.size w1) (Nat.le_refl _) (.cells #[.string ⟨#[]⟩, .string ⟨#[]⟩, .string ⟨#[]⟩, .string ⟨#[]⟩, .slice none 0 0] 61)
  have P2 : cls (w1.alloc (.cells #[.string ⟨#[]⟩, .string ⟨#[]⟩, .string ⟨#[]⟩, .string ⟨#[]⟩, .slice none 0 0] 61)) w1.heap.size #[.string ⟨#[]⟩, .string ⟨#[]⟩, .string ⟨#[]⟩, .string ⟨#[]⟩, .slice none 0 0] 61 := heap_alloc_new _ _
  generalize w1.alloc (.cells #[.string ⟨#[]⟩, .string ⟨#[]⟩, .string ⟨#[]⟩, .string ⟨#[]⟩, .slice none 0 0] 61) = w2 at u2 P2 ⊢
  have U2 := hid u2
  have PP2 := hid P2
  clear u2 P2
  go_cut [] from 30 to 43 (fun wc => Hid (∃ l sv, LastC wc G w1.heap.size l sv ∧ (A.length = 0 ∧ l = [] ∨ l ∈ A) ∧ Below w1.heap.size w1 wc))
  case first =>
    by_cases hA : A.length = 0
    · have hd : decide (0 < A.length) = false := decide_eq_false (by omega)
      go_wp2_with fail
      go_meet
      case rel => exact ⟨[], _, LastC.nil PP2.out, Or.inl ⟨hA, rfl⟩, U2.out⟩
    · have hd : decide (0 < A.length) = true := decide_eq_true (by omega)
      have pk := vpk_bd z A.length (by omega)
      obtain ⟨k, hk⟩ : ∃ k : Nat, vpk z A.length = k := ⟨(vpk z A.length).toNat, by omega⟩
      rw [hk] at pk
      have hkl : k < A.length := by omega
      obtain ⟨gf, capg, sv, e9, c9, c4, hrd⟩ := (H1.out.up U2.out).at (List.getElem?_eq_getElem hkl)
      obtain ⟨rfl, _, rfl⟩ := Value.slice.inj e9
      have HL := hid (List.getElem_mem hkl)
      have n0 : w2.cell? ⟨gf, k * 5, none⟩ = some (.string (bs (nm (n := 2) 0 A[k]))) := c9 0 (by omega)
      have n1 := c9 1 (by omega)
      have n2 := c9 2 (by omega)
      have n3 := c9 3 (by omega)
      have RD2 := hid hrd
      generalize A[k] = l at n0 n1 n2 n3 c4 RD2 HL
      obtain ⟨ads, caps, rfl⟩ := RD2.out.slice
      have CK := hid (fun W => vpick_any z A.length W hz.1 hz.2 (by omega) (by omega))
      rw [hk] at CK
      have b1' := (U2.out.cell (World.block_lt_of_cell? _ _ b1)).trans b1
      have CC := hid (show ∀ W, Below w2.heap.size w2 W → W.cell? ⟨B, 1, none⟩ = some (.slice (some ⟨gf, 0, none⟩) A.length capf) ∧ W.cell? ⟨gf, k * 5, none⟩ = some (.string (bs (nm (n := 2) 0 l))) ∧ W.cell? ⟨gf, k * 5 + 1, none⟩ = some (.string (bs (nm (n := 2) 1 l))) ∧ W.cell? ⟨gf, k * 5 + 2, none⟩ = some (.string (bs (nm (n := 2) 2 l))) ∧ W.cell? ⟨gf, k * 5 + 3, none⟩ = some (.string (bs (nm (n := 2) 3 l))) ∧ W.cell? ⟨gf, k * 5 + 4, none⟩ = some (.slice ads l.length caps) from fun W hW => ⟨(hW.cell (World.block_lt_of_cell? _ _ b1')).trans b1', (hW.cell (World.block_lt_of_cell? _ _ n0)).trans n0, (hW.cell (World.block_lt_of_cell? _ _ n1)).trans n1, (hW.cell (World.block_lt_of_cell? _ _ n2)).trans n2, (hW.cell (World.block_lt_of_cell? _ _ n3)).trans n3, (hW.cell (World.block_lt_of_cell? _ _ c4)).trans c4⟩)
      have hk1 : (k : Int) < A.length := by omega
      have hk0 : (0 : Int) ≤ k := by omega
      clear e9 c9 hrd pk hk n0 n1 n2 n3 c4 b1' b1
      go_wp2_with fail
      refine wp_region_tab 206 13 tab6t rfl rfl (by kernel_rfl) (by kernel_rfl) (by kernel_rfl) (by kernel_rfl) (by kernel_rfl) (fun W => Below w2.heap.size w2 W) (VL6t B gf capf A.length k z l (.slice ads l.length caps)) (Below.drew (Below.refl _ _)) ?_ ?_
      · refine ⟨?_, ?_, ?_, ?_, ?_, ?_, ?_, ?_, ?_, ?_, ?_, ?_, ?_, trivial⟩
        · intro a' W hS hE hV K hK
          have e5 : a'.tmps.getD 5 undef = .pointer (some ⟨B, 0, none⟩) := hE 5 (by kernel_rfl)
          have f5 : a'.tmps[5]?.getD undef = .pointer (some ⟨B, 0, none⟩) := by rw [← Array.getD_eq_getD_getElem?]; exact e5
          go_simp
          exact hK _ _ hS (fun _ _ _ h => h) rfl
        · intro a' W hS hE hV K hK
          have e31 : a'.tmps.getD 31 undef = .pointer (some ⟨B, 0, none⟩) := hV 0 (by kernel_rfl) 31 (by kernel_rfl)
          have f31 : a'.tmps[31]?.getD undef = .pointer (some ⟨B, 0, none⟩) := by rw [← Array.getD_eq_getD_getElem?]; exact e31
          go_simp
          exact hK _ _ hS (fun _ _ _ h => h) rfl
        · intro a' W hS hE hV K hK
          have e32 : a'.tmps.getD 32 undef = .pointer (some ⟨B, 0, none⟩) := hV 1 (by kernel_rfl) 32 (by kernel_rfl)
          have f32 : a'.tmps[32]?.getD undef = .pointer (some ⟨B, 0, none⟩) := by rw [← Array.getD_eq_getD_getElem?]; exact e32
          go_simp
          exact hK _ _ hS (fun _ _ _ h => h) rfl
        · intro a' W hS hE hV K hK
          have e33 : a'.tmps.getD 33 undef = .pointer (some ⟨B, 1, none⟩) := hV 2 (by kernel_rfl) 33 (by kernel_rfl)
          have f33 : a'.tmps[33]?.getD undef = .pointer (some ⟨B, 1, none⟩) := by rw [← Array.getD_eq_getD_getElem?]; exact e33
          have c9 := (CC.out W hS).1
          go_simp
          exact hK _ _ hS (fun _ _ _ h => h) rfl
        · intro a' W hS hE hV K hK
          have e1 : a'.tmps.getD 1 undef = .int .i64 z := hE 1 (by kernel_rfl)
          have f1 : a'.tmps[1]?.getD undef = .int .i64 z := by rw [← Array.getD_eq_getD_getElem?]; exact e1
          go_simp
          exact hK _ _ hS (fun _ _ _ h => h) rfl
        · intro a' W hS hE hV K hK
          have e5 : a'.tmps.getD 5 undef = .pointer (some ⟨B, 0, none⟩) := hE 5 (by kernel_rfl)
          have f5 : a'.tmps[5]?.getD undef = .pointer (some ⟨B, 0, none⟩) := by rw [← Array.getD_eq_getD_getElem?]; exact e5
          go_simp
          exact hK _ _ hS (fun _ _ _ h => h) rfl
        · intro a' W hS hE hV K hK
          have e36 : a'.tmps.getD 36 undef = .pointer (some ⟨B, 0, none⟩) := hV 5 (by kernel_rfl) 36 (by kernel_rfl)
          have f36 : a'.tmps[36]?.getD undef = .pointer (some ⟨B, 0, none⟩) := by rw [← Array.getD_eq_getD_getElem?]; exact e36
          go_simp
          exact hK _ _ hS (fun _ _ _ h => h) rfl
        · intro a' W hS hE hV K hK
          have e37 : a'.tmps.getD 37 undef = .pointer (some ⟨B, 0, none⟩) := hV 6 (by kernel_rfl) 37 (by kernel_rfl)
          have f37 : a'.tmps[37]?.getD undef = .pointer (some ⟨B, 0, none⟩) := by rw [← Array.getD_eq_getD_getElem?]; exact e37
          go_simp
          exact hK _ _ hS (fun _ _ _ h => h) rfl
        · intro a' W hS hE hV K hK
          have e38 : a'.tmps.getD 38 undef = .pointer (some ⟨B, 1, none⟩) := hV 7 (by kernel_rfl) 38 (by kernel_rfl)
          have f38 : a'.tmps[38]?.getD undef = .pointer (some ⟨B, 1, none⟩) := by rw [← Array.getD_eq_getD_getElem?]; exact e38
          have c9 := (CC.out W hS).1
          go_simp
          exact hK _ _ hS (fun _ _ _ h => h) rfl
        · intro a' W hS hE hV K hK
          have e39 : a'.tmps.getD 39 undef = .slice (some ⟨gf, 0, none⟩) A.length capf := hV 8 (by kernel_rfl) 39 (by kernel_rfl)
          have f39 : a'.tmps[39]?.getD undef = .slice (some ⟨gf, 0, none⟩) A.length capf := by rw [← Array.getD_eq_getD_getElem?]; exact e39
          go_simp
          exact hK _ _ hS (fun _ _ _ h => h) rfl
        · intro a' W hS hE hV K hK
          have e35 : a'.tmps.getD 35 undef = .int .i64 z := hV 4 (by kernel_rfl) 35 (by kernel_rfl)
          have f35 : a'.tmps[35]?.getD undef = .int .i64 z := by rw [← Array.getD_eq_getD_getElem?]; exact e35
          have e40 : a'.tmps.getD 40 undef = .int .i64 A.length := hV 9 (by kernel_rfl) 40 (by kernel_rfl)
          have f40 : a'.tmps[40]?.getD undef = .int .i64 A.length := by rw [← Array.getD_eq_getD_getElem?]; exact e40
          go_simp
          refine (CK.out W).mono ?_
          rintro e9 W9 ⟨rfl, rfl⟩
          exact hK _ _ hS (fun _ _ _ h => h) rfl
        · intro a' W hS hE hV K hK
          have e34 : a'.tmps.getD 34 undef = .slice (some ⟨gf, 0, none⟩) A.length capf := hV 3 (by kernel_rfl) 34 (by kernel_rfl)
          have f34 : a'.tmps[34]?.getD undef = .slice (some ⟨gf, 0, none⟩) A.length capf := by rw [← Array.getD_eq_getD_getElem?]; exact e34
          have e41 : a'.tmps.getD 41 undef = .int .i64 (k : Nat) := hV 10 (by kernel_rfl) 41 (by kernel_rfl)
          have f41 : a'.tmps[41]?.getD undef = .int .i64 (k : Nat) := by rw [← Array.getD_eq_getD_getElem?]; exact e41
          go_simp
          exact hK _ _ hS (fun _ _ _ h => h) rfl
        · intro a' W hS hE hV K hK
          have e42 : a'.tmps.getD 42 undef = .pointer (some ⟨gf, k * 5, none⟩) := hV 11 (by kernel_rfl) 42 (by kernel_rfl)
          have f42 : a'.tmps[42]?.getD undef = .pointer (some ⟨gf, k * 5, none⟩) := by rw [← Array.getD_eq_getD_getElem?]; exact e42
          obtain ⟨_, m0, m1, m2, m3, m4⟩ := CC.out W hS
          go_simp
          exact hK _ _ hS (fun _ _ _ h => h) rfl
      · intro vs W3 o9 ho9 hS hV
        obtain rfl := Option.some.inj ho9
        have v12 : vs 12 = .agg #[.string (bs (nm (n := 2) 0 l)), .string (bs (nm (n := 2) 1 l)), .string (bs (nm (n := 2) 2 l)), .string (bs (nm (n := 2) 3 l)), .slice ads l.length caps] := hV 12 (by decide)
        simp only [tab6t, zipT, v12]
        have hX := PP2.out.up hS
        have y0 := hX.at (i := 0) rfl
        have y1 := hX.at (i := 1) rfl
        have y2 := hX.at (i := 2) rfl
        have y3 := hX.at (i := 3) rfl
        have y4 := hX.at (i := 4) rfl
        have f0 := hX.free 0
        have f1 := hX.free 1
        have f2 := hX.free 2
        have f3 := hX.free 3
        have f4 := hX.free 4
        have FB := hid (cls_set5 hX (.string (bs (nm (n := 2) 0 l))) (.string (bs (nm (n := 2) 1 l))) (.string (bs (nm (n := 2) 2 l))) (.string (bs (nm (n := 2) 3 l))) (.slice ads l.length caps))
        have U3 := hid (U2.out.trans (hS.mono U2.out.size))
        have U4 := hid (Below.set5 U3.out (Nat.le_refl w1.heap.size) (.string (bs (nm (n := 2) 0 l))) (.string (bs (nm (n := 2) 1 l))) (.string (bs (nm (n := 2) 2 l))) (.string (bs (nm (n := 2) 3 l))) (.slice ads l.length caps))
        have RD3 := hid (RD2.out.up hS)
        go_simp
        go_wp2_with fail
        go_meet
        case rel => exact ⟨l, _, ⟨FB.out, RD3.out.keep (fun _ h => h) (fun j hj _ => set5_other _ (by have := (H1.out.2.2.2.2.1 j hj).1; omega) _ _ _ _ _)⟩, Or.inr HL.out, U4.out⟩
  case rest =>
    obtain ⟨l, sv, hC, hl, hU⟩ := hcut.out
    obtain ⟨ads, caps, rfl⟩ := hC.2.slice
    have HC := hid hC
    have HL := hid hl
    have UC := hid hU
    clear hC hl hU hcut b1
    go_wp2_with fail
    go_at_call 27
    refine (ktags_any wc).mono ?_
    rintro e w3 ⟨rfl, u3⟩
    go_wp2_with fail
    have u4 := Below.alloc (Below.refl w3.heap.size w3) (Nat.le_refl _) (.cells #[.int .i64 1048608, .int .i64 2097165, .int .i64 2097166, .int .i64 524312] 66)
    have T4 : cls (w3.alloc (.cells #[.int .i64 1048608, .int .i64 2097165, .int .i64 2097166, .int .i64 524312] 66)) w3.heap.size #[.int .i64 1048608, .int .i64 2097165, .int .i64 2097166, .int .i64 524312] 66 := heap_alloc_new _ _
    generalize w3.alloc (.cells #[.int .i64 1048608, .int .i64 2097165, .int .i64 2097166, .int .i64 524312] 66) = w4 at u4 T4 ⊢
    go_at_call 28
    refine (kkinds_any w4).mono ?_
    rintro e w4k ⟨rfl, u4k⟩
    go_upto_region 9 with fail
    have u5 := Below.alloc (Below.refl w4k.heap.size w4k) (Nat.le_refl _) (.cells #[.string ⟨#[76, 79]⟩, .string ⟨#[85, 73]⟩, .string ⟨#[85, 73]⟩, .string ⟨#[85, 73]⟩] 58)
    have K5 : cls (w4k.alloc (.cells #[.string ⟨#[76, 79]⟩, .string ⟨#[85, 73]⟩, .string ⟨#[85, 73]⟩, .string ⟨#[85, 73]⟩] 58)) w4k.heap.size #[.string ⟨#[76, 79]⟩, .string ⟨#[85, 73]⟩, .string ⟨#[85, 73]⟩, .string ⟨#[85, 73]⟩] 58 := heap_alloc_new _ _
    generalize w4k.alloc (.cells #[.string ⟨#[76, 79]⟩, .string ⟨#[85, 73]⟩, .string ⟨#[85, 73]⟩, .string ⟨#[85, 73]⟩] 58) = w5 at u5 K5 ⊢
    go_upto_region 11 with fail
    obtain ⟨TB, u6⟩ := tabs_at w5
    generalize ((((((((((w5.alloc (.cells #[.int .i64 1048592] 3)).alloc (.cells #[.int .i64 524320, .int .i64 524336, .int .i64 524368, .int .i64 1048592] 3)).alloc (.cells #[.int .i64 524384, .int .i64 2097169, .int .i64 524320] 3)).alloc (.cells #[.int .i64 2097171, .int .i64 524384] 3)).alloc (.cells #[.slice (some ⟨w5.heap.size, 0, none⟩) 1 1, .slice (some ⟨w5.heap.size + 1, 0, none⟩) 4 4, .slice (some ⟨w5.heap.size + 1 + 1, 0, none⟩) 3 3, .slice (some ⟨w5.heap.size + 1 + 1 + 1, 0, none⟩) 2 2] 45)).alloc (.cells #[.string ⟨#[80, 78]⟩] 9)).alloc (.cells #[.string ⟨#[68, 65]⟩, .string ⟨#[84, 77]⟩, .string ⟨#[76, 79]⟩, .string ⟨#[80, 78]⟩] 9)).alloc (.cells #[.string ⟨#[67, 83]⟩, .string ⟨#[73, 83]⟩, .string ⟨#[68, 65]⟩] 9)).alloc (.cells #[.string ⟨#[73, 83]⟩, .string ⟨#[67, 83]⟩] 9)).alloc (.cells #[.slice (some ⟨w5.heap.size + 1 + 1 + 1 + 1 + 1, 0, none⟩) 1 1, .slice (some ⟨w5.heap.size + 1 + 1 + 1 + 1 + 1 + 1, 0, none⟩) 4 4, .slice (some ⟨w5.heap.size + 1 + 1 + 1 + 1 + 1 + 1 + 1, 0, none⟩) 3 3, .slice (some ⟨w5.heap.size + 1 + 1 + 1 + 1 + 1 + 1 + 1 + 1, 0, none⟩) 2 2] 70)) = w6 at TB u6 ⊢
    have hs1 := UC.out.size
    have hz3 := u3.size
    have hz4 := u4.size
    have hz4k := u4k.size
    have hz5 := u5.size
    have ST := hid (show ToldSt w w6 B a m T F G (.slice adf A.length capf) A w1.heap.size w3.heap.size w4k.heap.size w5.heap.size l (.slice ads l.length caps) from ⟨((((((H1.out.up UC.out).up u3).up u4).up u4k).up u5).up u6), ((((HC.out.up u3).up u4).up u4k).up u5).up u6, ((T4.up u4k).up u5).up u6, K5.up u6, TB, by omega, by omega, by omega, by omega⟩)
    generalize hqb : w5.heap.size + 1 + 1 + 1 + 1 + 1 + 1 + 1 + 1 + 1 = qb
    generalize hob : w5.heap.size + 1 + 1 + 1 + 1 = ob
    have HQB := hid (show qb = w5.heap.size + 9 from hqb.symm)
    have HOB := hid (show ob = w5.heap.size + 4 from hob.symm)
    clear hqb hob hs1 hz3 hz4 hz4k hz5 u3 u4 u4k u5 u6 T4 K5 TB HC UC U2 PP2
    obtain ⟨tb, htb⟩ : ∃ tb, w3.heap.size = tb := ⟨_, rfl⟩
    obtain ⟨kb, hkb⟩ : ∃ kb, w4k.heap.size = kb := ⟨_, rfl⟩
    obtain ⟨N, hN⟩ : ∃ N, w5.heap.size = N := ⟨_, rfl⟩
    obtain ⟨fb, hfb⟩ : ∃ fb, w1.heap.size = fb := ⟨_, rfl⟩
    rw [htb, hkb, hN, hfb] at ST
    rw [hN] at HQB HOB
    rw [htb, hkb, hfb]
    clear htb hkb hN hfb
    have CN := hid (fun (wr : World) (h : BkI w wr B a m T F G (.slice adf A.length capf) A A) => kcounted_any w wr B a m T F G (.slice adf A.length capf) A h HG.out HV.out)
    go_wp2_with fail
    go_loopw [11] (fun i wr => ∃ q : Nat, q ≤ 4 ∧ i = .int .i64 q ∧ Hid (ToldSt w wr B a m T F G (.slice adf A.length capf) A fb tb kb N l (.slice ads l.length caps))) (fun i _ => 4 - (intOf i).toNat)
    case atStart => exact ⟨0, by omega, rfl, ST⟩
    case round =>
      obtain ⟨q, hq, rfl, hS⟩ := hrel
      obtain ⟨wL, rfl⟩ : ∃ wL, wL = wr := ⟨_, rfl⟩
      have b1 := hS.out.1.1.at (i := 1) rfl
      by_cases hq4 : q < 4
      · have hq4i : (q : Int) < 4 := by omega
        by_cases hbr : 0 < q ∧ A.length = 0
        · have hd1 : decide (0 < q) = true := decide_eq_true hbr.1
          have hd2 : ((A.length : Int) == 0) = true := beq_iff_eq.2 (by omega)
          have hd3 : (A.length : Int) = 0 := by omega
          go_wp2_with fail
          go_at_call 35
          refine (CN.out wL hS.out.1).mono ?_
          rintro e w9 ⟨rfl, u9⟩
          have HE := hid (hS.out.1.up u9).2.2.2.2.2.2.2
          go_wp2
          go_ret
          exact ⟨rfl, HE.out⟩
        · have hf := hid (show q = 0 ∨ Desc l from by
            rcases HL.out with ⟨h1, _⟩ | h
            · exact Or.inl (by omega)
            · exact Or.inr (HD.out l h))
          have hway : Hid (decide (0 < q) = false ∨ (decide (0 < q) = true ∧ ((A.length : Int) == 0) = false)) := by
            unfold Hid
            by_cases h0 : 0 < q
            · refine Or.inr ⟨decide_eq_true h0, ?_⟩
              rw [beq_eq_false_iff_ne]
              omega
            · exact Or.inl (decide_eq_false h0)
          have t9 := ask_tag hS.out.2.2.1 hq4
          have k9 := ask_kind hS.out.2.2.2.1 hq4
          have hnt := hid (show ∀ j, toldX q j = flE 2 (nameT q) (kindT (nameT q)) [] :: ((ownT q).take j).map (fun t => flE 2 t (kindT t) []) from fun j => rfl)
          clear hbr
          rcases hway.out with hd1 | ⟨hd1, hd2⟩
          case' inr =>
            have na := ask_name (nf := fun i => nm (n := 2) i l) hS.out.2.1.1 (show q - 1 < 4 by omega)
            have NAH := hid na
            have hq1 : 0 < q := of_decide_eq_true hd1
            have hw2 : (0 : Int) ≤ (q : Int) - 1 := by omega
            have CTH := hid (fun (wM : World) (hb : BkI w wM B a m T F G (.slice adf A.length capf) A A) => kthere_any w wM B a m T F G (.slice adf A.length capf) A q (nm (n := 2) (q - 1) l) hb hA48 hq4)
          case' inl =>
            have NAH := hid trivial
            have CTH := hid (fun (wM : World) (hb : BkI w wM B a m T F G (.slice adf A.length capf) A A) => kthere_any w wM B a m T F G (.slice adf A.length capf) A q [] hb hA48 hq4)
          all_goals
            go_wp2_with fail
            go_region
            go_upto_region 16 with fail
            have u7 : Below wL.heap.size wL (wL.alloc (.cells #[.int .i64 (nameT q), .string (bs (kindT (nameT q))), .string ⟨#[]⟩, .slice none 0 0] 73)).drew := Below.drew (Below.alloc (Below.refl _ _) (Nat.le_refl _) _)
            have E7 : cls (wL.alloc (.cells #[.int .i64 (nameT q), .string (bs (kindT (nameT q))), .string ⟨#[]⟩, .slice none 0 0] 73)).drew wL.heap.size #[.int .i64 (nameT q), .string (bs (kindT (nameT q))), .string ⟨#[]⟩, .slice none 0 0] 73 := heap_alloc_new _ _
            generalize (wL.alloc (.cells #[.int .i64 (nameT q), .string (bs (kindT (nameT q))), .string ⟨#[]⟩, .slice none 0 0] 73)).drew = w7 at u7 E7 ⊢
            have U7 := hid u7
            have E7' := hid E7
            clear u7 E7 t9 k9 b1
            go_wp2_with fail
            go_loopw [12, 13] (fun v i wr => ∃ (j : Nat) (adv : Option Addr) (capv : Nat) (ys : List Value), j ≤ (ownT q).length ∧ i = .int .i64 j ∧ v = .slice adv (j + 1) capv ∧ Hid (wr.ownsRow 0 73 4 (.slice adv (j + 1) capv) (j + 1) ys) ∧ Hid (Ls 4 (CpE wL (fun _ => False) 2) ys (toldX q j) []) ∧ Hid (∀ b ∈ (Value.slice adv (j + 1) capv).ownBlock.toList, wL.heap.size ≤ b) ∧ Hid (Below wL.heap.size wL wr)) (fun _ i _ => (ownT q).length - (intOf i).toNat)
            case atStart =>
              refine ⟨0, _, _, _, Nat.zero_le _, rfl, rfl, own_of_cls E7'.out, ⟨_, [], [], [], rfl, rfl, ⟨rfl, _, rfl, RdI.nil _ _ _⟩, ⟨rfl, rfl⟩, rfl⟩, ?_, U7⟩
              intro b hb
              simp only [Value.ownBlock, Option.toList_some, List.mem_singleton] at hb
              subst hb
              exact Nat.le_refl _
            case round =>
              obtain ⟨j, adv, capv, ys, hj, rfl, rfl, hown, hls, hbl, hU⟩ := hrel
              have SW := hid (hS.out.up hU.out)
              have hOB := HOB.out
              have hQB := HQB.out
              have r1 : wr.cell? ⟨ob, q, none⟩ = some (.slice (some ⟨N + q, 0, none⟩) (ownT q).length (ownT q).length) := by rw [hOB]; exact (SW.out.2.2.2.2.1.row hq4).1
              have r2 : wr.cell? ⟨qb, q, none⟩ = some (.slice (some ⟨N + 5 + q, 0, none⟩) (ownT q).length (ownT q).length) := by rw [hQB]; exact (SW.out.2.2.2.2.1.row hq4).2
              have hol := (ownT_ok q hq4).1
              clear hOB hQB
              by_cases hjl : j < (ownT q).length
              · obtain ⟨r3, r4⟩ := SW.out.2.2.2.2.1.at hq4 (List.getElem?_eq_getElem hjl)
                have hst := hid (toldX_succ (List.getElem?_eq_getElem hjl))
                have hji : (j : Int) < (ownT q).length := by omega
                generalize (ownT q)[j] = tk at r3 r4 hst
                go_wp2_with fail
                go_region_law (refine step_append_sep rfl (.tmp 87) (.tmp 103) 59 rfl 73 i0 zeroE 4 64 Tryz.underlying59 HI.out hz0 hz1 hz2 rfl (by decide) _ _ _ (by simp [Act.eval]) (hown.out.alloc _) ⟨wr.heap.size, 0, none⟩ 1 1 [.int .i64 tk, .string (bs (kindT tk)), .string (bs []), .slice none 0 0] (by simp [Act.eval]) rfl (four_at _ _ _ _ _ _ _ (by simp)) four_one (by unfold maxLen; omega) (by omega) ?_; intro v6 w7' hown6 hg6 hm6)
                all_goals have U9 := hid (ask_below hU.out hbl.out hg6)
                all_goals have B9 := hid (moved_base hbl.out hU.out hm6)
                all_goals have O9 := hid hown6
                all_goals obtain ⟨g9, cap9, rfl, _⟩ := own_some hown6
                all_goals clear hown6 hg6 hm6
                all_goals go_wp2
                all_goals go_roundw
                all_goals first
                  | (case measure => simp [intOf]; omega)
                  | skip
                all_goals
                  refine ⟨j + 1, _, _, _, by omega, by go_num, rfl, O9, ?_, B9, U9⟩
                  unfold Hid
                  rw [hst.out]
                  exact Ls.snoc (k := 4) (R := CpE wL (fun _ => False) 2) (c := [.int .i64 tk, .string (bs (kindT tk)), .string (bs []), .slice none 0 0]) (x := flE 2 tk (kindT tk) []) (b := []) rfl ⟨rfl, _, rfl, RdI.nil _ _ _⟩ hls.out
              · obtain rfl : j = (ownT q).length := by omega
                have R8 := hid (show Row wr 73 4 (CpE wL (fun _ => False) 2) (.slice adv ((ownT q).length + 1) capv) (toldX q (ownT q).length) (Value.slice adv ((ownT q).length + 1) capv).ownBlock.toList from ⟨ys, [], by rw [toldX_len]; exact hown.out, hls.out, by simp⟩)
                obtain ⟨FQ, QQ, BQ⟩ : ∃ FQ : Nat → Prop, Hid (Rd wr FQ 3 (.slice adv ((ownT q).length + 1) capv) (toldX q (ownT q).length)) ∧ Hid (∀ j, FQ j → j < wr.heap.size) := ⟨fun j => j ∈ (Value.slice adv ((ownT q).length + 1) capv).ownBlock.toList, hid (rd_cp R8.out hU.out (fun j hj => hj.elim) (fun j hj => hj)), hid (ownsRow_lt hown.out)⟩
                obtain ⟨g8, cap8, e8, _⟩ := own_some hown.out
                obtain ⟨rfl, _, rfl⟩ := Value.slice.inj e8
                have NF := hid (show NfOk q (fun i => nm (n := 2) i l) from fun i hi => by
                  rcases hf.out with h | h
                  · omega
                  · exact desc_nm h (by omega))
                have hw1 : ((q : Int) - 1).toNat = q - 1 := by omega
                have hw3 : (q : Int) - 1 < 4 := by omega
                have na := ask_name (nf := fun i => nm (n := 2) i l) SW.out.2.1.1 (show q - 1 < 4 by omega)
                obtain ⟨wM, rfl⟩ : ∃ wM, wM = wr := ⟨_, rfl⟩
                clear e8 hown hls hbl R8 r2
                go_wp2_with fail
                go_at_call 29
                refine (CTH.out wM SW.out.1).mono ?_
                rintro e w8 ⟨v15, L, rfl, u8, hown15, hth⟩
                have HTH := hid (show ThereL A q (nm (n := 2) (q - 1) l) A.length L from by first | exact hth | exact there_zero (by simpa using hd1) hth)
                have LN := hid (there_names HG.out HD.out hq4 hf.out (nf := fun i => nm (n := 2) i l) (fun i _ => rfl) HTH.out)
                have S8 := hid (SW.out.up u8)
                have O8 := hid hown15
                have Q8 := hid (QQ.out.up u8)
                have B8 := hid (fun j hj => Nat.lt_of_lt_of_le (BQ.out j hj) u8.size)
                obtain ⟨ad15, cap15, rfl⟩ := row_slice hown15
                have m0 := S8.out.2.1.1.at (i := 0) rfl
                have m1 := S8.out.2.1.1.at (i := 1) rfl
                have m2 := S8.out.2.1.1.at (i := 2) rfl
                have m3 := S8.out.2.1.1.at (i := 3) rfl
                have m4 := S8.out.2.1.1.at (i := 4) rfl
                have CA := hid (asked_any q hq4 (fun i => nm (n := 2) i l) (.slice ads l.length caps) FQ w8 ⟨g8, 0, none⟩ ((ownT q).length + 1) capv (toldX q (ownT q).length) Q8.out B8.out NF.out (toldX_ok hq4).1)
                clear u8 hown15 hth na hw1 hw3 r1
                go_wp2_with fail
                go_at_call 31
                refine CA.out.mono ?_
                rintro e w9 ⟨rfl, u9⟩
                have S9 := hid (S8.out.up u9)
                have hBM := SW.out.1.1.lt
                have O9 := hid (ownsRow_keep O8.out (w' := w9) (fun j hj => u9.block j (ownsRow_lt O8.out j hj)))
                have CB := hid (book_answers S9.out.1 HG.out HV.out hq4 NF.out (toldX_ok hq4).1 (toldX_ok hq4).2)
                rw [told_ans LN.out] at CB
                generalize bs (wrS false 0 3 (askQ q (fun i => nm (n := 2) i l) (toldX q (ownT q).length))) = qq at CB ⊢
                clear u9 CA Q8 B8 m0 m1 m2 m3 m4
                go_wp2_with fail
                go_at_call 30
                refine CB.out.mono ?_
                rintro e w10 ⟨v16, rfl, u10, hb10, hr10⟩
                have S10 := hid (S9.out.ans u10 hb10)
                have O10 := hid (ownsRow_keep O9.out (w' := w10) (fun j hj => u10.block (ownsRow_lt O9.out j hj) (by have := (O8.out.lt j (by simpa using hj)).1; omega)))
                obtain ⟨ad16, cap16, rfl⟩ := hr10.slice
                have R10 := hid hr10
                have b2 := S10.out.1.1.at (i := 2) rfl
                have hL48 : L.length ≤ 48 := Nat.le_trans HTH.out.2.2 hA48
                rw [List.length_map]
                clear u10 hb10 hr10 CB S8 S9 O8 O9
                go_wp2_with fail
                clear b2
                go_loopw [17] (fun i wr => ∃ k : Nat, k ≤ L.length ∧ i = .int .i64 k ∧ Hid (Below w10.heap.size w10 wr)) (fun i _ => L.length - (intOf i).toNat)
                case atStart => exact ⟨0, Nat.zero_le _, rfl, Below.refl _ _⟩
                case round =>
                  obtain ⟨k, hk, rfl, hV⟩ := hrel
                  obtain ⟨wI, rfl⟩ : ∃ wI, wI = wr := ⟨_, rfl⟩
                  have SI := hid (S10.out.up hV.out)
                  by_cases hkl : k < L.length
                  · obtain ⟨gw, capw, ew, cw⟩ := row_at (ownsRow_keep O10.out (w' := wI) (fun j hj => hV.out.block j (ownsRow_lt O10.out j hj))) hkl
                    obtain ⟨rfl, _, rfl⟩ := Value.slice.inj ew
                    obtain ⟨a5, ad9, cap9, rfl, _, c5, hrd5⟩ := RdI.at (R10.out.up hV.out) (i := k) (x := toldS A q (fun i => nm (n := 2) i l) L[k]) (by rw [List.getElem?_map, List.getElem?_eq_getElem hkl]; rfl)
                    have hsm := hid (show ∃ o ∈ A, nm (n := 2) q o = L[k] from by
                      obtain ⟨o, ho, _, h2⟩ := (HTH.out.2.1 _).1 (List.getElem_mem hkl)
                      rw [List.take_length] at ho
                      exact ⟨o, ho, h2⟩)
                    have hki : (k : Int) < L.length := by omega
                    generalize L[k] = s at cw c5 hrd5 hsm
                    have T1 := hid (told_name hq4 (nf := fun i => nm (n := 2) i l) hsm.out)
                    have T2 := hid (told_level (A := A) hq4 (nf := fun i => nm (n := 2) i l) s)
                    have T3 := hid (fun (t : Int) (ht : t ∈ ownT q) => told_own (A := A) (nf := fun i => nm (n := 2) i l) (s := s) hq4 ht)
                    have TL := hid (told_len (A := A) hq4 (nf := fun i => nm (n := 2) i l) s)
                    generalize toldS A q (fun i => nm (n := 2) i l) s = X at c5 hrd5 T1 T2 T3 TL
                    have R5 := hid hrd5
                    have CL := hid (klast_any w wI B a m T F G _ A q s SI.out.1 hA48 hq4)
                    have DL := hid (show (lastA (n := 2) A q s).length ≤ 24 from (errS_props (n := 2) (HG.out.2.2 _ (lastA_mem (n := 2) hsm.out).1).1).1)
                    generalize lastA (n := 2) A q s = d at CL T3 DL
                    have e1 := bs_toList s
                    have e2 := bs_toList (wordL q)
                    clear hrd5 ew
                    go_wp2_with fail
                    go_at_call 32
                    refine CL.out.mono ?_
                    rintro e w11 ⟨sv11, rfl, u11, hrd11⟩
                    obtain ⟨ad11, cap11, rfl⟩ := hrd11.slice
                    unfold factV
                    go_upto_region 31 with fail
                    have u12 := Below.alloc (Below.refl w11.heap.size w11) (Nat.le_refl _) (.cells #[.string (bs (nm (n := 2) 0 d)), .string (bs (nm (n := 2) 1 d)), .string (bs (nm (n := 2) 2 d)), .string (bs (nm (n := 2) 3 d)), .slice ad11 d.length cap11] 61)
                    have D12 : cls (w11.alloc (.cells #[.string (bs (nm (n := 2) 0 d)), .string (bs (nm (n := 2) 1 d)), .string (bs (nm (n := 2) 2 d)), .string (bs (nm (n := 2) 3 d)), .slice ad11 d.length cap11] 61)) w11.heap.size #[.string (bs (nm (n := 2) 0 d)), .string (bs (nm (n := 2) 1 d)), .string (bs (nm (n := 2) 2 d)), .string (bs (nm (n := 2) 3 d)), .slice ad11 d.length cap11] 61 := heap_alloc_new _ _
                    generalize w11.alloc (.cells #[.string (bs (nm (n := 2) 0 d)), .string (bs (nm (n := 2) 1 d)), .string (bs (nm (n := 2) 2 d)), .string (bs (nm (n := 2) 3 d)), .slice ad11 d.length cap11] 61) = w12 at u12 D12 ⊢
                    have U12 := hid (u11.trans (u12.mono u11.size))
                    have RD12 := hid (hrd11.up u12)
                    have DD12 := hid D12
                    have cw' := (U12.out.cell (World.block_lt_of_cell? _ _ cw)).trans cw
                    have c5' := (U12.out.cell (World.block_lt_of_cell? _ _ c5)).trans c5
                    have S12 := hid (SI.out.up U12.out)
                    have t9 := ask_tag S12.out.2.2.1 hq4
                    have CT := hid (fun (t : Int) W (hW : Below w12.heap.size w12 W) => ktext_same 2 _ W _ X t ((R5.out.up U12.out).up hW) (by have := TL.out; omega))
                    obtain ⟨nt, hnt⟩ : ∃ nt, nameT q = nt := ⟨_, rfl⟩
                    have hT1 := T1.out
                    have hT2 := T2.out
                    rw [hnt] at t9 hT1
                    clear hnt T1
                    have CC := hid (show ∀ W, Below w12.heap.size w12 W → W.cell? (a5.add k) = some (.slice ad9 X.length cap9) ∧ W.cell? ⟨tb, q, none⟩ = some (.int .i64 nt) ∧ W.cell? ⟨gw, k, none⟩ = some (.string (bs s)) from fun W hW => ⟨(hW.cell (World.block_lt_of_cell? _ _ c5')).trans c5', (hW.cell (World.block_lt_of_cell? w12 _ t9)).trans t9, (hW.cell (World.block_lt_of_cell? w12 _ cw')).trans cw'⟩)
                    clear u11 u12 hrd11 D12 cw c5 CL
                    have KW := hid (fun W => kwords_any W)
                    refine wp_region_tab3 206 25 13 false tab31t rfl rfl (by kernel_rfl) (by kernel_rfl) (by kernel_rfl) (by kernel_rfl) (fun W => Below w12.heap.size w12 W) (VL31t a5 tb gw q k L.length cap16 cap15 X.length cap9 nt s ad9) (Below.drew (Below.refl _ _)) (fun v W h => h) ?_ ?_
                    · refine ⟨?_, ?_, ?_, ?_, ?_, ?_, ?_, ?_, ?_, ?_, ?_, ?_, ?_, ?_, ?_, ?_, ?_, ?_, ?_, ?_, ?_, ?_, ?_, ?_, ?_, trivial⟩
                      · intro a' W hS hE hV K hK
                        have e16 : a'.tmps.getD 16 undef = .slice (some a5) L.length cap16 := hE 16 (by kernel_rfl)
                        have f16 : a'.tmps[16]?.getD undef = .slice (some a5) L.length cap16 := by rw [← Array.getD_eq_getD_getElem?]; exact e16
                        go_simp
                        exact hK _ _ hS (fun _ _ _ h => h) rfl
                      · intro a' W hS hE hV K hK
                        have e17 : a'.tmps.getD 17 undef = .int .i64 k := hE 17 (by kernel_rfl)
                        have f17 : a'.tmps[17]?.getD undef = .int .i64 k := by rw [← Array.getD_eq_getD_getElem?]; exact e17
                        go_simp
                        exact hK _ _ hS (fun _ _ _ h => h) rfl
                      · intro a' W hS hE hV K hK
                        have e147 : a'.tmps.getD 147 undef = .slice (some a5) L.length cap16 := hV 0 (by kernel_rfl) 147 (by kernel_rfl)
                        have f147 : a'.tmps[147]?.getD undef = .slice (some a5) L.length cap16 := by rw [← Array.getD_eq_getD_getElem?]; exact e147
                        have e148 : a'.tmps.getD 148 undef = .int .i64 k := hV 1 (by kernel_rfl) 148 (by kernel_rfl)
                        have f148 : a'.tmps[148]?.getD undef = .int .i64 k := by rw [← Array.getD_eq_getD_getElem?]; exact e148
                        go_simp
                        exact hK _ _ hS (fun _ _ _ h => h) rfl
                      · intro a' W hS hE hV K hK
                        have e149 : a'.tmps.getD 149 undef = .pointer (some (a5.add k)) := hV 2 (by kernel_rfl) 149 (by kernel_rfl)
                        have f149 : a'.tmps[149]?.getD undef = .pointer (some (a5.add k)) := by rw [← Array.getD_eq_getD_getElem?]; exact e149
                        have c9' := (CC.out W hS).1
                        go_simp
                        exact hK _ _ hS (fun _ _ _ h => h) rfl
                      · intro a' W hS hE hV K hK
                        have e11 : a'.tmps.getD 11 undef = .int .i64 q := hE 11 (by kernel_rfl)
                        have f11 : a'.tmps[11]?.getD undef = .int .i64 q := by rw [← Array.getD_eq_getD_getElem?]; exact e11
                        go_simp
                        exact hK _ _ hS (fun _ _ _ h => h) rfl
                      · intro a' W hS hE hV K hK
                        have e7 : a'.tmps.getD 7 undef = .pointer (some ⟨tb, 0, none⟩) := hE 7 (by kernel_rfl)
                        have f7 : a'.tmps[7]?.getD undef = .pointer (some ⟨tb, 0, none⟩) := by rw [← Array.getD_eq_getD_getElem?]; exact e7
                        have e151 : a'.tmps.getD 151 undef = .int .i64 q := hV 4 (by kernel_rfl) 151 (by kernel_rfl)
                        have f151 : a'.tmps[151]?.getD undef = .int .i64 q := by rw [← Array.getD_eq_getD_getElem?]; exact e151
                        go_simp
                        exact hK _ _ hS (fun _ _ _ h => h) rfl
                      · intro a' W hS hE hV K hK
                        have e152 : a'.tmps.getD 152 undef = .pointer (some ⟨tb, q, none⟩) := hV 5 (by kernel_rfl) 152 (by kernel_rfl)
                        have f152 : a'.tmps[152]?.getD undef = .pointer (some ⟨tb, q, none⟩) := by rw [← Array.getD_eq_getD_getElem?]; exact e152
                        have c9' := (CC.out W hS).2.1
                        go_simp
                        exact hK _ _ hS (fun _ _ _ h => h) rfl
                      · intro a' W hS hE hV K hK
                        have e150 : a'.tmps.getD 150 undef = .slice ad9 X.length cap9 := hV 3 (by kernel_rfl) 150 (by kernel_rfl)
                        have f150 : a'.tmps[150]?.getD undef = .slice ad9 X.length cap9 := by rw [← Array.getD_eq_getD_getElem?]; exact e150
                        have e153 : a'.tmps.getD 153 undef = .int .i64 nt := hV 6 (by kernel_rfl) 153 (by kernel_rfl)
                        have f153 : a'.tmps[153]?.getD undef = .int .i64 nt := by rw [← Array.getD_eq_getD_getElem?]; exact e153
                        go_simp
                        refine (CT.out _ W hS).mono ?_
                        rintro e9 W9 ⟨rfl, rfl⟩
                        exact hK _ _ hS (fun _ _ _ h => h) (congrArg (fun z => Value.string (bs z)) hT1)
                      · intro a' W hS hE hV K hK
                        have e15 : a'.tmps.getD 15 undef = .slice (some ⟨gw, 0, none⟩) L.length cap15 := hE 15 (by kernel_rfl)
                        have f15 : a'.tmps[15]?.getD undef = .slice (some ⟨gw, 0, none⟩) L.length cap15 := by rw [← Array.getD_eq_getD_getElem?]; exact e15
                        go_simp
                        exact hK _ _ hS (fun _ _ _ h => h) rfl
                      · intro a' W hS hE hV K hK
                        have e17 : a'.tmps.getD 17 undef = .int .i64 k := hE 17 (by kernel_rfl)
                        have f17 : a'.tmps[17]?.getD undef = .int .i64 k := by rw [← Array.getD_eq_getD_getElem?]; exact e17
                        go_simp
                        exact hK _ _ hS (fun _ _ _ h => h) rfl
                      · intro a' W hS hE hV K hK
                        have e155 : a'.tmps.getD 155 undef = .slice (some ⟨gw, 0, none⟩) L.length cap15 := hV 8 (by kernel_rfl) 155 (by kernel_rfl)
                        have f155 : a'.tmps[155]?.getD undef = .slice (some ⟨gw, 0, none⟩) L.length cap15 := by rw [← Array.getD_eq_getD_getElem?]; exact e155
                        have e156 : a'.tmps.getD 156 undef = .int .i64 k := hV 9 (by kernel_rfl) 156 (by kernel_rfl)
                        have f156 : a'.tmps[156]?.getD undef = .int .i64 k := by rw [← Array.getD_eq_getD_getElem?]; exact e156
                        go_simp
                        exact hK _ _ hS (fun _ _ _ h => h) rfl
                      · intro a' W hS hE hV K hK
                        have e157 : a'.tmps.getD 157 undef = .pointer (some ⟨gw, k, none⟩) := hV 10 (by kernel_rfl) 157 (by kernel_rfl)
                        have f157 : a'.tmps[157]?.getD undef = .pointer (some ⟨gw, k, none⟩) := by rw [← Array.getD_eq_getD_getElem?]; exact e157
                        have c9' := (CC.out W hS).2.2
                        go_simp
                        exact hK _ _ hS (fun _ _ _ h => h) rfl
                      · intro a' W hS hE hV K hK
                        have e154 : a'.tmps.getD 154 undef = .string (bs s) := hV 7 (by kernel_rfl) 154 (by kernel_rfl)
                        have f154 : a'.tmps[154]?.getD undef = .string (bs s) := by rw [← Array.getD_eq_getD_getElem?]; exact e154
                        have e158 : a'.tmps.getD 158 undef = .string (bs s) := hV 11 (by kernel_rfl) 158 (by kernel_rfl)
                        have f158 : a'.tmps[158]?.getD undef = .string (bs s) := by rw [← Array.getD_eq_getD_getElem?]; exact e158
                        go_simp
                        exact hK _ _ hS (fun _ _ _ h => h) rfl
                      · intro a' W hS hE hV K hK
                        have e159 : a'.tmps.getD 159 undef = .bool false := hV 12 (by kernel_rfl) 159 (by kernel_rfl)
                        have f159 : a'.tmps[159]?.getD undef = .bool false := by rw [← Array.getD_eq_getD_getElem?]; exact e159
                        go_simp
                        exact hK _ _ hS (fun _ _ _ h => h) rfl
                      · intro a' W hS hE hV K hK
                        have e16 : a'.tmps.getD 16 undef = .slice (some a5) L.length cap16 := hE 16 (by kernel_rfl)
                        have f16 : a'.tmps[16]?.getD undef = .slice (some a5) L.length cap16 := by rw [← Array.getD_eq_getD_getElem?]; exact e16
                        go_simp
                        exact hK _ _ hS (fun _ _ _ h => h) rfl
                      · intro a' W hS hE hV K hK
                        have e17 : a'.tmps.getD 17 undef = .int .i64 k := hE 17 (by kernel_rfl)
                        have f17 : a'.tmps[17]?.getD undef = .int .i64 k := by rw [← Array.getD_eq_getD_getElem?]; exact e17
                        go_simp
                        exact hK _ _ hS (fun _ _ _ h => h) rfl
                      · intro a' W hS hE hV K hK
                        have e161 : a'.tmps.getD 161 undef = .slice (some a5) L.length cap16 := hV 14 (by kernel_rfl) 161 (by kernel_rfl)
                        have f161 : a'.tmps[161]?.getD undef = .slice (some a5) L.length cap16 := by rw [← Array.getD_eq_getD_getElem?]; exact e161
                        have e162 : a'.tmps.getD 162 undef = .int .i64 k := hV 15 (by kernel_rfl) 162 (by kernel_rfl)
                        have f162 : a'.tmps[162]?.getD undef = .int .i64 k := by rw [← Array.getD_eq_getD_getElem?]; exact e162
                        go_simp
                        exact hK _ _ hS (fun _ _ _ h => h) rfl
                      · intro a' W hS hE hV K hK
                        have e163 : a'.tmps.getD 163 undef = .pointer (some (a5.add k)) := hV 16 (by kernel_rfl) 163 (by kernel_rfl)
                        have f163 : a'.tmps[163]?.getD undef = .pointer (some (a5.add k)) := by rw [← Array.getD_eq_getD_getElem?]; exact e163
                        have c9' := (CC.out W hS).1
                        go_simp
                        exact hK _ _ hS (fun _ _ _ h => h) rfl
                      · intro a' W hS hE hV K hK
                        have e164 : a'.tmps.getD 164 undef = .slice ad9 X.length cap9 := hV 17 (by kernel_rfl) 164 (by kernel_rfl)
                        have f164 : a'.tmps[164]?.getD undef = .slice ad9 X.length cap9 := by rw [← Array.getD_eq_getD_getElem?]; exact e164
                        go_simp
                        refine (CT.out _ W hS).mono ?_
                        rintro e9 W9 ⟨rfl, rfl⟩
                        exact hK _ _ hS (fun _ _ _ h => h) (congrArg (fun z => Value.string (bs z)) hT2)
                      · intro a' W hS hE hV K hK
                        go_simp
                        refine (KW.out W).mono ?_
                        rintro e9 W9 ⟨b, rfl, _, hc, ub⟩
                        exact hK _ _ (hS.trans (ub.mono hS.size)) (VL31t.up ub) ⟨b, rfl, hc q hq4⟩
                      · intro a' W hS hE hV K hK
                        have e11 : a'.tmps.getD 11 undef = .int .i64 q := hE 11 (by kernel_rfl)
                        have f11 : a'.tmps[11]?.getD undef = .int .i64 q := by rw [← Array.getD_eq_getD_getElem?]; exact e11
                        go_simp
                        exact hK _ _ hS (fun _ _ _ h => h) rfl
                      · intro a' W hS hE hV K hK
                        obtain ⟨b, e166, hbc⟩ : ∃ b, a'.tmps.getD 166 undef = .slice (some ⟨b, 0, none⟩) 4 4 ∧ W.cell? ⟨b, q, none⟩ = some (.string (bs (wordL q))) := hV 19 (by kernel_rfl) 166 (by kernel_rfl)
                        have f166 : a'.tmps[166]?.getD undef = _ := (Array.getD_eq_getD_getElem? ..).symm.trans e166
                        have e167 : a'.tmps.getD 167 undef = .int .i64 q := hV 20 (by kernel_rfl) 167 (by kernel_rfl)
                        have f167 : a'.tmps[167]?.getD undef = .int .i64 q := by rw [← Array.getD_eq_getD_getElem?]; exact e167
                        go_simp
                        exact hK _ _ hS (fun _ _ _ h => h) ⟨b, rfl, hbc⟩
                      · intro a' W hS hE hV K hK
                        obtain ⟨b, e168, hbc⟩ : ∃ b, a'.tmps.getD 168 undef = .pointer (some ⟨b, q, none⟩) ∧ W.cell? ⟨b, q, none⟩ = some (.string (bs (wordL q))) := hV 21 (by kernel_rfl) 168 (by kernel_rfl)
                        have f168 : a'.tmps[168]?.getD undef = _ := (Array.getD_eq_getD_getElem? ..).symm.trans e168
                        go_simp
                        exact hK _ _ hS (fun _ _ _ h => h) rfl
                      · intro a' W hS hE hV K hK
                        have e165 : a'.tmps.getD 165 undef = .string (bs (wordL q)) := hV 18 (by kernel_rfl) 165 (by kernel_rfl)
                        have f165 : a'.tmps[165]?.getD undef = .string (bs (wordL q)) := by rw [← Array.getD_eq_getD_getElem?]; exact e165
                        have e169 : a'.tmps.getD 169 undef = .string (bs (wordL q)) := hV 22 (by kernel_rfl) 169 (by kernel_rfl)
                        have f169 : a'.tmps[169]?.getD undef = .string (bs (wordL q)) := by rw [← Array.getD_eq_getD_getElem?]; exact e169
                        go_simp
                        exact hK _ _ hS (fun _ _ _ h => h) rfl
                      · intro a' W hS hE hV K hK
                        have e160 : a'.tmps.getD 160 undef = .bool false := hV 13 (by kernel_rfl) 160 (by kernel_rfl)
                        have f160 : a'.tmps[160]?.getD undef = .bool false := by rw [← Array.getD_eq_getD_getElem?]; exact e160
                        have e170 : a'.tmps.getD 170 undef = .bool false := hV 23 (by kernel_rfl) 170 (by kernel_rfl)
                        have f170 : a'.tmps[170]?.getD undef = .bool false := by rw [← Array.getD_eq_getD_getElem?]; exact e170
                        go_simp
                        exact hK _ _ hS (fun _ _ _ h => h) rfl
                    · intro vs W13 hS13 hV13
                      have v24 : vs 24 = .bool false := hV13 24 (by decide)
                      simp only [tab31t, zipT, v24]
                      have BG := hid hS13
                      clear hS13 hV13 v24
                      go_wp2_with fail
                      go_loopw [19] (fun i wr => ∃ j : Nat, j ≤ (ownT q).length ∧ i = .int .i64 j ∧ Hid (Below w12.heap.size w12 wr)) (fun i _ => (ownT q).length - (intOf i).toNat)
                      case atStart => exact ⟨0, Nat.zero_le _, rfl, BG⟩
                      case round =>
                        obtain ⟨j, hj, rfl, hJ⟩ := hrel
                        have SJ := hid (S12.out.up hJ.out)
                        have hOB := HOB.out
                        have r1 : wr.cell? ⟨ob, q, none⟩ = some (.slice (some ⟨N + q, 0, none⟩) (ownT q).length (ownT q).length) := by rw [hOB]; exact (SJ.out.2.2.2.2.1.row hq4).1
                        clear hOB
                        have d4 := (DD12.out.up hJ.out).at (i := 4) rfl
                        have c5j := (hJ.out.cell (World.block_lt_of_cell? _ _ c5')).trans c5'
                        by_cases hjl : j < (ownT q).length
                        · obtain ⟨r3, _⟩ := SJ.out.2.2.2.2.1.at hq4 (List.getElem?_eq_getElem hjl)
                          have hTj := hid (T3.out _ (List.getElem_mem hjl))
                          have hji : (j : Int) < (ownT q).length := by omega
                          generalize (ownT q)[j] = tj at r3 hTj
                          obtain ⟨tx, htx⟩ : ∃ tx, textE (n := 2) d tj = tx := ⟨_, rfl⟩
                          have RA := hid ((R5.out.up U12.out).up hJ.out)
                          have RB := hid (RD12.out.up hJ.out)
                          have CTT := hid (fun (v : Value) (hv : v = .slice ad9 X.length cap9 ∨ v = .slice ad11 d.length cap11) W (hW : Below wr.heap.size wr W) => (show Calls Tryz.prog 33 #[v, .int .i64 tj] W fun e w' => e = .returned (.string (bs tx)) ∧ w' = W from by
                            rcases hv with rfl | rfl
                            · have := ktext_same 2 _ W _ X tj (RA.out.up hW) (by have := TL.out; omega)
                              rw [hTj.out, htx] at this
                              exact this
                            · have := ktext_same 2 _ W _ d tj (RB.out.up hW) (by have := DL.out; omega)
                              rw [htx] at this
                              exact this))
                          have e3 := bs_toList tx
                          clear htx hTj
                          go_wp2_with fail
                          go_quiet ((go_at_call 33; refine Calls.quiet_of_same (CTT.out _ (by first | exact Or.inl rfl | exact Or.inr rfl) _ (by first | exact Below.refl _ _ | exact below_drewN (Below.refl _ _) _ | exact Below.drew (Below.refl _ _)))))
                          go_wp2
                          go_roundw
                          case rel => exact ⟨j + 1, by omega, by go_num, below_drewN hJ.out _⟩
                          case measure => simp [intOf]; omega
                        · obtain rfl : j = (ownT q).length := by omega
                          have BK := hid (hV.out.trans ((U12.out.trans (hJ.out.mono U12.out.size)).mono hV.out.size))
                          go_wp2
                          go_roundw
                          case rel => exact ⟨k + 1, by omega, by go_num, BK⟩
                          case measure => simp [intOf]; omega
                  · obtain rfl : k = L.length := by omega
                    go_wp2
                    go_roundw
                    case rel => exact ⟨q + 1, by omega, by go_num, SI⟩
                    case measure => simp [intOf]; omega
      · obtain rfl : q = 4 := by omega
        go_wp2_with fail
        go_at_call 35
        refine (CN.out wL hS.out.1).mono ?_
        rintro e w9 ⟨rfl, u9⟩
        have HE := hid (hS.out.1.up u9).2.2.2.2.2.2.2
        go_wp2
        go_ret
        exact ⟨rfl, HE.out⟩
end Go.Proofs.YtaokifbpakbgdaaGreatDoor

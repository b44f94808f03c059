/-
  Package foliokeep: Counts.
-/
import Derived.Test.YtaokifbpakbgdaaGreatDoorPut19
import Derived.Test.YtaokifbpakbgdaaGreatDoorPut20
namespace Go.Proofs.YtaokifbpakbgdaaGreatDoor
open Go.RowKit
theorem dec_len : ∀ n, n ≤ 48 → (decB n).length ≤ 2 := by decide
theorem cnt_at {wr : World} {cb : Nat} (h : cls wr cb #[.int .i64 2101760, .int .i64 2101766, .int .i64 2101769] 3) {k : Nat} (hk : k < 3) : wr.cell? ⟨cb, k, none⟩ = some (.int .i64 (cntT k)) := by
  rcases (show k = 0 ∨ k = 1 ∨ k = 2 by omega) with rfl | rfl | rfl <;> exact h.at rfl
def tab13 : List (Option Nat) := [none, none, none, none, none, none, none, none, none, none, none, none, none, none, none, none, none, none, none, none, none, none, none, none, none, none, none, none, none, none, none, none, none, none, none, none, none, none, none, none, none, none, none, none, none, some 0, some 1, some 2, some 3, some 4, some 5, some 6, some 7, some 8, some 9, some 10, some 11, some 12, some 13, some 14, some 15, some 16, some 17, some 18, some 19, some 20, some 21, none, none, none, none, none, none, none, none, none, none, none, none, none, none, none, none, none, none, none, none, none, none, none, none, none, none, none, none, none, none, none, none, none, none, none, none, none, none, none, none, none, none, none, none, none, none, none, none, none, none, none, none]
def VL13 (B fb tb kb cb q N0 : Nat) (nf : Nat → By) (sv : Value) (ls : List (List (El 3))) : List (Value → World → Prop) :=
  [fun v _ => v = .pointer (some ⟨B, 0, none⟩),
   fun v _ => v = (.int .i64 (q : Nat)),
   fun v _ => v = .agg #[.string (bs (nf 0)), .string (bs (nf 1)), .string (bs (nf 2)), .string (bs (nf 3)), sv],
   fun v _ => v = (.int .i64 (q : Nat)),
   fun v _ => v = .pointer (some ⟨tb, q, none⟩),
   fun v _ => v = .int .i64 (nameT q),
   fun v _ => v = (.int .i64 (q : Nat)),
   fun v _ => v = .pointer (some ⟨kb, q, none⟩),
   fun v _ => v = .string (bs (kindT (nameT q))),
   fun v _ => v = (.int .i64 (q : Nat)),
   fun v _ => v = .pointer (some ⟨fb, 0, none⟩),
   fun v _ => v = .pointer (some ⟨fb, q, none⟩),
   fun v _ => v = .string (bs (nf q)),
   fun v _ => v = .agg #[.int .i64 (nameT q), .string (bs (kindT (nameT q))), .string (bs (nf q)), .slice none 0 0],
   fun v _ => v = .slice (some ⟨cb, 0, none⟩) 3 3,
   fun v _ => v = (.int .i64 (q : Nat)),
   fun v _ => v = .pointer (some ⟨cb, q, none⟩),
   fun v _ => v = .int .i64 (cntT q),
   fun v _ => v = .agg #[.int .i64 (cntT q), .string ⟨#[73, 83]⟩, .string ⟨#[]⟩, .slice none 0 0],
   fun v W => ∃ b, v = .slice (some ⟨b, 0, none⟩) 2 2 ∧ N0 ≤ b ∧ cls W b #[.int .i64 (nameT q), .string (bs (kindT (nameT q))), .string (bs (nf q)), .slice none 0 0, .int .i64 (cntT q), .string ⟨#[73, 83]⟩, .string ⟨#[]⟩, .slice none 0 0] 73,
   fun v _ => v = .string (bs (wrS false 0 3 (askQ q nf (ownQ q nf)))),
   fun v W => RdI W (fun j => N0 ≤ j ∧ j < W.heap.size) 3 v ls]
theorem VL13.up {B fb tb kb cb q N0 : Nat} {nf : Nat → By} {sv : Value} {ls : List (List (El 3))} {W W' : World} (hs : W.heap.size ≤ W'.heap.size) (hb : ∀ j, N0 ≤ j → j < W.heap.size → W'.heap[j]? = W.heap[j]?) : ∀ p' ∈ VL13 B fb tb kb cb q N0 nf sv ls, ∀ u, p' u W → p' u W' :=
  List.forall_mem_cons.2 ⟨fun _ h => h, List.forall_mem_cons.2 ⟨fun _ h => h, List.forall_mem_cons.2 ⟨fun _ h => h, List.forall_mem_cons.2 ⟨fun _ h => h, List.forall_mem_cons.2 ⟨fun _ h => h, List.forall_mem_cons.2 ⟨fun _ h => h, List.forall_mem_cons.2 ⟨fun _ h => h, List.forall_mem_cons.2 ⟨fun _ h => h, List.forall_mem_cons.2 ⟨fun _ h => h, List.forall_mem_cons.2 ⟨fun _ h => h, List.forall_mem_cons.2 ⟨fun _ h => h, List.forall_mem_cons.2 ⟨fun _ h => h, List.forall_mem_cons.2 ⟨fun _ h => h, List.forall_mem_cons.2 ⟨fun _ h => h, List.forall_mem_cons.2 ⟨fun _ h => h, List.forall_mem_cons.2 ⟨fun _ h => h, List.forall_mem_cons.2 ⟨fun _ h => h, List.forall_mem_cons.2 ⟨fun _ h => h, List.forall_mem_cons.2 ⟨fun _ h => h, List.forall_mem_cons.2 ⟨fun _ ⟨b, h1, h2, h3⟩ => ⟨b, h1, h2, h3.keep (hb b h2 h3.lt)⟩, List.forall_mem_cons.2 ⟨fun _ h => h, List.forall_mem_cons.2 ⟨fun _ h => h.keep (fun _ hj => ⟨hj.1, Nat.lt_of_lt_of_le hj.2 hs⟩) (fun j hj hl => hb j hj.1 hl), List.forall_mem_nil _⟩⟩⟩⟩⟩⟩⟩⟩⟩⟩⟩⟩⟩⟩⟩⟩⟩⟩⟩⟩⟩⟩
def tab14c : List (Option Nat) := [none, none, none, none, none, none, none, none, none, none, none, none, none, none, none, none, none, none, none, none, none, none, none, none, none, none, none, none, none, none, none, none, none, none, none, none, none, none, none, none, none, none, none, none, none, none, none, none, none, none, none, none, none, none, none, none, none, none, none, none, none, none, none, none, none, none, none, some 0, some 1, some 2, some 3, some 4, some 5, some 6, some 7, some 8, some 9, some 10, some 11, some 12, some 13, some 14, some 15, none, none, none, none, none, none, none, none, none, none, none, none, none, none, none, none, none, none, none, none, none, none, none, none, none, none, none, none, none, none, none, none, none, none, none, none]
def VL14c (B tb kb q N0 : Nat) (nf : Nat → By) (sv : Value) (ls : List (List (El 3))) : List (Value → World → Prop) :=
  [fun v _ => v = .pointer (some ⟨B, 0, none⟩),
   fun v _ => v = (.int .i64 (q : Nat)),
   fun v _ => v = (.int .i64 ((q : Int) + 1)),
   fun v _ => v = .agg #[.string (bs (nf 0)), .string (bs (nf 1)), .string (bs (nf 2)), .string (bs (nf 3)), sv],
   fun v _ => v = (.int .i64 (q : Nat)),
   fun v _ => v = (.int .i64 ((q : Int) + 1)),
   fun v _ => v = .pointer (some ⟨tb, q + 1, none⟩),
   fun v _ => v = .int .i64 (nameT (q + 1)),
   fun v _ => v = (.int .i64 (q : Nat)),
   fun v _ => v = (.int .i64 ((q : Int) + 1)),
   fun v _ => v = .pointer (some ⟨kb, q + 1, none⟩),
   fun v _ => v = .string (bs (kindT (nameT (q + 1)))),
   fun v _ => v = .agg #[.int .i64 (nameT (q + 1)), .string (bs (kindT (nameT (q + 1)))), .string ⟨#[]⟩, .slice none 0 0],
   fun v W => ∃ b, v = .slice (some ⟨b, 0, none⟩) 1 1 ∧ N0 ≤ b ∧ cls W b #[.int .i64 (nameT (q + 1)), .string (bs (kindT (nameT (q + 1)))), .string ⟨#[]⟩, .slice none 0 0] 73,
   fun v _ => v = .string (bs (wrS false 0 3 (askQ (q + 1) nf (subQ (q + 1))))),
   fun v W => RdI W (fun j => N0 ≤ j ∧ j < W.heap.size) 3 v ls]
theorem VL14c.up {B tb kb q N0 : Nat} {nf : Nat → By} {sv : Value} {ls : List (List (El 3))} {W W' : World} (hs : W.heap.size ≤ W'.heap.size) (hb : ∀ j, N0 ≤ j → j < W.heap.size → W'.heap[j]? = W.heap[j]?) : ∀ p' ∈ VL14c B tb kb q N0 nf sv ls, ∀ u, p' u W → p' u W' :=
  List.forall_mem_cons.2 ⟨fun _ h => h, List.forall_mem_cons.2 ⟨fun _ h => h, List.forall_mem_cons.2 ⟨fun _ h => h, List.forall_mem_cons.2 ⟨fun _ h => h, List.forall_mem_cons.2 ⟨fun _ h => h, List.forall_mem_cons.2 ⟨fun _ h => h, List.forall_mem_cons.2 ⟨fun _ h => h, List.forall_mem_cons.2 ⟨fun _ h => h, List.forall_mem_cons.2 ⟨fun _ h => h, List.forall_mem_cons.2 ⟨fun _ h => h, List.forall_mem_cons.2 ⟨fun _ h => h, List.forall_mem_cons.2 ⟨fun _ h => h, List.forall_mem_cons.2 ⟨fun _ h => h, List.forall_mem_cons.2 ⟨fun _ ⟨b, h1, h2, h3⟩ => ⟨b, h1, h2, h3.keep (hb b h2 h3.lt)⟩, List.forall_mem_cons.2 ⟨fun _ h => h, List.forall_mem_cons.2 ⟨fun _ h => h.keep (fun _ hj => ⟨hj.1, Nat.lt_of_lt_of_le hj.2 hs⟩) (fun j hj hl => hb j hj.1 hl), List.forall_mem_nil _⟩⟩⟩⟩⟩⟩⟩⟩⟩⟩⟩⟩⟩⟩⟩⟩
def tab17 : List (Option Nat) := [none, none, none, none, none, none, none, none, none, none, none, none, none, some 15, none, none, none, none, none, none, none, none, none, none, none, none, none, none, none, none, none, none, none, none, none, none, none, none, none, none, none, none, none, none, none, none, none, none, none, none, none, none, none, none, none, none, none, none, none, none, none, none, none, none, none, none, none, none, none, none, none, none, none, none, none, none, none, none, none, none, none, none, none, none, none, none, none, none, none, none, none, none, none, some 12, some 0, some 1, some 2, some 3, some 4, some 5, some 6, some 7, some 8, some 9, some 10, some 11, some 13, some 14, none, none, none, none, none, none, none, none, none, none, none]
def VL17 (cb q N xl cap5 cap9 capb : Nat) (a5 : Addr) (ad9 adb : Option Addr) : List (Value → World → Prop) :=
  [fun v _ => v = .slice (some a5) 1 cap5,
   fun v _ => v = .pointer (some a5),
   fun v _ => v = .slice ad9 xl cap9,
   fun v _ => v = .slice (some ⟨cb, 0, none⟩) 3 3,
   fun v _ => v = (.int .i64 (q : Nat)),
   fun v _ => v = .pointer (some ⟨cb, q, none⟩),
   fun v _ => v = .int .i64 (cntT q),
   fun v _ => v = .string (bs (Lib.decDigits N)),
   fun v _ => v = .slice adb N capb,
   fun v _ => v = .int .i64 (N : Nat),
   fun v _ => v = .string (bs (dgs 2 N)),
   fun v _ => v = .tuple #[.bool true, .int .i64 0],
   fun v _ => v = .tuple #[.bool true, .int .i64 0],
   fun v _ => v = .bool true,
   fun v _ => v = .int .i64 0,
   fun v _ => v = .bool true]
theorem VL17.up {cb q N xl cap5 cap9 capb : Nat} {a5 : Addr} {ad9 adb : Option Addr} {W W' : World} (_hb : Below W.heap.size W W') : ∀ p' ∈ VL17 cb q N xl cap5 cap9 capb a5 ad9 adb, ∀ u, p' u W → p' u W' :=
  List.forall_mem_cons.2 ⟨fun _ h => h, List.forall_mem_cons.2 ⟨fun _ h => h, List.forall_mem_cons.2 ⟨fun _ h => h, List.forall_mem_cons.2 ⟨fun _ h => h, List.forall_mem_cons.2 ⟨fun _ h => h, List.forall_mem_cons.2 ⟨fun _ h => h, List.forall_mem_cons.2 ⟨fun _ h => h, List.forall_mem_cons.2 ⟨fun _ h => h, List.forall_mem_cons.2 ⟨fun _ h => h, List.forall_mem_cons.2 ⟨fun _ h => h, List.forall_mem_cons.2 ⟨fun _ h => h, List.forall_mem_cons.2 ⟨fun _ h => h, List.forall_mem_cons.2 ⟨fun _ h => h, List.forall_mem_cons.2 ⟨fun _ h => h, List.forall_mem_cons.2 ⟨fun _ h => h, List.forall_mem_cons.2 ⟨fun _ h => h, List.forall_mem_nil _⟩⟩⟩⟩⟩⟩⟩⟩⟩⟩⟩⟩⟩⟩⟩⟩
set_option maxRecDepth 20000 in
set_option maxHeartbeats 16000000 in
theorem Counts_any (w : World) (ad : Option Addr) (n c : Nat) (z : Int) (hz : -9223372036854775808 ≤ z ∧ z ≤ 9223372036854775807) (hP : Pix w ad n) (hV : VarsK w) :
    Calls Tryz.prog 11 #[.slice ad n c, .int .i64 z] w fun e w' => e = .returned (.bool true) ∧ Below w.heap.size w w' := by
  have HV := hid hV
  have CP := hid (played_any w ad n c hP hV)
  clear hP hV
  go_enter Tryz.func11, Tryz.ntmps11
  go_wp2_with fail
  go_at_call 26
  refine CP.out.mono ?_
  rintro e w1 ⟨B, rfl, a, m, T, F, G, fv, A, hb, hG, hD, hT0, hT1⟩
  have H1 := hid hb
  have HG := hid hG
  have HD := hid hD
  obtain ⟨xs, hown, _⟩ := hb.2.2.1
  obtain ⟨adf, capf, rfl⟩ := row_sl hown
  have b1 := hb.1.at (i := 1) rfl
  have hA48 := hG.1
  clear hb hG hD hown CP hT0 hT1
  by_cases hA : A.length = 0
  · have hd : decide ((A.length : Int) = 0) = true := decide_eq_true (by omega)
    have hd2 : ((A.length : Int) == 0) = true := beq_iff_eq.2 (by omega)
    go_wp2
    go_ret
    exact ⟨rfl, H1.out.2.2.2.2.2.2.2⟩
  · have hd : decide ((A.length : Int) = 0) = false := decide_eq_false (by omega)
    have hd2 : ((A.length : Int) == 0) = false := by rw [beq_eq_false_iff_ne]; omega
    have pk := vpk_bd z A.length (by omega)
    obtain ⟨k, hk⟩ : ∃ k : Nat, vpk z A.length = k := ⟨(vpk z A.length).toNat, by omega⟩
    rw [hk] at pk
    have hkl : k < A.length := by omega
    obtain ⟨gf, capg, sv, e9, c9, c4, hrd⟩ := H1.out.at (List.getElem?_eq_getElem hkl)
    obtain ⟨rfl, _, rfl⟩ := Value.slice.inj e9
    have HL := hid (List.getElem_mem hkl)
    generalize A[k] = l at c9 hrd HL
    obtain ⟨ads, caps, rfl⟩ := hrd.slice
    obtain ⟨nf, hnf⟩ : ∃ nf : Nat → By, nf = fun i => nm (n := 2) i l := ⟨_, rfl⟩
    have HNE := hid hnf
    have c9' : ∀ i, i < 4 → w1.cell? ⟨gf, k * 5 + i, none⟩ = some (.string (bs (nf i))) := fun i hi => by rw [hnf]; exact c9 i hi
    clear hnf
    have n0 : w1.cell? ⟨gf, k * 5, none⟩ = some (.string (bs (nf 0))) := c9' 0 (by omega)
    have n1 := c9' 1 (by omega)
    have n2 := c9' 2 (by omega)
    have n3 := c9' 3 (by omega)
    have hk1 : (k : Int) < A.length := by omega
    have hk0 : (0 : Int) ≤ k := by omega
    have CK := hid (fun W => vpick_any z A.length W hz.1 hz.2 (by omega) (by omega))
    rw [hk] at CK
    clear e9 c9 c9' hrd pk hk
    go_wp2_with fail
    go_region_held3 (fun W => W.cell? ⟨B, 1, none⟩ = some (.slice (some ⟨gf, 0, none⟩) A.length capf) ∧ W.cell? ⟨gf, k * 5, none⟩ = some (.string (bs (nf 0))) ∧ W.cell? ⟨gf, k * 5 + 1, none⟩ = some (.string (bs (nf 1))) ∧ W.cell? ⟨gf, k * 5 + 2, none⟩ = some (.string (bs (nf 2))) ∧ W.cell? ⟨gf, k * 5 + 3, none⟩ = some (.string (bs (nf 3))) ∧ W.cell? ⟨gf, k * 5 + 4, none⟩ = some (.slice ads l.length caps)) (go_keep) (first | (go_at_call 24; refine (CK.out _).mono ?_; rintro e w2 ⟨rfl, rfl⟩))
    · rename_i hHeld
      clear hHeld n0 n1 n2 n3 c4 b1
      have u2 : Below w1.heap.size w1 (w1.alloc (.cells #[.string (bs (nf 0)), .string (bs (nf 1)), .string (bs (nf 2)), .string (bs (nf 3)), .slice ads l.length caps] 61)).drew := drew_alloc w1 (.cells #[.string (bs (nf 0)), .string (bs (nf 1)), .string (bs (nf 2)), .string (bs (nf 3)), .slice ads l.length caps] 61)
      have F2 : cls (w1.alloc (.cells #[.string (bs (nf 0)), .string (bs (nf 1)), .string (bs (nf 2)), .string (bs (nf 3)), .slice ads l.length caps] 61)).drew w1.heap.size #[.string (bs (nf 0)), .string (bs (nf 1)), .string (bs (nf 2)), .string (bs (nf 3)), .slice ads l.length caps] 61 := heap_alloc_new w1 (.cells #[.string (bs (nf 0)), .string (bs (nf 1)), .string (bs (nf 2)), .string (bs (nf 3)), .slice ads l.length caps] 61)
      generalize (w1.alloc (.cells #[.string (bs (nf 0)), .string (bs (nf 1)), .string (bs (nf 2)), .string (bs (nf 3)), .slice ads l.length caps] 61)).drew = w2 at u2 F2 ⊢
      have H2 := hid (H1.out.up u2)
      have F2' := hid F2
      clear u2 F2
      go_wp2_with fail
      go_at_call 27
      refine (ktags_any w2).mono ?_
      rintro e9 w3 ⟨rfl, u3⟩
      have H3 := hid (H2.out.up u3)
      have SZ1' := Nat.lt_of_lt_of_le F2'.out.lt u3.size
      have F3 := hid (F2'.out.up u3)
      clear u3 H2 F2'
      go_wp2_with fail
      have T4 : cls (w3.alloc (.cells #[.int .i64 1048608, .int .i64 2097165, .int .i64 2097166, .int .i64 524312] 66)) w3.heap.size #[.int .i64 1048608, .int .i64 2097165, .int .i64 2097166, .int .i64 524312] 66 := heap_alloc_new _ _
      have u4 := Below.alloc (Below.refl w3.heap.size w3) (Nat.le_refl _) (.cells #[.int .i64 1048608, .int .i64 2097165, .int .i64 2097166, .int .i64 524312] 66)
      have H4 := hid (H3.out.up u4)
      have F4 := hid (F3.out.up u4)
      clear u4 H3 F3
      generalize w3.alloc (.cells #[.int .i64 1048608, .int .i64 2097165, .int .i64 2097166, .int .i64 524312] 66) = w4 at T4 H4 F4 ⊢
      go_at_call 28
      refine (kkinds_any w4).mono ?_
      rintro e9 w5 ⟨rfl, u5⟩
      have H5 := hid (H4.out.up u5)
      have SZ1 := hid SZ1'
      have SZ2 := hid (Nat.lt_of_lt_of_le T4.lt u5.size)
      clear SZ1'
      have F5 := hid (F4.out.up u5)
      have T5 := hid (T4.up u5)
      clear u5 H4 F4 T4
      go_wp2_with fail
      have u6 := Below.alloc (Below.alloc (Below.refl w5.heap.size w5) (Nat.le_refl _) (.cells #[.string ⟨#[76, 79]⟩, .string ⟨#[85, 73]⟩, .string ⟨#[85, 73]⟩, .string ⟨#[85, 73]⟩] 58)) (by simp) (.cells #[.int .i64 2101760, .int .i64 2101766, .int .i64 2101769] 3)
      have K6 : cls ((w5.alloc (.cells #[.string ⟨#[76, 79]⟩, .string ⟨#[85, 73]⟩, .string ⟨#[85, 73]⟩, .string ⟨#[85, 73]⟩] 58)).alloc (.cells #[.int .i64 2101760, .int .i64 2101766, .int .i64 2101769] 3)) w5.heap.size #[.string ⟨#[76, 79]⟩, .string ⟨#[85, 73]⟩, .string ⟨#[85, 73]⟩, .string ⟨#[85, 73]⟩] 58 := (Below.heap_alloc _ _ _ (by simp)).trans (heap_alloc_new _ _)
      have C6 : cls ((w5.alloc (.cells #[.string ⟨#[76, 79]⟩, .string ⟨#[85, 73]⟩, .string ⟨#[85, 73]⟩, .string ⟨#[85, 73]⟩] 58)).alloc (.cells #[.int .i64 2101760, .int .i64 2101766, .int .i64 2101769] 3)) (w5.heap.size + 1) #[.int .i64 2101760, .int .i64 2101766, .int .i64 2101769] 3 := by
        have := heap_alloc_new (w5.alloc (.cells #[.string ⟨#[76, 79]⟩, .string ⟨#[85, 73]⟩, .string ⟨#[85, 73]⟩, .string ⟨#[85, 73]⟩] 58)) (.cells #[.int .i64 2101760, .int .i64 2101766, .int .i64 2101769] 3)
        rw [World.size_alloc] at this
        exact this
      generalize (w5.alloc (.cells #[.string ⟨#[76, 79]⟩, .string ⟨#[85, 73]⟩, .string ⟨#[85, 73]⟩, .string ⟨#[85, 73]⟩] 58)).alloc (.cells #[.int .i64 2101760, .int .i64 2101766, .int .i64 2101769] 3) = w6 at u6 K6 C6 ⊢
      have H6 := hid (H5.out.up u6)
      have F6 := hid (F5.out.up u6)
      have T6 := hid (T5.out.up u6)
      have K6' := hid K6
      have C6' := hid C6
      have hB1 := H1.out.1.lt
      have hs6 := hid (show w1.heap.size < w6.heap.size ∧ w3.heap.size < w6.heap.size ∧ w5.heap.size + 1 < w6.heap.size ∧ w1.heap.size < w3.heap.size ∧ w3.heap.size < w5.heap.size from ⟨F6.out.lt, T6.out.lt, C6.lt, SZ1.out, SZ2.out⟩)
      clear u6 K6 C6 H5 F5 T5
      go_loopw [10] (fun i wr => ∃ q : Nat, q ≤ 3 ∧ i = .int .i64 q ∧ Hid (BkI w wr B a m T F G (.slice (some ⟨gf, 0, none⟩) A.length capf) A A) ∧ Hid (UpB B w6 wr)) (fun i _ => 3 - (intOf i).toNat)
      case atStart => exact ⟨0, by omega, rfl, H6, UpB.refl _ _⟩
      case round =>
        obtain ⟨q, hq, rfl, hb, hU⟩ := hrel
        by_cases hq3 : q < 3
        · obtain ⟨z1, z2, z3, z4, z5⟩ := hs6.out
          have hz6 := hU.out.size
          have hnF : w1.heap.size ≠ B := by omega
          have hnT : w3.heap.size ≠ B := by omega
          have hnK : w5.heap.size ≠ B := by omega
          have hnC : w5.heap.size + 1 ≠ B := by omega
          have FR := hid (F6.out.keep (hU.out.block z1 hnF))
          have TR := hid (T6.out.keep (hU.out.block z2 hnT))
          have KR := hid (K6'.out.keep (hU.out.block (by omega) hnK))
          have CR := hid (C6'.out.keep (hU.out.block z3 hnC))
          have hq4 : q < 4 := by omega
          have hq5 : q + 1 < 4 := by omega
          have hqi : (q : Int) < 4 := by omega
          have hqj : (q : Int) < 3 := by omega
          have HNF := hid (show NfOk q nf from fun i hi => by rw [HNE.out]; exact desc_nm (HD.out l HL.out) (by omega))
          have HNF2 := hid (show NfOk (q + 1) nf from fun i hi => by rw [HNE.out]; exact desc_nm (HD.out l HL.out) (by omega))
          have HOX := hid (ownQ_ok (nf := nf) hq3 (fun i hi => by rw [HNE.out]; exact desc_nm (HD.out l HL.out) hi))
          have HSX := hid (subQ_ok hq5)
          have hBN : B < wr.heap.size := by omega
          go_wp2_with fail
          refine wp_region_tab 119 22 tab13 rfl rfl (by kernel_rfl) (by kernel_rfl) (by kernel_rfl) (by kernel_rfl) (by kernel_rfl) (fun W => BkI w W B a m T F G (.slice (some ⟨gf, 0, none⟩) A.length capf) A A ∧ UpB B wr W) (VL13 B w1.heap.size w3.heap.size w5.heap.size (w5.heap.size + 1) q wr.heap.size nf (.slice ads l.length caps) (ansS A q (askQ q nf (ownQ q nf)))) ⟨hb.out.up (Below.drew (Below.refl _ _)), UpB.drew (UpB.refl _ _)⟩ ?_ ?_
          · refine ⟨?_, ?_, ?_, ?_, ?_, ?_, ?_, ?_, ?_, ?_, ?_, ?_, ?_, ?_, ?_, ?_, ?_, ?_, ?_, ?_, ?_, ?_, trivial⟩
            · intro a' W hS hE hV K hK
              have e5 : a'.tmps.getD 5 undef = .pointer (some ⟨B, 0, none⟩) := hE 5 (by kernel_rfl)
              have f5 : a'.tmps[5]?.getD undef = .pointer (some ⟨B, 0, none⟩) := by rw [← Array.getD_eq_getD_getElem?]; exact e5
              go_simp
              exact hK _ _ hS (fun _ _ _ h => h) rfl
            · intro a' W hS hE hV K hK
              have e10 : a'.tmps.getD 10 undef = (.int .i64 (q : Nat)) := hE 10 (by kernel_rfl)
              have f10 : a'.tmps[10]?.getD undef = (.int .i64 (q : Nat)) := by rw [← Array.getD_eq_getD_getElem?]; exact e10
              go_simp
              exact hK _ _ hS (fun _ _ _ h => h) rfl
            · intro a' W hS hE hV K hK
              have e6 : a'.tmps.getD 6 undef = .pointer (some ⟨w1.heap.size, 0, none⟩) := hE 6 (by kernel_rfl)
              have f6 : a'.tmps[6]?.getD undef = .pointer (some ⟨w1.heap.size, 0, none⟩) := by rw [← Array.getD_eq_getD_getElem?]; exact e6
              have FW := FR.out.keep (hS.2.block FR.out.lt hnF)
              have m0 := FW.at (i := 0) rfl
              have m1 := FW.at (i := 1) rfl
              have m2 := FW.at (i := 2) rfl
              have m3 := FW.at (i := 3) rfl
              have m4 := FW.at (i := 4) rfl
              go_simp
              exact hK _ _ hS (fun _ _ _ h => h) rfl
            · intro a' W hS hE hV K hK
              have e10 : a'.tmps.getD 10 undef = (.int .i64 (q : Nat)) := hE 10 (by kernel_rfl)
              have f10 : a'.tmps[10]?.getD undef = (.int .i64 (q : Nat)) := by rw [← Array.getD_eq_getD_getElem?]; exact e10
              go_simp
              exact hK _ _ hS (fun _ _ _ h => h) rfl
            · intro a' W hS hE hV K hK
              have e7 : a'.tmps.getD 7 undef = .pointer (some ⟨w3.heap.size, 0, none⟩) := hE 7 (by kernel_rfl)
              have f7 : a'.tmps[7]?.getD undef = .pointer (some ⟨w3.heap.size, 0, none⟩) := by rw [← Array.getD_eq_getD_getElem?]; exact e7
              have e48 : a'.tmps.getD 48 undef = (.int .i64 (q : Nat)) := hV 3 (by kernel_rfl) 48 (by kernel_rfl)
              have f48 : a'.tmps[48]?.getD undef = (.int .i64 (q : Nat)) := by rw [← Array.getD_eq_getD_getElem?]; exact e48
              go_simp
              exact hK _ _ hS (fun _ _ _ h => h) rfl
            · intro a' W hS hE hV K hK
              have e49 : a'.tmps.getD 49 undef = .pointer (some ⟨w3.heap.size, q, none⟩) := hV 4 (by kernel_rfl) 49 (by kernel_rfl)
              have f49 : a'.tmps[49]?.getD undef = .pointer (some ⟨w3.heap.size, q, none⟩) := by rw [← Array.getD_eq_getD_getElem?]; exact e49
              have c9 := ask_tag (TR.out.keep (hS.2.block TR.out.lt hnT)) hq4
              go_simp
              exact hK _ _ hS (fun _ _ _ h => h) rfl
            · intro a' W hS hE hV K hK
              have e10 : a'.tmps.getD 10 undef = (.int .i64 (q : Nat)) := hE 10 (by kernel_rfl)
              have f10 : a'.tmps[10]?.getD undef = (.int .i64 (q : Nat)) := by rw [← Array.getD_eq_getD_getElem?]; exact e10
              go_simp
              exact hK _ _ hS (fun _ _ _ h => h) rfl
            · intro a' W hS hE hV K hK
              have e8 : a'.tmps.getD 8 undef = .pointer (some ⟨w5.heap.size, 0, none⟩) := hE 8 (by kernel_rfl)
              have f8 : a'.tmps[8]?.getD undef = .pointer (some ⟨w5.heap.size, 0, none⟩) := by rw [← Array.getD_eq_getD_getElem?]; exact e8
              have e51 : a'.tmps.getD 51 undef = (.int .i64 (q : Nat)) := hV 6 (by kernel_rfl) 51 (by kernel_rfl)
              have f51 : a'.tmps[51]?.getD undef = (.int .i64 (q : Nat)) := by rw [← Array.getD_eq_getD_getElem?]; exact e51
              go_simp
              exact hK _ _ hS (fun _ _ _ h => h) rfl
            · intro a' W hS hE hV K hK
              have e52 : a'.tmps.getD 52 undef = .pointer (some ⟨w5.heap.size, q, none⟩) := hV 7 (by kernel_rfl) 52 (by kernel_rfl)
              have f52 : a'.tmps[52]?.getD undef = .pointer (some ⟨w5.heap.size, q, none⟩) := by rw [← Array.getD_eq_getD_getElem?]; exact e52
              have c9 := ask_kind (KR.out.keep (hS.2.block KR.out.lt hnK)) hq4
              go_simp
              exact hK _ _ hS (fun _ _ _ h => h) rfl
            · intro a' W hS hE hV K hK
              have e10 : a'.tmps.getD 10 undef = (.int .i64 (q : Nat)) := hE 10 (by kernel_rfl)
              have f10 : a'.tmps[10]?.getD undef = (.int .i64 (q : Nat)) := by rw [← Array.getD_eq_getD_getElem?]; exact e10
              go_simp
              exact hK _ _ hS (fun _ _ _ h => h) rfl
            · intro a' W hS hE hV K hK
              have e6 : a'.tmps.getD 6 undef = .pointer (some ⟨w1.heap.size, 0, none⟩) := hE 6 (by kernel_rfl)
              have f6 : a'.tmps[6]?.getD undef = .pointer (some ⟨w1.heap.size, 0, none⟩) := by rw [← Array.getD_eq_getD_getElem?]; exact e6
              go_simp
              exact hK _ _ hS (fun _ _ _ h => h) rfl
            · intro a' W hS hE hV K hK
              have e55 : a'.tmps.getD 55 undef = .pointer (some ⟨w1.heap.size, 0, none⟩) := hV 10 (by kernel_rfl) 55 (by kernel_rfl)
              have f55 : a'.tmps[55]?.getD undef = .pointer (some ⟨w1.heap.size, 0, none⟩) := by rw [← Array.getD_eq_getD_getElem?]; exact e55
              have e54 : a'.tmps.getD 54 undef = (.int .i64 (q : Nat)) := hV 9 (by kernel_rfl) 54 (by kernel_rfl)
              have f54 : a'.tmps[54]?.getD undef = (.int .i64 (q : Nat)) := by rw [← Array.getD_eq_getD_getElem?]; exact e54
              go_simp
              exact hK _ _ hS (fun _ _ _ h => h) rfl
            · intro a' W hS hE hV K hK
              have e56 : a'.tmps.getD 56 undef = .pointer (some ⟨w1.heap.size, q, none⟩) := hV 11 (by kernel_rfl) 56 (by kernel_rfl)
              have f56 : a'.tmps[56]?.getD undef = .pointer (some ⟨w1.heap.size, q, none⟩) := by rw [← Array.getD_eq_getD_getElem?]; exact e56
              have c9 := ask_name (nf := nf) (FR.out.keep (hS.2.block FR.out.lt hnF)) hq4
              go_simp
              exact hK _ _ hS (fun _ _ _ h => h) rfl
            · intro a' W hS hE hV K hK
              have e50 : a'.tmps.getD 50 undef = .int .i64 (nameT q) := hV 5 (by kernel_rfl) 50 (by kernel_rfl)
              have f50 : a'.tmps[50]?.getD undef = .int .i64 (nameT q) := by rw [← Array.getD_eq_getD_getElem?]; exact e50
              have e53 : a'.tmps.getD 53 undef = .string (bs (kindT (nameT q))) := hV 8 (by kernel_rfl) 53 (by kernel_rfl)
              have f53 : a'.tmps[53]?.getD undef = .string (bs (kindT (nameT q))) := by rw [← Array.getD_eq_getD_getElem?]; exact e53
              have e57 : a'.tmps.getD 57 undef = .string (bs (nf q)) := hV 12 (by kernel_rfl) 57 (by kernel_rfl)
              have f57 : a'.tmps[57]?.getD undef = .string (bs (nf q)) := by rw [← Array.getD_eq_getD_getElem?]; exact e57
              go_simp
              exact hK _ _ hS (fun _ _ _ h => h) rfl
            · intro a' W hS hE hV K hK
              have e9 : a'.tmps.getD 9 undef = .slice (some ⟨w5.heap.size + 1, 0, none⟩) 3 3 := hE 9 (by kernel_rfl)
              have f9 : a'.tmps[9]?.getD undef = .slice (some ⟨w5.heap.size + 1, 0, none⟩) 3 3 := by rw [← Array.getD_eq_getD_getElem?]; exact e9
              go_simp
              exact hK _ _ hS (fun _ _ _ h => h) rfl
            · intro a' W hS hE hV K hK
              have e10 : a'.tmps.getD 10 undef = (.int .i64 (q : Nat)) := hE 10 (by kernel_rfl)
              have f10 : a'.tmps[10]?.getD undef = (.int .i64 (q : Nat)) := by rw [← Array.getD_eq_getD_getElem?]; exact e10
              go_simp
              exact hK _ _ hS (fun _ _ _ h => h) rfl
            · intro a' W hS hE hV K hK
              have e59 : a'.tmps.getD 59 undef = .slice (some ⟨w5.heap.size + 1, 0, none⟩) 3 3 := hV 14 (by kernel_rfl) 59 (by kernel_rfl)
              have f59 : a'.tmps[59]?.getD undef = .slice (some ⟨w5.heap.size + 1, 0, none⟩) 3 3 := by rw [← Array.getD_eq_getD_getElem?]; exact e59
              have e60 : a'.tmps.getD 60 undef = (.int .i64 (q : Nat)) := hV 15 (by kernel_rfl) 60 (by kernel_rfl)
              have f60 : a'.tmps[60]?.getD undef = (.int .i64 (q : Nat)) := by rw [← Array.getD_eq_getD_getElem?]; exact e60
              go_simp
              exact hK _ _ hS (fun _ _ _ h => h) rfl
            · intro a' W hS hE hV K hK
              have e61 : a'.tmps.getD 61 undef = .pointer (some ⟨w5.heap.size + 1, q, none⟩) := hV 16 (by kernel_rfl) 61 (by kernel_rfl)
              have f61 : a'.tmps[61]?.getD undef = .pointer (some ⟨w5.heap.size + 1, q, none⟩) := by rw [← Array.getD_eq_getD_getElem?]; exact e61
              have c9 := cnt_at (CR.out.keep (hS.2.block CR.out.lt hnC)) hq3
              go_simp
              exact hK _ _ hS (fun _ _ _ h => h) rfl
            · intro a' W hS hE hV K hK
              have e62 : a'.tmps.getD 62 undef = .int .i64 (cntT q) := hV 17 (by kernel_rfl) 62 (by kernel_rfl)
              have f62 : a'.tmps[62]?.getD undef = .int .i64 (cntT q) := by rw [← Array.getD_eq_getD_getElem?]; exact e62
              go_simp
              exact hK _ _ hS (fun _ _ _ h => h) rfl
            · intro a' W hS hE hV K hK
              have e58 : a'.tmps.getD 58 undef = .agg #[.int .i64 (nameT q), .string (bs (kindT (nameT q))), .string (bs (nf q)), .slice none 0 0] := hV 13 (by kernel_rfl) 58 (by kernel_rfl)
              have f58 : a'.tmps[58]?.getD undef = .agg #[.int .i64 (nameT q), .string (bs (kindT (nameT q))), .string (bs (nf q)), .slice none 0 0] := by rw [← Array.getD_eq_getD_getElem?]; exact e58
              have e63 : a'.tmps.getD 63 undef = .agg #[.int .i64 (cntT q), .string ⟨#[73, 83]⟩, .string ⟨#[]⟩, .slice none 0 0] := hV 18 (by kernel_rfl) 63 (by kernel_rfl)
              have f63 : a'.tmps[63]?.getD undef = .agg #[.int .i64 (cntT q), .string ⟨#[73, 83]⟩, .string ⟨#[]⟩, .slice none 0 0] := by rw [← Array.getD_eq_getD_getElem?]; exact e63
              go_simp
              exact hK _ _ ⟨hS.1.up (Below.alloc (Below.refl _ _) (Nat.le_refl _) _), hS.2.alloc _⟩ (VL13.up (by simp) (fun j _ hj => Below.heap_alloc _ _ _ hj)) ⟨W.heap.size, rfl, hS.2.size, heap_alloc_new _ _⟩
            · intro a' W hS hE hV K hK
              have e46 : a'.tmps.getD 46 undef = (.int .i64 (q : Nat)) := hV 1 (by kernel_rfl) 46 (by kernel_rfl)
              have f46 : a'.tmps[46]?.getD undef = (.int .i64 (q : Nat)) := by rw [← Array.getD_eq_getD_getElem?]; exact e46
              have e47 : a'.tmps.getD 47 undef = .agg #[.string (bs (nf 0)), .string (bs (nf 1)), .string (bs (nf 2)), .string (bs (nf 3)), .slice ads l.length caps] := hV 2 (by kernel_rfl) 47 (by kernel_rfl)
              have f47 : a'.tmps[47]?.getD undef = .agg #[.string (bs (nf 0)), .string (bs (nf 1)), .string (bs (nf 2)), .string (bs (nf 3)), .slice ads l.length caps] := by rw [← Array.getD_eq_getD_getElem?]; exact e47
              obtain ⟨b, e64, hb1, hb2⟩ : ∃ b, a'.tmps.getD 64 undef = .slice (some ⟨b, 0, none⟩) 2 2 ∧ wr.heap.size ≤ b ∧ cls W b #[.int .i64 (nameT q), .string (bs (kindT (nameT q))), .string (bs (nf q)), .slice none 0 0, .int .i64 (cntT q), .string ⟨#[73, 83]⟩, .string ⟨#[]⟩, .slice none 0 0] 73 := hV 19 (by kernel_rfl) 64 (by kernel_rfl)
              have f64 : a'.tmps[64]?.getD undef = _ := (Array.getD_eq_getD_getElem? ..).symm.trans e64
              go_simp
              refine (asked_any q hq4 nf (.slice ads l.length caps) (fun j => j = b) W ⟨b, 0, none⟩ 2 2 (ownQ q nf) (el_rd2 hb2 rfl) (fun j hj => by rw [hj]; exact hb2.lt) HNF.out HOX.out.1).mono ?_
              rintro e9 W9 ⟨rfl, u9⟩
              exact hK _ _ ⟨hS.1.up u9, hS.2.trans (UpB.of_below u9)⟩ (VL13.up u9.size (fun j _ hj => u9.block j hj)) rfl
            · intro a' W hS hE hV K hK
              have e45 : a'.tmps.getD 45 undef = .pointer (some ⟨B, 0, none⟩) := hV 0 (by kernel_rfl) 45 (by kernel_rfl)
              have f45 : a'.tmps[45]?.getD undef = .pointer (some ⟨B, 0, none⟩) := by rw [← Array.getD_eq_getD_getElem?]; exact e45
              have e65 : a'.tmps.getD 65 undef = .string (bs (wrS false 0 3 (askQ q nf (ownQ q nf)))) := hV 20 (by kernel_rfl) 65 (by kernel_rfl)
              have f65 : a'.tmps[65]?.getD undef = .string (bs (wrS false 0 3 (askQ q nf (ownQ q nf)))) := by rw [← Array.getD_eq_getD_getElem?]; exact e65
              go_simp
              refine (book_answers hS.1 HG.out HV.out hq4 HNF.out HOX.out.1 HOX.out.2).mono ?_
              rintro e9 W9 ⟨v9, rfl, u9, hb9, hr9⟩
              exact hK _ _ ⟨hb9, hS.2.trans u9⟩ (VL13.up u9.size (fun j hj hl => u9.block hl (by omega))) (show RdI W9 (fun j => wr.heap.size ≤ j ∧ j < W9.heap.size) 3 v9 _ from hr9.keep (fun j hj => ⟨Nat.le_trans hS.2.size hj.1, hj.2⟩) (fun _ _ _ => rfl))
          · intro vs W13 o9 ho9 hS hV
            obtain rfl := Option.some.inj ho9
            have v21 : RdI W13 (fun j => wr.heap.size ≤ j ∧ j < W13.heap.size) 3 (vs 21) (ansS A q (askQ q nf (ownQ q nf))) := hV 21 (by decide)
            rw [HNE.out, own_one HG.out HD.out HL.out hq3] at v21
            obtain ⟨ad5, cap5, e21⟩ := v21.slice
            rw [List.length_singleton] at e21
            rw [e21] at v21
            simp only [tab13, zipT, e21]
            have HB13 := hid hS.1
            have U13 := hid (hU.out.trans hS.2)
            have V21 := hid v21
            have FR := hid (FR.out.keep (hS.2.block FR.out.lt hnF))
            have TR := hid (TR.out.keep (hS.2.block TR.out.lt hnT))
            have KR := hid (KR.out.keep (hS.2.block KR.out.lt hnK))
            have CR := hid (CR.out.keep (hS.2.block CR.out.lt hnC))
            have hBN13 : B < W13.heap.size := by have := hS.2.size; omega
            clear hS hV v21 e21
            go_simp
            go_wp2_with fail
            refine wp_region_tab 119 16 tab14c rfl rfl (by kernel_rfl) (by kernel_rfl) (by kernel_rfl) (by kernel_rfl) (by kernel_rfl) (fun W => BkI w W B a m T F G (.slice (some ⟨gf, 0, none⟩) A.length capf) A A ∧ UpB B W13 W) (VL14c B w3.heap.size w5.heap.size q W13.heap.size nf (.slice ads l.length caps) (ansS A (q + 1) (askQ (q + 1) nf (subQ (q + 1))))) ⟨HB13.out.up (Below.drew (Below.refl _ _)), UpB.drew (UpB.refl _ _)⟩ ?_ ?_
            · refine ⟨?_, ?_, ?_, ?_, ?_, ?_, ?_, ?_, ?_, ?_, ?_, ?_, ?_, ?_, ?_, ?_, trivial⟩
              · intro a' W hS hE hV K hK
                have e5 : a'.tmps.getD 5 undef = .pointer (some ⟨B, 0, none⟩) := hE 5 (by kernel_rfl)
                have f5 : a'.tmps[5]?.getD undef = .pointer (some ⟨B, 0, none⟩) := by rw [← Array.getD_eq_getD_getElem?]; exact e5
                go_simp
                exact hK _ _ hS (fun _ _ _ h => h) rfl
              · intro a' W hS hE hV K hK
                have e10 : a'.tmps.getD 10 undef = (.int .i64 (q : Nat)) := hE 10 (by kernel_rfl)
                have f10 : a'.tmps[10]?.getD undef = (.int .i64 (q : Nat)) := by rw [← Array.getD_eq_getD_getElem?]; exact e10
                go_simp
                exact hK _ _ hS (fun _ _ _ h => h) rfl
              · intro a' W hS hE hV K hK
                have e68 : a'.tmps.getD 68 undef = (.int .i64 (q : Nat)) := hV 1 (by kernel_rfl) 68 (by kernel_rfl)
                have f68 : a'.tmps[68]?.getD undef = (.int .i64 (q : Nat)) := by rw [← Array.getD_eq_getD_getElem?]; exact e68
                have w9 : IntKind.i64.wrap ((q : Int) + 1) = (q : Int) + 1 := by rw [IntKind.wrap_i64]; omega
                go_simp
                exact hK _ _ hS (fun _ _ _ h => h) rfl
              · intro a' W hS hE hV K hK
                have e6 : a'.tmps.getD 6 undef = .pointer (some ⟨w1.heap.size, 0, none⟩) := hE 6 (by kernel_rfl)
                have f6 : a'.tmps[6]?.getD undef = .pointer (some ⟨w1.heap.size, 0, none⟩) := by rw [← Array.getD_eq_getD_getElem?]; exact e6
                have FW := FR.out.keep (hS.2.block FR.out.lt hnF)
                have m0 := FW.at (i := 0) rfl
                have m1 := FW.at (i := 1) rfl
                have m2 := FW.at (i := 2) rfl
                have m3 := FW.at (i := 3) rfl
                have m4 := FW.at (i := 4) rfl
                go_simp
                exact hK _ _ hS (fun _ _ _ h => h) rfl
              · intro a' W hS hE hV K hK
                have e10 : a'.tmps.getD 10 undef = (.int .i64 (q : Nat)) := hE 10 (by kernel_rfl)
                have f10 : a'.tmps[10]?.getD undef = (.int .i64 (q : Nat)) := by rw [← Array.getD_eq_getD_getElem?]; exact e10
                go_simp
                exact hK _ _ hS (fun _ _ _ h => h) rfl
              · intro a' W hS hE hV K hK
                have e71 : a'.tmps.getD 71 undef = (.int .i64 (q : Nat)) := hV 4 (by kernel_rfl) 71 (by kernel_rfl)
                have f71 : a'.tmps[71]?.getD undef = (.int .i64 (q : Nat)) := by rw [← Array.getD_eq_getD_getElem?]; exact e71
                have w9 : IntKind.i64.wrap ((q : Int) + 1) = (q : Int) + 1 := by rw [IntKind.wrap_i64]; omega
                go_simp
                exact hK _ _ hS (fun _ _ _ h => h) rfl
              · intro a' W hS hE hV K hK
                have e7 : a'.tmps.getD 7 undef = .pointer (some ⟨w3.heap.size, 0, none⟩) := hE 7 (by kernel_rfl)
                have f7 : a'.tmps[7]?.getD undef = .pointer (some ⟨w3.heap.size, 0, none⟩) := by rw [← Array.getD_eq_getD_getElem?]; exact e7
                have e72 : a'.tmps.getD 72 undef = (.int .i64 ((q : Int) + 1)) := hV 5 (by kernel_rfl) 72 (by kernel_rfl)
                have f72 : a'.tmps[72]?.getD undef = (.int .i64 ((q : Int) + 1)) := by rw [← Array.getD_eq_getD_getElem?]; exact e72
                have i8 : (0 : Int) ≤ (q : Int) + 1 := by omega
                have i9 : (q : Int) + 1 < 4 := by omega
                have i7 : ((q : Int) + 1).toNat = q + 1 := by omega
                go_simp
                exact hK _ _ hS (fun _ _ _ h => h) rfl
              · intro a' W hS hE hV K hK
                have e73 : a'.tmps.getD 73 undef = .pointer (some ⟨w3.heap.size, q + 1, none⟩) := hV 6 (by kernel_rfl) 73 (by kernel_rfl)
                have f73 : a'.tmps[73]?.getD undef = .pointer (some ⟨w3.heap.size, q + 1, none⟩) := by rw [← Array.getD_eq_getD_getElem?]; exact e73
                have c9 := ask_tag (TR.out.keep (hS.2.block TR.out.lt hnT)) hq5
                go_simp
                exact hK _ _ hS (fun _ _ _ h => h) rfl
              · intro a' W hS hE hV K hK
                have e10 : a'.tmps.getD 10 undef = (.int .i64 (q : Nat)) := hE 10 (by kernel_rfl)
                have f10 : a'.tmps[10]?.getD undef = (.int .i64 (q : Nat)) := by rw [← Array.getD_eq_getD_getElem?]; exact e10
                go_simp
                exact hK _ _ hS (fun _ _ _ h => h) rfl
              · intro a' W hS hE hV K hK
                have e75 : a'.tmps.getD 75 undef = (.int .i64 (q : Nat)) := hV 8 (by kernel_rfl) 75 (by kernel_rfl)
                have f75 : a'.tmps[75]?.getD undef = (.int .i64 (q : Nat)) := by rw [← Array.getD_eq_getD_getElem?]; exact e75
                have w9 : IntKind.i64.wrap ((q : Int) + 1) = (q : Int) + 1 := by rw [IntKind.wrap_i64]; omega
                go_simp
                exact hK _ _ hS (fun _ _ _ h => h) rfl
              · intro a' W hS hE hV K hK
                have e8 : a'.tmps.getD 8 undef = .pointer (some ⟨w5.heap.size, 0, none⟩) := hE 8 (by kernel_rfl)
                have f8 : a'.tmps[8]?.getD undef = .pointer (some ⟨w5.heap.size, 0, none⟩) := by rw [← Array.getD_eq_getD_getElem?]; exact e8
                have e76 : a'.tmps.getD 76 undef = (.int .i64 ((q : Int) + 1)) := hV 9 (by kernel_rfl) 76 (by kernel_rfl)
                have f76 : a'.tmps[76]?.getD undef = (.int .i64 ((q : Int) + 1)) := by rw [← Array.getD_eq_getD_getElem?]; exact e76
                have i8 : (0 : Int) ≤ (q : Int) + 1 := by omega
                have i9 : (q : Int) + 1 < 4 := by omega
                have i7 : ((q : Int) + 1).toNat = q + 1 := by omega
                go_simp
                exact hK _ _ hS (fun _ _ _ h => h) rfl
              · intro a' W hS hE hV K hK
                have e77 : a'.tmps.getD 77 undef = .pointer (some ⟨w5.heap.size, q + 1, none⟩) := hV 10 (by kernel_rfl) 77 (by kernel_rfl)
                have f77 : a'.tmps[77]?.getD undef = .pointer (some ⟨w5.heap.size, q + 1, none⟩) := by rw [← Array.getD_eq_getD_getElem?]; exact e77
                have c9 := ask_kind (KR.out.keep (hS.2.block KR.out.lt hnK)) hq5
                go_simp
                exact hK _ _ hS (fun _ _ _ h => h) rfl
              · intro a' W hS hE hV K hK
                have e74 : a'.tmps.getD 74 undef = .int .i64 (nameT (q + 1)) := hV 7 (by kernel_rfl) 74 (by kernel_rfl)
                have f74 : a'.tmps[74]?.getD undef = .int .i64 (nameT (q + 1)) := by rw [← Array.getD_eq_getD_getElem?]; exact e74
                have e78 : a'.tmps.getD 78 undef = .string (bs (kindT (nameT (q + 1)))) := hV 11 (by kernel_rfl) 78 (by kernel_rfl)
                have f78 : a'.tmps[78]?.getD undef = .string (bs (kindT (nameT (q + 1)))) := by rw [← Array.getD_eq_getD_getElem?]; exact e78
                go_simp
                exact hK _ _ hS (fun _ _ _ h => h) rfl
              · intro a' W hS hE hV K hK
                have e79 : a'.tmps.getD 79 undef = .agg #[.int .i64 (nameT (q + 1)), .string (bs (kindT (nameT (q + 1)))), .string ⟨#[]⟩, .slice none 0 0] := hV 12 (by kernel_rfl) 79 (by kernel_rfl)
                have f79 : a'.tmps[79]?.getD undef = .agg #[.int .i64 (nameT (q + 1)), .string (bs (kindT (nameT (q + 1)))), .string ⟨#[]⟩, .slice none 0 0] := by rw [← Array.getD_eq_getD_getElem?]; exact e79
                go_simp
                exact hK _ _ ⟨hS.1.up (Below.alloc (Below.refl _ _) (Nat.le_refl _) _), hS.2.alloc _⟩ (VL14c.up (by simp) (fun j _ hj => Below.heap_alloc _ _ _ hj)) ⟨W.heap.size, rfl, hS.2.size, heap_alloc_new _ _⟩
              · intro a' W hS hE hV K hK
                have e69 : a'.tmps.getD 69 undef = (.int .i64 ((q : Int) + 1)) := hV 2 (by kernel_rfl) 69 (by kernel_rfl)
                have f69 : a'.tmps[69]?.getD undef = (.int .i64 ((q : Int) + 1)) := by rw [← Array.getD_eq_getD_getElem?]; exact e69
                have e70 : a'.tmps.getD 70 undef = .agg #[.string (bs (nf 0)), .string (bs (nf 1)), .string (bs (nf 2)), .string (bs (nf 3)), .slice ads l.length caps] := hV 3 (by kernel_rfl) 70 (by kernel_rfl)
                have f70 : a'.tmps[70]?.getD undef = .agg #[.string (bs (nf 0)), .string (bs (nf 1)), .string (bs (nf 2)), .string (bs (nf 3)), .slice ads l.length caps] := by rw [← Array.getD_eq_getD_getElem?]; exact e70
                obtain ⟨b, e80, hb1, hb2⟩ : ∃ b, a'.tmps.getD 80 undef = .slice (some ⟨b, 0, none⟩) 1 1 ∧ W13.heap.size ≤ b ∧ cls W b #[.int .i64 (nameT (q + 1)), .string (bs (kindT (nameT (q + 1)))), .string ⟨#[]⟩, .slice none 0 0] 73 := hV 13 (by kernel_rfl) 80 (by kernel_rfl)
                have f80 : a'.tmps[80]?.getD undef = _ := (Array.getD_eq_getD_getElem? ..).symm.trans e80
                go_simp
                refine (asked_any (q + 1) hq5 nf (.slice ads l.length caps) (fun j => j = b) W ⟨b, 0, none⟩ 1 1 (subQ (q + 1)) (el_rd1 hb2 rfl) (fun j hj => by rw [hj]; exact hb2.lt) HNF2.out HSX.out.1).mono ?_
                rintro e9 W9 ⟨rfl, u9⟩
                exact hK _ _ ⟨hS.1.up u9, hS.2.trans (UpB.of_below u9)⟩ (VL14c.up u9.size (fun j _ hj => u9.block j hj)) rfl
              · intro a' W hS hE hV K hK
                have e67 : a'.tmps.getD 67 undef = .pointer (some ⟨B, 0, none⟩) := hV 0 (by kernel_rfl) 67 (by kernel_rfl)
                have f67 : a'.tmps[67]?.getD undef = .pointer (some ⟨B, 0, none⟩) := by rw [← Array.getD_eq_getD_getElem?]; exact e67
                have e81 : a'.tmps.getD 81 undef = .string (bs (wrS false 0 3 (askQ (q + 1) nf (subQ (q + 1))))) := hV 14 (by kernel_rfl) 81 (by kernel_rfl)
                have f81 : a'.tmps[81]?.getD undef = .string (bs (wrS false 0 3 (askQ (q + 1) nf (subQ (q + 1))))) := by rw [← Array.getD_eq_getD_getElem?]; exact e81
                go_simp
                refine (book_answers hS.1 HG.out HV.out hq5 HNF2.out HSX.out.1 HSX.out.2).mono ?_
                rintro e9 W9 ⟨v9, rfl, u9, hb9, hr9⟩
                exact hK _ _ ⟨hb9, hS.2.trans u9⟩ (VL14c.up u9.size (fun j hj hl => u9.block hl (by omega))) (show RdI W9 (fun j => W13.heap.size ≤ j ∧ j < W9.heap.size) 3 v9 _ from hr9.keep (fun j hj => ⟨Nat.le_trans hS.2.size hj.1, hj.2⟩) (fun _ _ _ => rfl))
            · intro vs2 W14 o9 ho9 hS hV
              obtain rfl := Option.some.inj ho9
              have v15 : RdI W14 (fun j => W13.heap.size ≤ j ∧ j < W14.heap.size) 3 (vs2 15) (ansS A (q + 1) (askQ (q + 1) nf (subQ (q + 1)))) := hV 15 (by decide)
              obtain ⟨adb, capb, e15⟩ := v15.slice
              have hsl := sub_len HG.out HD.out HL.out hq3
              rw [← HNE.out] at hsl
              rw [hsl] at e15
              have hN0 := cntB_pos HL.out q
              have hN48 := Nat.le_trans (cntB_le A q (nm (n := 2) q l)) hA48
              simp only [tab14c, zipT, e15]
              have HB14 := hid hS.1
              have U14 := hid (U13.out.trans hS.2)
              have V14 := hid (show RdI W14 (fun j => wr.heap.size ≤ j ∧ j < W13.heap.size) 3 (.slice ad5 1 cap5) _ from V21.out.keep (fun _ h => h) (fun j hj hl => hS.2.block hl (by omega)))
              have CR := hid (CR.out.keep (hS.2.block CR.out.lt hnC))
              have HXT := hid (own_text (s := nm (n := 2) q l) HL.out HD.out hq3 rfl)
              have HXL := hid (show ((askQ q (fun i => nm (n := 2) i l) (ownQ q (fun i => nm (n := 2) i l))).map (ansE (gS (n := 1) A q (nm (n := 2) q l)))).length ≤ 24 from by have := (askQ_err hq4 HNF.out HOX.out.1).2.2; rw [← HNE.out, List.length_map]; omega)
              generalize (askQ q (fun i => nm (n := 2) i l) (ownQ q (fun i => nm (n := 2) i l))).map (ansE (gS (n := 1) A q (nm (n := 2) q l))) = X at V14 HXT HXL
              generalize cntB A q (nm (n := 2) q l) = N at hN0 hN48 HXT ⊢
              obtain ⟨a5, ad9, cap9, rfl, _, c5, hrd⟩ := RdI.at V14.out (i := 0) rfl
              rw [Addr.add_zero'] at c5
              have C5 := hid (fun W (hW : Below W14.heap.size W14 W) => (hW.cell (World.block_lt_of_cell? _ _ c5)).trans c5)
              have CT := hid (fun W (hW : Below W14.heap.size W14 W) => ktext_same 2 _ W _ X (cntT q) (hrd.up hW) (by have := HXL.out; omega))
              rw [HXT.out] at CT
              have VW := hid (HV.out.1.up HB14.out.2.2.2.2.2.2.2)
              have CM := hid (fun W (hW : Below W14.heap.size W14 W) => Match_any (bs [73, 83]) (bs (Lib.decDigits N)) (bs (dgs 2 N)) W (by rw [bs_size, ← decB_dec (by omega)]; have := dec_len N hN48; omega) (by rw [bs_size, dgs_len]; omega) (VW.out.up hW))
              simp only [bs_list, (cnt_match hN48).1, (cnt_match hN48).2] at CM
              have b2 := HB14.out.1.at (i := 2) rfl
              have hNz : ((N : Int) == 0) = false := by rw [beq_eq_false_iff_ne]; omega
              have hNy : decide ((N : Int) = 0) = false := decide_eq_false (by omega)
              clear hS hV v15 e15 V21 V14 hsl c5 hrd
              go_simp
              go_wp2_with fail
              refine wp_region_tab2 119 16 tab17 rfl rfl (by kernel_rfl) (by kernel_rfl) (by kernel_rfl) (by kernel_rfl) (by kernel_rfl) (fun W => Below W14.heap.size W14 W) (VL17 (w5.heap.size + 1) q N X.length cap5 cap9 capb a5 ad9 adb) (Below.drew (Below.refl _ _)) ?_ ?_
              · refine ⟨?_, ?_, ?_, ?_, ?_, ?_, ?_, ?_, ?_, ?_, ?_, ?_, ?_, ?_, ?_, ?_, trivial⟩
                · intro a' W hS hE hV K hK
                  have e11 : a'.tmps.getD 11 undef = .slice (some a5) 1 cap5 := hE 11 (by kernel_rfl)
                  have f11 : a'.tmps[11]?.getD undef = .slice (some a5) 1 cap5 := by rw [← Array.getD_eq_getD_getElem?]; exact e11
                  go_simp
                  exact hK _ _ hS (fun _ _ _ h => h) rfl
                · intro a' W hS hE hV K hK
                  have e94 : a'.tmps.getD 94 undef = .slice (some a5) 1 cap5 := hV 0 (by kernel_rfl) 94 (by kernel_rfl)
                  have f94 : a'.tmps[94]?.getD undef = .slice (some a5) 1 cap5 := by rw [← Array.getD_eq_getD_getElem?]; exact e94
                  go_simp
                  exact hK _ _ hS (fun _ _ _ h => h) rfl
                · intro a' W hS hE hV K hK
                  have e95 : a'.tmps.getD 95 undef = .pointer (some a5) := hV 1 (by kernel_rfl) 95 (by kernel_rfl)
                  have f95 : a'.tmps[95]?.getD undef = .pointer (some a5) := by rw [← Array.getD_eq_getD_getElem?]; exact e95
                  have c9 := C5.out W hS
                  go_simp
                  exact hK _ _ hS (fun _ _ _ h => h) rfl
                · intro a' W hS hE hV K hK
                  have e9 : a'.tmps.getD 9 undef = .slice (some ⟨w5.heap.size + 1, 0, none⟩) 3 3 := hE 9 (by kernel_rfl)
                  have f9 : a'.tmps[9]?.getD undef = .slice (some ⟨w5.heap.size + 1, 0, none⟩) 3 3 := by rw [← Array.getD_eq_getD_getElem?]; exact e9
                  go_simp
                  exact hK _ _ hS (fun _ _ _ h => h) rfl
                · intro a' W hS hE hV K hK
                  have e10 : a'.tmps.getD 10 undef = (.int .i64 (q : Nat)) := hE 10 (by kernel_rfl)
                  have f10 : a'.tmps[10]?.getD undef = (.int .i64 (q : Nat)) := by rw [← Array.getD_eq_getD_getElem?]; exact e10
                  go_simp
                  exact hK _ _ hS (fun _ _ _ h => h) rfl
                · intro a' W hS hE hV K hK
                  have e97 : a'.tmps.getD 97 undef = .slice (some ⟨w5.heap.size + 1, 0, none⟩) 3 3 := hV 3 (by kernel_rfl) 97 (by kernel_rfl)
                  have f97 : a'.tmps[97]?.getD undef = .slice (some ⟨w5.heap.size + 1, 0, none⟩) 3 3 := by rw [← Array.getD_eq_getD_getElem?]; exact e97
                  have e98 : a'.tmps.getD 98 undef = (.int .i64 (q : Nat)) := hV 4 (by kernel_rfl) 98 (by kernel_rfl)
                  have f98 : a'.tmps[98]?.getD undef = (.int .i64 (q : Nat)) := by rw [← Array.getD_eq_getD_getElem?]; exact e98
                  go_simp
                  exact hK _ _ hS (fun _ _ _ h => h) rfl
                · intro a' W hS hE hV K hK
                  have e99 : a'.tmps.getD 99 undef = .pointer (some ⟨w5.heap.size + 1, q, none⟩) := hV 5 (by kernel_rfl) 99 (by kernel_rfl)
                  have f99 : a'.tmps[99]?.getD undef = .pointer (some ⟨w5.heap.size + 1, q, none⟩) := by rw [← Array.getD_eq_getD_getElem?]; exact e99
                  have c9 := cnt_at (CR.out.keep (hS.block _ CR.out.lt)) hq3
                  go_simp
                  exact hK _ _ hS (fun _ _ _ h => h) rfl
                · intro a' W hS hE hV K hK
                  have e96 : a'.tmps.getD 96 undef = .slice ad9 X.length cap9 := hV 2 (by kernel_rfl) 96 (by kernel_rfl)
                  have f96 : a'.tmps[96]?.getD undef = .slice ad9 X.length cap9 := by rw [← Array.getD_eq_getD_getElem?]; exact e96
                  have e100 : a'.tmps.getD 100 undef = .int .i64 (cntT q) := hV 6 (by kernel_rfl) 100 (by kernel_rfl)
                  have f100 : a'.tmps[100]?.getD undef = .int .i64 (cntT q) := by rw [← Array.getD_eq_getD_getElem?]; exact e100
                  go_simp
                  refine (CT.out W hS).mono ?_
                  rintro e9 W9 ⟨rfl, rfl⟩
                  exact hK _ _ hS (fun _ _ _ h => h) rfl
                · intro a' W hS hE hV K hK
                  have e12 : a'.tmps.getD 12 undef = .slice adb N capb := hE 12 (by kernel_rfl)
                  have f12 : a'.tmps[12]?.getD undef = .slice adb N capb := by rw [← Array.getD_eq_getD_getElem?]; exact e12
                  go_simp
                  exact hK _ _ hS (fun _ _ _ h => h) rfl
                · intro a' W hS hE hV K hK
                  have e102 : a'.tmps.getD 102 undef = .slice adb N capb := hV 8 (by kernel_rfl) 102 (by kernel_rfl)
                  have f102 : a'.tmps[102]?.getD undef = .slice adb N capb := by rw [← Array.getD_eq_getD_getElem?]; exact e102
                  go_simp
                  exact hK _ _ hS (fun _ _ _ h => h) rfl
                · intro a' W hS hE hV K hK
                  have e103 : a'.tmps.getD 103 undef = .int .i64 (N : Nat) := hV 9 (by kernel_rfl) 103 (by kernel_rfl)
                  have f103 : a'.tmps[103]?.getD undef = .int .i64 (N : Nat) := by rw [← Array.getD_eq_getD_getElem?]; exact e103
                  go_simp
                  refine (dig_det N 2 W (by omega) (by omega)).mono ?_
                  rintro e9 W9 ⟨rfl, u9⟩
                  exact hK _ _ (hS.trans (u9.mono hS.size)) (VL17.up u9) rfl
                · intro a' W hS hE hV K hK
                  have e101 : a'.tmps.getD 101 undef = .string (bs (Lib.decDigits N)) := hV 7 (by kernel_rfl) 101 (by kernel_rfl)
                  have f101 : a'.tmps[101]?.getD undef = .string (bs (Lib.decDigits N)) := by rw [← Array.getD_eq_getD_getElem?]; exact e101
                  have e104 : a'.tmps.getD 104 undef = .string (bs (dgs 2 N)) := hV 10 (by kernel_rfl) 104 (by kernel_rfl)
                  have f104 : a'.tmps[104]?.getD undef = .string (bs (dgs 2 N)) := by rw [← Array.getD_eq_getD_getElem?]; exact e104
                  go_simp
                  refine (CM.out W hS).mono ?_
                  rintro e9 W9 ⟨rfl, u9⟩
                  exact hK _ _ (hS.trans (u9.mono hS.size)) (VL17.up u9) rfl
                · intro a' W hS hE hV K hK
                  have e105 : a'.tmps.getD 105 undef = .tuple #[.bool true, .int .i64 0] := hV 11 (by kernel_rfl) 105 (by kernel_rfl)
                  have f105 : a'.tmps[105]?.getD undef = .tuple #[.bool true, .int .i64 0] := by rw [← Array.getD_eq_getD_getElem?]; exact e105
                  go_simp
                  exact hK _ _ hS (fun _ _ _ h => h) rfl
                · intro a' W hS hE hV K hK
                  have e93 : a'.tmps.getD 93 undef = .tuple #[.bool true, .int .i64 0] := hV 12 (by kernel_rfl) 93 (by kernel_rfl)
                  have f93 : a'.tmps[93]?.getD undef = .tuple #[.bool true, .int .i64 0] := by rw [← Array.getD_eq_getD_getElem?]; exact e93
                  go_simp
                  exact hK _ _ hS (fun _ _ _ h => h) rfl
                · intro a' W hS hE hV K hK
                  have e93 : a'.tmps.getD 93 undef = .tuple #[.bool true, .int .i64 0] := hV 12 (by kernel_rfl) 93 (by kernel_rfl)
                  have f93 : a'.tmps[93]?.getD undef = .tuple #[.bool true, .int .i64 0] := by rw [← Array.getD_eq_getD_getElem?]; exact e93
                  go_simp
                  exact hK _ _ hS (fun _ _ _ h => h) rfl
                · intro a' W hS hE hV K hK
                  have e106 : a'.tmps.getD 106 undef = .bool true := hV 13 (by kernel_rfl) 106 (by kernel_rfl)
                  have f106 : a'.tmps[106]?.getD undef = .bool true := by rw [← Array.getD_eq_getD_getElem?]; exact e106
                  go_simp
                  exact hK _ _ hS (fun _ _ _ h => h) rfl
              · intro vs3 W17 o9 ho9 hS hV
                obtain rfl := Option.some.inj ho9
                have v13 : vs3 13 = .bool true := hV 13 (by decide)
                have v14 : vs3 14 = .int .i64 0 := hV 14 (by decide)
                have v15 : vs3 15 = .bool true := hV 15 (by decide)
                simp only [tab17, zipT, v13, v14, v15]
                have HB17 := hid (HB14.out.up hS)
                have U17 := hid (U14.out.trans (UpB.of_below hS))
                clear hS hV v13 v14 v15
                go_simp
                go_wp2
                go_roundw
                case rel => exact ⟨q + 1, by omega, by go_num, HB17, U17⟩
                case measure => simp [intOf]; omega
        · obtain rfl : q = 3 := by omega
          go_wp2
          go_ret
          exact ⟨rfl, hb.out.2.2.2.2.2.2.2⟩
    · rename_i hHeld
      clear hHeld n0 n1 n2 n3 c4 b1
      have u2 : Below w1.heap.size w1 (w1.alloc (.cells #[.string (bs (nf 0)), .string (bs (nf 1)), .string (bs (nf 2)), .string (bs (nf 3)), .slice ads l.length caps] 61)).drew := drew_alloc w1 (.cells #[.string (bs (nf 0)), .string (bs (nf 1)), .string (bs (nf 2)), .string (bs (nf 3)), .slice ads l.length caps] 61)
      have F2 : cls (w1.alloc (.cells #[.string (bs (nf 0)), .string (bs (nf 1)), .string (bs (nf 2)), .string (bs (nf 3)), .slice ads l.length caps] 61)).drew w1.heap.size #[.string (bs (nf 0)), .string (bs (nf 1)), .string (bs (nf 2)), .string (bs (nf 3)), .slice ads l.length caps] 61 := heap_alloc_new w1 (.cells #[.string (bs (nf 0)), .string (bs (nf 1)), .string (bs (nf 2)), .string (bs (nf 3)), .slice ads l.length caps] 61)
      generalize (w1.alloc (.cells #[.string (bs (nf 0)), .string (bs (nf 1)), .string (bs (nf 2)), .string (bs (nf 3)), .slice ads l.length caps] 61)).drew = w2 at u2 F2 ⊢
      have H2 := hid (H1.out.up u2)
      have F2' := hid F2
      clear u2 F2
      go_wp2_with fail
      go_at_call 27
      refine (ktags_any w2).mono ?_
      rintro e9 w3 ⟨rfl, u3⟩
      have H3 := hid (H2.out.up u3)
      have SZ1' := Nat.lt_of_lt_of_le F2'.out.lt u3.size
      have F3 := hid (F2'.out.up u3)
      clear u3 H2 F2'
      go_wp2_with fail
      have T4 : cls (w3.alloc (.cells #[.int .i64 1048608, .int .i64 2097165, .int .i64 2097166, .int .i64 524312] 66)) w3.heap.size #[.int .i64 1048608, .int .i64 2097165, .int .i64 2097166, .int .i64 524312] 66 := heap_alloc_new _ _
      have u4 := Below.alloc (Below.refl w3.heap.size w3) (Nat.le_refl _) (.cells #[.int .i64 1048608, .int .i64 2097165, .int .i64 2097166, .int .i64 524312] 66)
      have H4 := hid (H3.out.up u4)
      have F4 := hid (F3.out.up u4)
      clear u4 H3 F3
      generalize w3.alloc (.cells #[.int .i64 1048608, .int .i64 2097165, .int .i64 2097166, .int .i64 524312] 66) = w4 at T4 H4 F4 ⊢
      go_at_call 28
      refine (kkinds_any w4).mono ?_
      rintro e9 w5 ⟨rfl, u5⟩
      have H5 := hid (H4.out.up u5)
      have SZ1 := hid SZ1'
      have SZ2 := hid (Nat.lt_of_lt_of_le T4.lt u5.size)
      clear SZ1'
      have F5 := hid (F4.out.up u5)
      have T5 := hid (T4.up u5)
      clear u5 H4 F4 T4
      go_wp2_with fail
      have u6 := Below.alloc (Below.alloc (Below.refl w5.heap.size w5) (Nat.le_refl _) (.cells #[.string ⟨#[76, 79]⟩, .string ⟨#[85, 73]⟩, .string ⟨#[85, 73]⟩, .string ⟨#[85, 73]⟩] 58)) (by simp) (.cells #[.int .i64 2101760, .int .i64 2101766, .int .i64 2101769] 3)
      have K6 : cls ((w5.alloc (.cells #[.string ⟨#[76, 79]⟩, .string ⟨#[85, 73]⟩, .string ⟨#[85, 73]⟩, .string ⟨#[85, 73]⟩] 58)).alloc (.cells #[.int .i64 2101760, .int .i64 2101766, .int .i64 2101769] 3)) w5.heap.size #[.string ⟨#[76, 79]⟩, .string ⟨#[85, 73]⟩, .string ⟨#[85, 73]⟩, .string ⟨#[85, 73]⟩] 58 := (Below.heap_alloc _ _ _ (by simp)).trans (heap_alloc_new _ _)
      have C6 : cls ((w5.alloc (.cells #[.string ⟨#[76, 79]⟩, .string ⟨#[85, 73]⟩, .string ⟨#[85, 73]⟩, .string ⟨#[85, 73]⟩] 58)).alloc (.cells #[.int .i64 2101760, .int .i64 2101766, .int .i64 2101769] 3)) (w5.heap.size + 1) #[.int .i64 2101760, .int .i64 2101766, .int .i64 2101769] 3 := by
        have := heap_alloc_new (w5.alloc (.cells #[.string ⟨#[76, 79]⟩, .string ⟨#[85, 73]⟩, .string ⟨#[85, 73]⟩, .string ⟨#[85, 73]⟩] 58)) (.cells #[.int .i64 2101760, .int .i64 2101766, .int .i64 2101769] 3)
        rw [World.size_alloc] at this
        exact this
      generalize (w5.alloc (.cells #[.string ⟨#[76, 79]⟩, .string ⟨#[85, 73]⟩, .string ⟨#[85, 73]⟩, .string ⟨#[85, 73]⟩] 58)).alloc (.cells #[.int .i64 2101760, .int .i64 2101766, .int .i64 2101769] 3) = w6 at u6 K6 C6 ⊢
      have H6 := hid (H5.out.up u6)
      have F6 := hid (F5.out.up u6)
      have T6 := hid (T5.out.up u6)
      have K6' := hid K6
      have C6' := hid C6
      have hB1 := H1.out.1.lt
      have hs6 := hid (show w1.heap.size < w6.heap.size ∧ w3.heap.size < w6.heap.size ∧ w5.heap.size + 1 < w6.heap.size ∧ w1.heap.size < w3.heap.size ∧ w3.heap.size < w5.heap.size from ⟨F6.out.lt, T6.out.lt, C6.lt, SZ1.out, SZ2.out⟩)
      clear u6 K6 C6 H5 F5 T5
      go_loopw [10] (fun i wr => ∃ q : Nat, q ≤ 3 ∧ i = .int .i64 q ∧ Hid (BkI w wr B a m T F G (.slice (some ⟨gf, 0, none⟩) A.length capf) A A) ∧ Hid (UpB B w6 wr)) (fun i _ => 3 - (intOf i).toNat)
      case atStart => exact ⟨0, by omega, rfl, H6, UpB.refl _ _⟩
      case round =>
        obtain ⟨q, hq, rfl, hb, hU⟩ := hrel
        by_cases hq3 : q < 3
        · obtain ⟨z1, z2, z3, z4, z5⟩ := hs6.out
          have hz6 := hU.out.size
          have hnF : w1.heap.size ≠ B := by omega
          have hnT : w3.heap.size ≠ B := by omega
          have hnK : w5.heap.size ≠ B := by omega
          have hnC : w5.heap.size + 1 ≠ B := by omega
          have FR := hid (F6.out.keep (hU.out.block z1 hnF))
          have TR := hid (T6.out.keep (hU.out.block z2 hnT))
          have KR := hid (K6'.out.keep (hU.out.block (by omega) hnK))
          have CR := hid (C6'.out.keep (hU.out.block z3 hnC))
          have hq4 : q < 4 := by omega
          have hq5 : q + 1 < 4 := by omega
          have hqi : (q : Int) < 4 := by omega
          have hqj : (q : Int) < 3 := by omega
          have HNF := hid (show NfOk q nf from fun i hi => by rw [HNE.out]; exact desc_nm (HD.out l HL.out) (by omega))
          have HNF2 := hid (show NfOk (q + 1) nf from fun i hi => by rw [HNE.out]; exact desc_nm (HD.out l HL.out) (by omega))
          have HOX := hid (ownQ_ok (nf := nf) hq3 (fun i hi => by rw [HNE.out]; exact desc_nm (HD.out l HL.out) hi))
          have HSX := hid (subQ_ok hq5)
          have hBN : B < wr.heap.size := by omega
          go_wp2_with fail
          refine wp_region_tab 119 22 tab13 rfl rfl (by kernel_rfl) (by kernel_rfl) (by kernel_rfl) (by kernel_rfl) (by kernel_rfl) (fun W => BkI w W B a m T F G (.slice (some ⟨gf, 0, none⟩) A.length capf) A A ∧ UpB B wr W) (VL13 B w1.heap.size w3.heap.size w5.heap.size (w5.heap.size + 1) q wr.heap.size nf (.slice ads l.length caps) (ansS A q (askQ q nf (ownQ q nf)))) ⟨hb.out.up (Below.drew (Below.refl _ _)), UpB.drew (UpB.refl _ _)⟩ ?_ ?_
          · refine ⟨?_, ?_, ?_, ?_, ?_, ?_, ?_, ?_, ?_, ?_, ?_, ?_, ?_, ?_, ?_, ?_, ?_, ?_, ?_, ?_, ?_, ?_, trivial⟩
            · intro a' W hS hE hV K hK
              have e5 : a'.tmps.getD 5 undef = .pointer (some ⟨B, 0, none⟩) := hE 5 (by kernel_rfl)
              have f5 : a'.tmps[5]?.getD undef = .pointer (some ⟨B, 0, none⟩) := by rw [← Array.getD_eq_getD_getElem?]; exact e5
              go_simp
              exact hK _ _ hS (fun _ _ _ h => h) rfl
            · intro a' W hS hE hV K hK
              have e10 : a'.tmps.getD 10 undef = (.int .i64 (q : Nat)) := hE 10 (by kernel_rfl)
              have f10 : a'.tmps[10]?.getD undef = (.int .i64 (q : Nat)) := by rw [← Array.getD_eq_getD_getElem?]; exact e10
              go_simp
              exact hK _ _ hS (fun _ _ _ h => h) rfl
            · intro a' W hS hE hV K hK
              have e6 : a'.tmps.getD 6 undef = .pointer (some ⟨w1.heap.size, 0, none⟩) := hE 6 (by kernel_rfl)
              have f6 : a'.tmps[6]?.getD undef = .pointer (some ⟨w1.heap.size, 0, none⟩) := by rw [← Array.getD_eq_getD_getElem?]; exact e6
              have FW := FR.out.keep (hS.2.block FR.out.lt hnF)
              have m0 := FW.at (i := 0) rfl
              have m1 := FW.at (i := 1) rfl
              have m2 := FW.at (i := 2) rfl
              have m3 := FW.at (i := 3) rfl
              have m4 := FW.at (i := 4) rfl
              go_simp
              exact hK _ _ hS (fun _ _ _ h => h) rfl
            · intro a' W hS hE hV K hK
              have e10 : a'.tmps.getD 10 undef = (.int .i64 (q : Nat)) := hE 10 (by kernel_rfl)
              have f10 : a'.tmps[10]?.getD undef = (.int .i64 (q : Nat)) := by rw [← Array.getD_eq_getD_getElem?]; exact e10
              go_simp
              exact hK _ _ hS (fun _ _ _ h => h) rfl
            · intro a' W hS hE hV K hK
              have e7 : a'.tmps.getD 7 undef = .pointer (some ⟨w3.heap.size, 0, none⟩) := hE 7 (by kernel_rfl)
              have f7 : a'.tmps[7]?.getD undef = .pointer (some ⟨w3.heap.size, 0, none⟩) := by rw [← Array.getD_eq_getD_getElem?]; exact e7
              have e48 : a'.tmps.getD 48 undef = (.int .i64 (q : Nat)) := hV 3 (by kernel_rfl) 48 (by kernel_rfl)
              have f48 : a'.tmps[48]?.getD undef = (.int .i64 (q : Nat)) := by rw [← Array.getD_eq_getD_getElem?]; exact e48
              go_simp
              exact hK _ _ hS (fun _ _ _ h => h) rfl
            · intro a' W hS hE hV K hK
              have e49 : a'.tmps.getD 49 undef = .pointer (some ⟨w3.heap.size, q, none⟩) := hV 4 (by kernel_rfl) 49 (by kernel_rfl)
              have f49 : a'.tmps[49]?.getD undef = .pointer (some ⟨w3.heap.size, q, none⟩) := by rw [← Array.getD_eq_getD_getElem?]; exact e49
              have c9 := ask_tag (TR.out.keep (hS.2.block TR.out.lt hnT)) hq4
              go_simp
              exact hK _ _ hS (fun _ _ _ h => h) rfl
            · intro a' W hS hE hV K hK
              have e10 : a'.tmps.getD 10 undef = (.int .i64 (q : Nat)) := hE 10 (by kernel_rfl)
              have f10 : a'.tmps[10]?.getD undef = (.int .i64 (q : Nat)) := by rw [← Array.getD_eq_getD_getElem?]; exact e10
              go_simp
              exact hK _ _ hS (fun _ _ _ h => h) rfl
            · intro a' W hS hE hV K hK
              have e8 : a'.tmps.getD 8 undef = .pointer (some ⟨w5.heap.size, 0, none⟩) := hE 8 (by kernel_rfl)
              have f8 : a'.tmps[8]?.getD undef = .pointer (some ⟨w5.heap.size, 0, none⟩) := by rw [← Array.getD_eq_getD_getElem?]; exact e8
              have e51 : a'.tmps.getD 51 undef = (.int .i64 (q : Nat)) := hV 6 (by kernel_rfl) 51 (by kernel_rfl)
              have f51 : a'.tmps[51]?.getD undef = (.int .i64 (q : Nat)) := by rw [← Array.getD_eq_getD_getElem?]; exact e51
              go_simp
              exact hK _ _ hS (fun _ _ _ h => h) rfl
            · intro a' W hS hE hV K hK
              have e52 : a'.tmps.getD 52 undef = .pointer (some ⟨w5.heap.size, q, none⟩) := hV 7 (by kernel_rfl) 52 (by kernel_rfl)
              have f52 : a'.tmps[52]?.getD undef = .pointer (some ⟨w5.heap.size, q, none⟩) := by rw [← Array.getD_eq_getD_getElem?]; exact e52
              have c9 := ask_kind (KR.out.keep (hS.2.block KR.out.lt hnK)) hq4
              go_simp
              exact hK _ _ hS (fun _ _ _ h => h) rfl
            · intro a' W hS hE hV K hK
              have e10 : a'.tmps.getD 10 undef = (.int .i64 (q : Nat)) := hE 10 (by kernel_rfl)
              have f10 : a'.tmps[10]?.getD undef = (.int .i64 (q : Nat)) := by rw [← Array.getD_eq_getD_getElem?]; exact e10
              go_simp
              exact hK _ _ hS (fun _ _ _ h => h) rfl
            · intro a' W hS hE hV K hK
              have e6 : a'.tmps.getD 6 undef = .pointer (some ⟨w1.heap.size, 0, none⟩) := hE 6 (by kernel_rfl)
              have f6 : a'.tmps[6]?.getD undef = .pointer (some ⟨w1.heap.size, 0, none⟩) := by rw [← Array.getD_eq_getD_getElem?]; exact e6
              go_simp
              exact hK _ _ hS (fun _ _ _ h => h) rfl
            · intro a' W hS hE hV K hK
              have e55 : a'.tmps.getD 55 undef = .pointer (some ⟨w1.heap.size, 0, none⟩) := hV 10 (by kernel_rfl) 55 (by kernel_rfl)
              have f55 : a'.tmps[55]?.getD undef = .pointer (some ⟨w1.heap.size, 0, none⟩) := by rw [← Array.getD_eq_getD_getElem?]; exact e55
              have e54 : a'.tmps.getD 54 undef = (.int .i64 (q : Nat)) := hV 9 (by kernel_rfl) 54 (by kernel_rfl)
              have f54 : a'.tmps[54]?.getD undef = (.int .i64 (q : Nat)) := by rw [← Array.getD_eq_getD_getElem?]; exact e54
              go_simp
              exact hK _ _ hS (fun _ _ _ h => h) rfl
            · intro a' W hS hE hV K hK
              have e56 : a'.tmps.getD 56 undef = .pointer (some ⟨w1.heap.size, q, none⟩) := hV 11 (by kernel_rfl) 56 (by kernel_rfl)
              have f56 : a'.tmps[56]?.getD undef = .pointer (some ⟨w1.heap.size, q, none⟩) := by rw [← Array.getD_eq_getD_getElem?]; exact e56
              have c9 := ask_name (nf := nf) (FR.out.keep (hS.2.block FR.out.lt hnF)) hq4
              go_simp
              exact hK _ _ hS (fun _ _ _ h => h) rfl
            · intro a' W hS hE hV K hK
              have e50 : a'.tmps.getD 50 undef = .int .i64 (nameT q) := hV 5 (by kernel_rfl) 50 (by kernel_rfl)
              have f50 : a'.tmps[50]?.getD undef = .int .i64 (nameT q) := by rw [← Array.getD_eq_getD_getElem?]; exact e50
              have e53 : a'.tmps.getD 53 undef = .string (bs (kindT (nameT q))) := hV 8 (by kernel_rfl) 53 (by kernel_rfl)
              have f53 : a'.tmps[53]?.getD undef = .string (bs (kindT (nameT q))) := by rw [← Array.getD_eq_getD_getElem?]; exact e53
              have e57 : a'.tmps.getD 57 undef = .string (bs (nf q)) := hV 12 (by kernel_rfl) 57 (by kernel_rfl)
              have f57 : a'.tmps[57]?.getD undef = .string (bs (nf q)) := by rw [← Array.getD_eq_getD_getElem?]; exact e57
              go_simp
              exact hK _ _ hS (fun _ _ _ h => h) rfl
            · intro a' W hS hE hV K hK
              have e9 : a'.tmps.getD 9 undef = .slice (some ⟨w5.heap.size + 1, 0, none⟩) 3 3 := hE 9 (by kernel_rfl)
              have f9 : a'.tmps[9]?.getD undef = .slice (some ⟨w5.heap.size + 1, 0, none⟩) 3 3 := by rw [← Array.getD_eq_getD_getElem?]; exact e9
              go_simp
              exact hK _ _ hS (fun _ _ _ h => h) rfl
            · intro a' W hS hE hV K hK
              have e10 : a'.tmps.getD 10 undef = (.int .i64 (q : Nat)) := hE 10 (by kernel_rfl)
              have f10 : a'.tmps[10]?.getD undef = (.int .i64 (q : Nat)) := by rw [← Array.getD_eq_getD_getElem?]; exact e10
              go_simp
              exact hK _ _ hS (fun _ _ _ h => h) rfl
            · intro a' W hS hE hV K hK
              have e59 : a'.tmps.getD 59 undef = .slice (some ⟨w5.heap.size + 1, 0, none⟩) 3 3 := hV 14 (by kernel_rfl) 59 (by kernel_rfl)
              have f59 : a'.tmps[59]?.getD undef = .slice (some ⟨w5.heap.size + 1, 0, none⟩) 3 3 := by rw [← Array.getD_eq_getD_getElem?]; exact e59
              have e60 : a'.tmps.getD 60 undef = (.int .i64 (q : Nat)) := hV 15 (by kernel_rfl) 60 (by kernel_rfl)
              have f60 : a'.tmps[60]?.getD undef = (.int .i64 (q : Nat)) := by rw [← Array.getD_eq_getD_getElem?]; exact e60
              go_simp
              exact hK _ _ hS (fun _ _ _ h => h) rfl
            · intro a' W hS hE hV K hK
              have e61 : a'.tmps.getD 61 undef = .pointer (some ⟨w5.heap.size + 1, q, none⟩) := hV 16 (by kernel_rfl) 61 (by kernel_rfl)
              have f61 : a'.tmps[61]?.getD undef = .pointer (some ⟨w5.heap.size + 1, q, none⟩) := by rw [← Array.getD_eq_getD_getElem?]; exact e61
              have c9 := cnt_at (CR.out.keep (hS.2.block CR.out.lt hnC)) hq3
              go_simp
              exact hK _ _ hS (fun _ _ _ h => h) rfl
            · intro a' W hS hE hV K hK
              have e62 : a'.tmps.getD 62 undef = .int .i64 (cntT q) := hV 17 (by kernel_rfl) 62 (by kernel_rfl)
              have f62 : a'.tmps[62]?.getD undef = .int .i64 (cntT q) := by rw [← Array.getD_eq_getD_getElem?]; exact e62
              go_simp
              exact hK _ _ hS (fun _ _ _ h => h) rfl
            · intro a' W hS hE hV K hK
              have e58 : a'.tmps.getD 58 undef = .agg #[.int .i64 (nameT q), .string (bs (kindT (nameT q))), .string (bs (nf q)), .slice none 0 0] := hV 13 (by kernel_rfl) 58 (by kernel_rfl)
              have f58 : a'.tmps[58]?.getD undef = .agg #[.int .i64 (nameT q), .string (bs (kindT (nameT q))), .string (bs (nf q)), .slice none 0 0] := by rw [← Array.getD_eq_getD_getElem?]; exact e58
              have e63 : a'.tmps.getD 63 undef = .agg #[.int .i64 (cntT q), .string ⟨#[73, 83]⟩, .string ⟨#[]⟩, .slice none 0 0] := hV 18 (by kernel_rfl) 63 (by kernel_rfl)
              have f63 : a'.tmps[63]?.getD undef = .agg #[.int .i64 (cntT q), .string ⟨#[73, 83]⟩, .string ⟨#[]⟩, .slice none 0 0] := by rw [← Array.getD_eq_getD_getElem?]; exact e63
              go_simp
              exact hK _ _ ⟨hS.1.up (Below.alloc (Below.refl _ _) (Nat.le_refl _) _), hS.2.alloc _⟩ (VL13.up (by simp) (fun j _ hj => Below.heap_alloc _ _ _ hj)) ⟨W.heap.size, rfl, hS.2.size, heap_alloc_new _ _⟩
            · intro a' W hS hE hV K hK
              have e46 : a'.tmps.getD 46 undef = (.int .i64 (q : Nat)) := hV 1 (by kernel_rfl) 46 (by kernel_rfl)
              have f46 : a'.tmps[46]?.getD undef = (.int .i64 (q : Nat)) := by rw [← Array.getD_eq_getD_getElem?]; exact e46
              have e47 : a'.tmps.getD 47 undef = .agg #[.string (bs (nf 0)), .string (bs (nf 1)), .string (bs (nf 2)), .string (bs (nf 3)), .slice ads l.length caps] := hV 2 (by kernel_rfl) 47 (by kernel_rfl)
              have f47 : a'.tmps[47]?.getD undef = .agg #[.string (bs (nf 0)), .string (bs (nf 1)), .string (bs (nf 2)), .string (bs (nf 3)), .slice ads l.length caps] := by rw [← Array.getD_eq_getD_getElem?]; exact e47
              obtain ⟨b, e64, hb1, hb2⟩ : ∃ b, a'.tmps.getD 64 undef = .slice (some ⟨b, 0, none⟩) 2 2 ∧ wr.heap.size ≤ b ∧ cls W b #[.int .i64 (nameT q), .string (bs (kindT (nameT q))), .string (bs (nf q)), .slice none 0 0, .int .i64 (cntT q), .string ⟨#[73, 83]⟩, .string ⟨#[]⟩, .slice none 0 0] 73 := hV 19 (by kernel_rfl) 64 (by kernel_rfl)
              have f64 : a'.tmps[64]?.getD undef = _ := (Array.getD_eq_getD_getElem? ..).symm.trans e64
              go_simp
              refine (asked_any q hq4 nf (.slice ads l.length caps) (fun j => j = b) W ⟨b, 0, none⟩ 2 2 (ownQ q nf) (el_rd2 hb2 rfl) (fun j hj => by rw [hj]; exact hb2.lt) HNF.out HOX.out.1).mono ?_
              rintro e9 W9 ⟨rfl, u9⟩
              exact hK _ _ ⟨hS.1.up u9, hS.2.trans (UpB.of_below u9)⟩ (VL13.up u9.size (fun j _ hj => u9.block j hj)) rfl
            · intro a' W hS hE hV K hK
              have e45 : a'.tmps.getD 45 undef = .pointer (some ⟨B, 0, none⟩) := hV 0 (by kernel_rfl) 45 (by kernel_rfl)
              have f45 : a'.tmps[45]?.getD undef = .pointer (some ⟨B, 0, none⟩) := by rw [← Array.getD_eq_getD_getElem?]; exact e45
              have e65 : a'.tmps.getD 65 undef = .string (bs (wrS false 0 3 (askQ q nf (ownQ q nf)))) := hV 20 (by kernel_rfl) 65 (by kernel_rfl)
              have f65 : a'.tmps[65]?.getD undef = .string (bs (wrS false 0 3 (askQ q nf (ownQ q nf)))) := by rw [← Array.getD_eq_getD_getElem?]; exact e65
              go_simp
              refine (book_answers hS.1 HG.out HV.out hq4 HNF.out HOX.out.1 HOX.out.2).mono ?_
              rintro e9 W9 ⟨v9, rfl, u9, hb9, hr9⟩
              exact hK _ _ ⟨hb9, hS.2.trans u9⟩ (VL13.up u9.size (fun j hj hl => u9.block hl (by omega))) (show RdI W9 (fun j => wr.heap.size ≤ j ∧ j < W9.heap.size) 3 v9 _ from hr9.keep (fun j hj => ⟨Nat.le_trans hS.2.size hj.1, hj.2⟩) (fun _ _ _ => rfl))
          · intro vs W13 o9 ho9 hS hV
            obtain rfl := Option.some.inj ho9
            have v21 : RdI W13 (fun j => wr.heap.size ≤ j ∧ j < W13.heap.size) 3 (vs 21) (ansS A q (askQ q nf (ownQ q nf))) := hV 21 (by decide)
            rw [HNE.out, own_one HG.out HD.out HL.out hq3] at v21
            obtain ⟨ad5, cap5, e21⟩ := v21.slice
            rw [List.length_singleton] at e21
            rw [e21] at v21
            simp only [tab13, zipT, e21]
            have HB13 := hid hS.1
            have U13 := hid (hU.out.trans hS.2)
            have V21 := hid v21
            have FR := hid (FR.out.keep (hS.2.block FR.out.lt hnF))
            have TR := hid (TR.out.keep (hS.2.block TR.out.lt hnT))
            have KR := hid (KR.out.keep (hS.2.block KR.out.lt hnK))
            have CR := hid (CR.out.keep (hS.2.block CR.out.lt hnC))
            have hBN13 : B < W13.heap.size := by have := hS.2.size; omega
            clear hS hV v21 e21
            go_simp
            go_wp2_with fail
            refine wp_region_tab 119 16 tab14c rfl rfl (by kernel_rfl) (by kernel_rfl) (by kernel_rfl) (by kernel_rfl) (by kernel_rfl) (fun W => BkI w W B a m T F G (.slice (some ⟨gf, 0, none⟩) A.length capf) A A ∧ UpB B W13 W) (VL14c B w3.heap.size w5.heap.size q W13.heap.size nf (.slice ads l.length caps) (ansS A (q + 1) (askQ (q + 1) nf (subQ (q + 1))))) ⟨HB13.out.up (Below.drew (Below.refl _ _)), UpB.drew (UpB.refl _ _)⟩ ?_ ?_
            · refine ⟨?_, ?_, ?_, ?_, ?_, ?_, ?_, ?_, ?_, ?_, ?_, ?_, ?_, ?_, ?_, ?_, trivial⟩
              · intro a' W hS hE hV K hK
                have e5 : a'.tmps.getD 5 undef = .pointer (some ⟨B, 0, none⟩) := hE 5 (by kernel_rfl)
                have f5 : a'.tmps[5]?.getD undef = .pointer (some ⟨B, 0, none⟩) := by rw [← Array.getD_eq_getD_getElem?]; exact e5
                go_simp
                exact hK _ _ hS (fun _ _ _ h => h) rfl
              · intro a' W hS hE hV K hK
                have e10 : a'.tmps.getD 10 undef = (.int .i64 (q : Nat)) := hE 10 (by kernel_rfl)
                have f10 : a'.tmps[10]?.getD undef = (.int .i64 (q : Nat)) := by rw [← Array.getD_eq_getD_getElem?]; exact e10
                go_simp
                exact hK _ _ hS (fun _ _ _ h => h) rfl
              · intro a' W hS hE hV K hK
                have e68 : a'.tmps.getD 68 undef = (.int .i64 (q : Nat)) := hV 1 (by kernel_rfl) 68 (by kernel_rfl)
                have f68 : a'.tmps[68]?.getD undef = (.int .i64 (q : Nat)) := by rw [← Array.getD_eq_getD_getElem?]; exact e68
                have w9 : IntKind.i64.wrap ((q : Int) + 1) = (q : Int) + 1 := by rw [IntKind.wrap_i64]; omega
                go_simp
                exact hK _ _ hS (fun _ _ _ h => h) rfl
              · intro a' W hS hE hV K hK
                have e6 : a'.tmps.getD 6 undef = .pointer (some ⟨w1.heap.size, 0, none⟩) := hE 6 (by kernel_rfl)
                have f6 : a'.tmps[6]?.getD undef = .pointer (some ⟨w1.heap.size, 0, none⟩) := by rw [← Array.getD_eq_getD_getElem?]; exact e6
                have FW := FR.out.keep (hS.2.block FR.out.lt hnF)
                have m0 := FW.at (i := 0) rfl
                have m1 := FW.at (i := 1) rfl
                have m2 := FW.at (i := 2) rfl
                have m3 := FW.at (i := 3) rfl
                have m4 := FW.at (i := 4) rfl
                go_simp
                exact hK _ _ hS (fun _ _ _ h => h) rfl
              · intro a' W hS hE hV K hK
                have e10 : a'.tmps.getD 10 undef = (.int .i64 (q : Nat)) := hE 10 (by kernel_rfl)
                have f10 : a'.tmps[10]?.getD undef = (.int .i64 (q : Nat)) := by rw [← Array.getD_eq_getD_getElem?]; exact e10
                go_simp
                exact hK _ _ hS (fun _ _ _ h => h) rfl
              · intro a' W hS hE hV K hK
                have e71 : a'.tmps.getD 71 undef = (.int .i64 (q : Nat)) := hV 4 (by kernel_rfl) 71 (by kernel_rfl)
                have f71 : a'.tmps[71]?.getD undef = (.int .i64 (q : Nat)) := by rw [← Array.getD_eq_getD_getElem?]; exact e71
                have w9 : IntKind.i64.wrap ((q : Int) + 1) = (q : Int) + 1 := by rw [IntKind.wrap_i64]; omega
                go_simp
                exact hK _ _ hS (fun _ _ _ h => h) rfl
              · intro a' W hS hE hV K hK
                have e7 : a'.tmps.getD 7 undef = .pointer (some ⟨w3.heap.size, 0, none⟩) := hE 7 (by kernel_rfl)
                have f7 : a'.tmps[7]?.getD undef = .pointer (some ⟨w3.heap.size, 0, none⟩) := by rw [← Array.getD_eq_getD_getElem?]; exact e7
                have e72 : a'.tmps.getD 72 undef = (.int .i64 ((q : Int) + 1)) := hV 5 (by kernel_rfl) 72 (by kernel_rfl)
                have f72 : a'.tmps[72]?.getD undef = (.int .i64 ((q : Int) + 1)) := by rw [← Array.getD_eq_getD_getElem?]; exact e72
                have i8 : (0 : Int) ≤ (q : Int) + 1 := by omega
                have i9 : (q : Int) + 1 < 4 := by omega
                have i7 : ((q : Int) + 1).toNat = q + 1 := by omega
                go_simp
                exact hK _ _ hS (fun _ _ _ h => h) rfl
              · intro a' W hS hE hV K hK
                have e73 : a'.tmps.getD 73 undef = .pointer (some ⟨w3.heap.size, q + 1, none⟩) := hV 6 (by kernel_rfl) 73 (by kernel_rfl)
                have f73 : a'.tmps[73]?.getD undef = .pointer (some ⟨w3.heap.size, q + 1, none⟩) := by rw [← Array.getD_eq_getD_getElem?]; exact e73
                have c9 := ask_tag (TR.out.keep (hS.2.block TR.out.lt hnT)) hq5
                go_simp
                exact hK _ _ hS (fun _ _ _ h => h) rfl
              · intro a' W hS hE hV K hK
                have e10 : a'.tmps.getD 10 undef = (.int .i64 (q : Nat)) := hE 10 (by kernel_rfl)
                have f10 : a'.tmps[10]?.getD undef = (.int .i64 (q : Nat)) := by rw [← Array.getD_eq_getD_getElem?]; exact e10
                go_simp
                exact hK _ _ hS (fun _ _ _ h => h) rfl
              · intro a' W hS hE hV K hK
                have e75 : a'.tmps.getD 75 undef = (.int .i64 (q : Nat)) := hV 8 (by kernel_rfl) 75 (by kernel_rfl)
                have f75 : a'.tmps[75]?.getD undef = (.int .i64 (q : Nat)) := by rw [← Array.getD_eq_getD_getElem?]; exact e75
                have w9 : IntKind.i64.wrap ((q : Int) + 1) = (q : Int) + 1 := by rw [IntKind.wrap_i64]; omega
                go_simp
                exact hK _ _ hS (fun _ _ _ h => h) rfl
              · intro a' W hS hE hV K hK
                have e8 : a'.tmps.getD 8 undef = .pointer (some ⟨w5.heap.size, 0, none⟩) := hE 8 (by kernel_rfl)
                have f8 : a'.tmps[8]?.getD undef = .pointer (some ⟨w5.heap.size, 0, none⟩) := by rw [← Array.getD_eq_getD_getElem?]; exact e8
                have e76 : a'.tmps.getD 76 undef = (.int .i64 ((q : Int) + 1)) := hV 9 (by kernel_rfl) 76 (by kernel_rfl)
                have f76 : a'.tmps[76]?.getD undef = (.int .i64 ((q : Int) + 1)) := by rw [← Array.getD_eq_getD_getElem?]; exact e76
                have i8 : (0 : Int) ≤ (q : Int) + 1 := by omega
                have i9 : (q : Int) + 1 < 4 := by omega
                have i7 : ((q : Int) + 1).toNat = q + 1 := by omega
                go_simp
                exact hK _ _ hS (fun _ _ _ h => h) rfl
              · intro a' W hS hE hV K hK
                have e77 : a'.tmps.getD 77 undef = .pointer (some ⟨w5.heap.size, q + 1, none⟩) := hV 10 (by kernel_rfl) 77 (by kernel_rfl)
                have f77 : a'.tmps[77]?.getD undef = .pointer (some ⟨w5.heap.size, q + 1, none⟩) := by rw [← Array.getD_eq_getD_getElem?]; exact e77
                have c9 := ask_kind (KR.out.keep (hS.2.block KR.out.lt hnK)) hq5
                go_simp
                exact hK _ _ hS (fun _ _ _ h => h) rfl
              · intro a' W hS hE hV K hK
                have e74 : a'.tmps.getD 74 undef = .int .i64 (nameT (q + 1)) := hV 7 (by kernel_rfl) 74 (by kernel_rfl)
                have f74 : a'.tmps[74]?.getD undef = .int .i64 (nameT (q + 1)) := by rw [← Array.getD_eq_getD_getElem?]; exact e74
                have e78 : a'.tmps.getD 78 undef = .string (bs (kindT (nameT (q + 1)))) := hV 11 (by kernel_rfl) 78 (by kernel_rfl)
                have f78 : a'.tmps[78]?.getD undef = .string (bs (kindT (nameT (q + 1)))) := by rw [← Array.getD_eq_getD_getElem?]; exact e78
                go_simp
                exact hK _ _ hS (fun _ _ _ h => h) rfl
              · intro a' W hS hE hV K hK
                have e79 : a'.tmps.getD 79 undef = .agg #[.int .i64 (nameT (q + 1)), .string (bs (kindT (nameT (q + 1)))), .string ⟨#[]⟩, .slice none 0 0] := hV 12 (by kernel_rfl) 79 (by kernel_rfl)
                have f79 : a'.tmps[79]?.getD undef = .agg #[.int .i64 (nameT (q + 1)), .string (bs (kindT (nameT (q + 1)))), .string ⟨#[]⟩, .slice none 0 0] := by rw [← Array.getD_eq_getD_getElem?]; exact e79
                go_simp
                exact hK _ _ ⟨hS.1.up (Below.alloc (Below.refl _ _) (Nat.le_refl _) _), hS.2.alloc _⟩ (VL14c.up (by simp) (fun j _ hj => Below.heap_alloc _ _ _ hj)) ⟨W.heap.size, rfl, hS.2.size, heap_alloc_new _ _⟩
              · intro a' W hS hE hV K hK
                have e69 : a'.tmps.getD 69 undef = (.int .i64 ((q : Int) + 1)) := hV 2 (by kernel_rfl) 69 (by kernel_rfl)
                have f69 : a'.tmps[69]?.getD undef = (.int .i64 ((q : Int) + 1)) := by rw [← Array.getD_eq_getD_getElem?]; exact e69
                have e70 : a'.tmps.getD 70 undef = .agg #[.string (bs (nf 0)), .string (bs (nf 1)), .string (bs (nf 2)), .string (bs (nf 3)), .slice ads l.length caps] := hV 3 (by kernel_rfl) 70 (by kernel_rfl)
                have f70 : a'.tmps[70]?.getD undef = .agg #[.string (bs (nf 0)), .string (bs (nf 1)), .string (bs (nf 2)), .string (bs (nf 3)), .slice ads l.length caps] := by rw [← Array.getD_eq_getD_getElem?]; exact e70
                obtain ⟨b, e80, hb1, hb2⟩ : ∃ b, a'.tmps.getD 80 undef = .slice (some ⟨b, 0, none⟩) 1 1 ∧ W13.heap.size ≤ b ∧ cls W b #[.int .i64 (nameT (q + 1)), .string (bs (kindT (nameT (q + 1)))), .string ⟨#[]⟩, .slice none 0 0] 73 := hV 13 (by kernel_rfl) 80 (by kernel_rfl)
                have f80 : a'.tmps[80]?.getD undef = _ := (Array.getD_eq_getD_getElem? ..).symm.trans e80
                go_simp
                refine (asked_any (q + 1) hq5 nf (.slice ads l.length caps) (fun j => j = b) W ⟨b, 0, none⟩ 1 1 (subQ (q + 1)) (el_rd1 hb2 rfl) (fun j hj => by rw [hj]; exact hb2.lt) HNF2.out HSX.out.1).mono ?_
                rintro e9 W9 ⟨rfl, u9⟩
                exact hK _ _ ⟨hS.1.up u9, hS.2.trans (UpB.of_below u9)⟩ (VL14c.up u9.size (fun j _ hj => u9.block j hj)) rfl
              · intro a' W hS hE hV K hK
                have e67 : a'.tmps.getD 67 undef = .pointer (some ⟨B, 0, none⟩) := hV 0 (by kernel_rfl) 67 (by kernel_rfl)
                have f67 : a'.tmps[67]?.getD undef = .pointer (some ⟨B, 0, none⟩) := by rw [← Array.getD_eq_getD_getElem?]; exact e67
                have e81 : a'.tmps.getD 81 undef = .string (bs (wrS false 0 3 (askQ (q + 1) nf (subQ (q + 1))))) := hV 14 (by kernel_rfl) 81 (by kernel_rfl)
                have f81 : a'.tmps[81]?.getD undef = .string (bs (wrS false 0 3 (askQ (q + 1) nf (subQ (q + 1))))) := by rw [← Array.getD_eq_getD_getElem?]; exact e81
                go_simp
                refine (book_answers hS.1 HG.out HV.out hq5 HNF2.out HSX.out.1 HSX.out.2).mono ?_
                rintro e9 W9 ⟨v9, rfl, u9, hb9, hr9⟩
                exact hK _ _ ⟨hb9, hS.2.trans u9⟩ (VL14c.up u9.size (fun j hj hl => u9.block hl (by omega))) (show RdI W9 (fun j => W13.heap.size ≤ j ∧ j < W9.heap.size) 3 v9 _ from hr9.keep (fun j hj => ⟨Nat.le_trans hS.2.size hj.1, hj.2⟩) (fun _ _ _ => rfl))
            · intro vs2 W14 o9 ho9 hS hV
              obtain rfl := Option.some.inj ho9
              have v15 : RdI W14 (fun j => W13.heap.size ≤ j ∧ j < W14.heap.size) 3 (vs2 15) (ansS A (q + 1) (askQ (q + 1) nf (subQ (q + 1)))) := hV 15 (by decide)
              obtain ⟨adb, capb, e15⟩ := v15.slice
              have hsl := sub_len HG.out HD.out HL.out hq3
              rw [← HNE.out] at hsl
              rw [hsl] at e15
              have hN0 := cntB_pos HL.out q
              have hN48 := Nat.le_trans (cntB_le A q (nm (n := 2) q l)) hA48
              simp only [tab14c, zipT, e15]
              have HB14 := hid hS.1
              have U14 := hid (U13.out.trans hS.2)
              have V14 := hid (show RdI W14 (fun j => wr.heap.size ≤ j ∧ j < W13.heap.size) 3 (.slice ad5 1 cap5) _ from V21.out.keep (fun _ h => h) (fun j hj hl => hS.2.block hl (by omega)))
              have CR := hid (CR.out.keep (hS.2.block CR.out.lt hnC))
              have HXT := hid (own_text (s := nm (n := 2) q l) HL.out HD.out hq3 rfl)
              have HXL := hid (show ((askQ q (fun i => nm (n := 2) i l) (ownQ q (fun i => nm (n := 2) i l))).map (ansE (gS (n := 1) A q (nm (n := 2) q l)))).length ≤ 24 from by have := (askQ_err hq4 HNF.out HOX.out.1).2.2; rw [← HNE.out, List.length_map]; omega)
              generalize (askQ q (fun i => nm (n := 2) i l) (ownQ q (fun i => nm (n := 2) i l))).map (ansE (gS (n := 1) A q (nm (n := 2) q l))) = X at V14 HXT HXL
              generalize cntB A q (nm (n := 2) q l) = N at hN0 hN48 HXT ⊢
              obtain ⟨a5, ad9, cap9, rfl, _, c5, hrd⟩ := RdI.at V14.out (i := 0) rfl
              rw [Addr.add_zero'] at c5
              have C5 := hid (fun W (hW : Below W14.heap.size W14 W) => (hW.cell (World.block_lt_of_cell? _ _ c5)).trans c5)
              have CT := hid (fun W (hW : Below W14.heap.size W14 W) => ktext_same 2 _ W _ X (cntT q) (hrd.up hW) (by have := HXL.out; omega))
              rw [HXT.out] at CT
              have VW := hid (HV.out.1.up HB14.out.2.2.2.2.2.2.2)
              have CM := hid (fun W (hW : Below W14.heap.size W14 W) => Match_any (bs [73, 83]) (bs (Lib.decDigits N)) (bs (dgs 2 N)) W (by rw [bs_size, ← decB_dec (by omega)]; have := dec_len N hN48; omega) (by rw [bs_size, dgs_len]; omega) (VW.out.up hW))
              simp only [bs_list, (cnt_match hN48).1, (cnt_match hN48).2] at CM
              have b2 := HB14.out.1.at (i := 2) rfl
              have hNz : ((N : Int) == 0) = false := by rw [beq_eq_false_iff_ne]; omega
              have hNy : decide ((N : Int) = 0) = false := decide_eq_false (by omega)
              clear hS hV v15 e15 V21 V14 hsl c5 hrd
              go_simp
              go_wp2_with fail
              refine wp_region_tab2 119 16 tab17 rfl rfl (by kernel_rfl) (by kernel_rfl) (by kernel_rfl) (by kernel_rfl) (by kernel_rfl) (fun W => Below W14.heap.size W14 W) (VL17 (w5.heap.size + 1) q N X.length cap5 cap9 capb a5 ad9 adb) (Below.drew (Below.refl _ _)) ?_ ?_
              · refine ⟨?_, ?_, ?_, ?_, ?_, ?_, ?_, ?_, ?_, ?_, ?_, ?_, ?_, ?_, ?_, ?_, trivial⟩
                · intro a' W hS hE hV K hK
                  have e11 : a'.tmps.getD 11 undef = .slice (some a5) 1 cap5 := hE 11 (by kernel_rfl)
                  have f11 : a'.tmps[11]?.getD undef = .slice (some a5) 1 cap5 := by rw [← Array.getD_eq_getD_getElem?]; exact e11
                  go_simp
                  exact hK _ _ hS (fun _ _ _ h => h) rfl
                · intro a' W hS hE hV K hK
                  have e94 : a'.tmps.getD 94 undef = .slice (some a5) 1 cap5 := hV 0 (by kernel_rfl) 94 (by kernel_rfl)
                  have f94 : a'.tmps[94]?.getD undef = .slice (some a5) 1 cap5 := by rw [← Array.getD_eq_getD_getElem?]; exact e94
                  go_simp
                  exact hK _ _ hS (fun _ _ _ h => h) rfl
                · intro a' W hS hE hV K hK
                  have e95 : a'.tmps.getD 95 undef = .pointer (some a5) := hV 1 (by kernel_rfl) 95 (by kernel_rfl)
                  have f95 : a'.tmps[95]?.getD undef = .pointer (some a5) := by rw [← Array.getD_eq_getD_getElem?]; exact e95
                  have c9 := C5.out W hS
                  go_simp
                  exact hK _ _ hS (fun _ _ _ h => h) rfl
                · intro a' W hS hE hV K hK
                  have e9 : a'.tmps.getD 9 undef = .slice (some ⟨w5.heap.size + 1, 0, none⟩) 3 3 := hE 9 (by kernel_rfl)
                  have f9 : a'.tmps[9]?.getD undef = .slice (some ⟨w5.heap.size + 1, 0, none⟩) 3 3 := by rw [← Array.getD_eq_getD_getElem?]; exact e9
                  go_simp
                  exact hK _ _ hS (fun _ _ _ h => h) rfl
                · intro a' W hS hE hV K hK
                  have e10 : a'.tmps.getD 10 undef = (.int .i64 (q : Nat)) := hE 10 (by kernel_rfl)
                  have f10 : a'.tmps[10]?.getD undef = (.int .i64 (q : Nat)) := by rw [← Array.getD_eq_getD_getElem?]; exact e10
                  go_simp
                  exact hK _ _ hS (fun _ _ _ h => h) rfl
                · intro a' W hS hE hV K hK
                  have e97 : a'.tmps.getD 97 undef = .slice (some ⟨w5.heap.size + 1, 0, none⟩) 3 3 := hV 3 (by kernel_rfl) 97 (by kernel_rfl)
                  have f97 : a'.tmps[97]?.getD undef = .slice (some ⟨w5.heap.size + 1, 0, none⟩) 3 3 := by rw [← Array.getD_eq_getD_getElem?]; exact e97
                  have e98 : a'.tmps.getD 98 undef = (.int .i64 (q : Nat)) := hV 4 (by kernel_rfl) 98 (by kernel_rfl)
                  have f98 : a'.tmps[98]?.getD undef = (.int .i64 (q : Nat)) := by rw [← Array.getD_eq_getD_getElem?]; exact e98
                  go_simp
                  exact hK _ _ hS (fun _ _ _ h => h) rfl
                · intro a' W hS hE hV K hK
                  have e99 : a'.tmps.getD 99 undef = .pointer (some ⟨w5.heap.size + 1, q, none⟩) := hV 5 (by kernel_rfl) 99 (by kernel_rfl)
                  have f99 : a'.tmps[99]?.getD undef = .pointer (some ⟨w5.heap.size + 1, q, none⟩) := by rw [← Array.getD_eq_getD_getElem?]; exact e99
                  have c9 := cnt_at (CR.out.keep (hS.block _ CR.out.lt)) hq3
                  go_simp
                  exact hK _ _ hS (fun _ _ _ h => h) rfl
                · intro a' W hS hE hV K hK
                  have e96 : a'.tmps.getD 96 undef = .slice ad9 X.length cap9 := hV 2 (by kernel_rfl) 96 (by kernel_rfl)
                  have f96 : a'.tmps[96]?.getD undef = .slice ad9 X.length cap9 := by rw [← Array.getD_eq_getD_getElem?]; exact e96
                  have e100 : a'.tmps.getD 100 undef = .int .i64 (cntT q) := hV 6 (by kernel_rfl) 100 (by kernel_rfl)
                  have f100 : a'.tmps[100]?.getD undef = .int .i64 (cntT q) := by rw [← Array.getD_eq_getD_getElem?]; exact e100
                  go_simp
                  refine (CT.out W hS).mono ?_
                  rintro e9 W9 ⟨rfl, rfl⟩
                  exact hK _ _ hS (fun _ _ _ h => h) rfl
                · intro a' W hS hE hV K hK
                  have e12 : a'.tmps.getD 12 undef = .slice adb N capb := hE 12 (by kernel_rfl)
                  have f12 : a'.tmps[12]?.getD undef = .slice adb N capb := by rw [← Array.getD_eq_getD_getElem?]; exact e12
                  go_simp
                  exact hK _ _ hS (fun _ _ _ h => h) rfl
                · intro a' W hS hE hV K hK
                  have e102 : a'.tmps.getD 102 undef = .slice adb N capb := hV 8 (by kernel_rfl) 102 (by kernel_rfl)
                  have f102 : a'.tmps[102]?.getD undef = .slice adb N capb := by rw [← Array.getD_eq_getD_getElem?]; exact e102
                  go_simp
                  exact hK _ _ hS (fun _ _ _ h => h) rfl
                · intro a' W hS hE hV K hK
                  have e103 : a'.tmps.getD 103 undef = .int .i64 (N : Nat) := hV 9 (by kernel_rfl) 103 (by kernel_rfl)
                  have f103 : a'.tmps[103]?.getD undef = .int .i64 (N : Nat) := by rw [← Array.getD_eq_getD_getElem?]; exact e103
                  go_simp
                  refine (dig_det N 2 W (by omega) (by omega)).mono ?_
                  rintro e9 W9 ⟨rfl, u9⟩
                  exact hK _ _ (hS.trans (u9.mono hS.size)) (VL17.up u9) rfl
                · intro a' W hS hE hV K hK
                  have e101 : a'.tmps.getD 101 undef = .string (bs (Lib.decDigits N)) := hV 7 (by kernel_rfl) 101 (by kernel_rfl)
                  have f101 : a'.tmps[101]?.getD undef = .string (bs (Lib.decDigits N)) := by rw [← Array.getD_eq_getD_getElem?]; exact e101
                  have e104 : a'.tmps.getD 104 undef = .string (bs (dgs 2 N)) := hV 10 (by kernel_rfl) 104 (by kernel_rfl)
                  have f104 : a'.tmps[104]?.getD undef = .string (bs (dgs 2 N)) := by rw [← Array.getD_eq_getD_getElem?]; exact e104
                  go_simp
                  refine (CM.out W hS).mono ?_
                  rintro e9 W9 ⟨rfl, u9⟩
                  exact hK _ _ (hS.trans (u9.mono hS.size)) (VL17.up u9) rfl
                · intro a' W hS hE hV K hK
                  have e105 : a'.tmps.getD 105 undef = .tuple #[.bool true, .int .i64 0] := hV 11 (by kernel_rfl) 105 (by kernel_rfl)
                  have f105 : a'.tmps[105]?.getD undef = .tuple #[.bool true, .int .i64 0] := by rw [← Array.getD_eq_getD_getElem?]; exact e105
                  go_simp
                  exact hK _ _ hS (fun _ _ _ h => h) rfl
                · intro a' W hS hE hV K hK
                  have e93 : a'.tmps.getD 93 undef = .tuple #[.bool true, .int .i64 0] := hV 12 (by kernel_rfl) 93 (by kernel_rfl)
                  have f93 : a'.tmps[93]?.getD undef = .tuple #[.bool true, .int .i64 0] := by rw [← Array.getD_eq_getD_getElem?]; exact e93
                  go_simp
                  exact hK _ _ hS (fun _ _ _ h => h) rfl
                · intro a' W hS hE hV K hK
                  have e93 : a'.tmps.getD 93 undef = .tuple #[.bool true, .int .i64 0] := hV 12 (by kernel_rfl) 93 (by kernel_rfl)
                  have f93 : a'.tmps[93]?.getD undef = .tuple #[.bool true, .int .i64 0] := by rw [← Array.getD_eq_getD_getElem?]; exact e93
                  go_simp
                  exact hK _ _ hS (fun _ _ _ h => h) rfl
                · intro a' W hS hE hV K hK
                  have e106 : a'.tmps.getD 106 undef = .bool true := hV 13 (by kernel_rfl) 106 (by kernel_rfl)
                  have f106 : a'.tmps[106]?.getD undef = .bool true := by rw [← Array.getD_eq_getD_getElem?]; exact e106
                  go_simp
                  exact hK _ _ hS (fun _ _ _ h => h) rfl
              · intro vs3 W17 o9 ho9 hS hV
                obtain rfl := Option.some.inj ho9
                have v13 : vs3 13 = .bool true := hV 13 (by decide)
                have v14 : vs3 14 = .int .i64 0 := hV 14 (by decide)
                have v15 : vs3 15 = .bool true := hV 15 (by decide)
                simp only [tab17, zipT, v13, v14, v15]
                have HB17 := hid (HB14.out.up hS)
                have U17 := hid (U14.out.trans (UpB.of_below hS))
                clear hS hV v13 v14 v15
                go_simp
                go_wp2
                go_roundw
                case rel => exact ⟨q + 1, by omega, by go_num, HB17, U17⟩
                case measure => simp [intOf]; omega
        · obtain rfl : q = 3 := by omega
          go_wp2
          go_ret
          exact ⟨rfl, hb.out.2.2.2.2.2.2.2⟩
end Go.Proofs.YtaokifbpakbgdaaGreatDoor

/-
  The walk of foliokeep.Back.
-/
import Derived.Test.YtaokifbpakbgdaaDoorSome
import Derived.Test.YtaokifbpakbgdaaDoorBackP
namespace Go.Proofs.YtaokifbpakbgdaaDoor
open Go.RowKit

theorem lastCE (w : World) : CE w 3 [.int .i64 4294967295, .string ⟨#[85, 73]⟩, .string ⟨#[49, 46, 50]⟩, .slice none 0 0] lastE [] := ⟨_, rfl, OwI.nil w 2⟩
/-- A row of four texts. -/
def Ways (w : World) (b : Nat) (s0 s1 s2 s3 : By) : Prop := w.heap[b]? = some (.cells #[.string (bs s0), .string (bs s1), .string (bs s2), .string (bs s3)] 9 (0, 0))
theorem Ways.at {w : World} {b : Nat} {s0 s1 s2 s3 : By} (h : Ways w b s0 s1 s2 s3) (k : Nat) (hk : k < 4) : ∃ s, (s = s0 ∨ s = s1 ∨ s = s2 ∨ s = s3) ∧ w.cell? ⟨b, k, none⟩ = some (.string (bs s)) := by
  unfold Ways at h
  have : k = 0 ∨ k = 1 ∨ k = 2 ∨ k = 3 := by omega
  rcases this with rfl | rfl | rfl | rfl
  · exact ⟨s0, Or.inl rfl, by simp [World.cell?, h]⟩
  · exact ⟨s1, Or.inr (Or.inl rfl), by simp [World.cell?, h]⟩
  · exact ⟨s2, Or.inr (Or.inr (Or.inl rfl)), by simp [World.cell?, h]⟩
  · exact ⟨s3, Or.inr (Or.inr (Or.inr rfl)), by simp [World.cell?, h]⟩
set_option maxHeartbeats 4000000 in
set_option maxRecDepth 20000 in
theorem back_walk (w : World) (v : Value) (L : List Int) (pads : Int) (h : Ns w v L) (hr : ∀ z ∈ L, -9223372036854775808 ≤ z ∧ z ≤ 9223372036854775807) (hl : L.length ≤ 17592186044416) (hp1 : -9223372036854775808 ≤ pads) (hp2 : pads ≤ 9223372036854775807) :
    Calls Tryd.prog 5 #[v, .int .i64 pads] w fun e w' => e = .returned (.bool true) ∧ Below w.heap.size w w' := by
  obtain ⟨i0, hi, hz0, hz1, hz2⟩ := info_parts info_el
  have HI := hid hi
  clear hi
  obtain ⟨ad, cap, rfl, hcap⟩ := h.slice
  have pb := pk_bd pads 5 (by decide)
  obtain ⟨pp, hpp⟩ : ∃ p : Nat, pk pads 5 = p := ⟨(pk pads 5).toNat, by omega⟩
  go_enter Tryd.func5, Tryd.ntmps5
  go_wp2_with fail
  go_at_call 16
  refine (some_all 2 (by decide) w _ L h hr hl).mono ?_
  rintro e w1 ⟨v1, bl, rfl, how, hnew, hbel⟩
  have how' := how
  rw [Ow_eq] at how'
  obtain ⟨xs, cs, hown, hes, rfl⟩ := how'
  have hlen := hid (sm_len 2 L)
  have hown' := hid hown
  have hes' := hid hes
  have hnew' := hid hnew
  have hbel' := hid hbel
  obtain ⟨adx, capx, rfl⟩ := own_slice hown
  clear how hown hes hnew hbel
  go_wp2_with (at_builtin; refine wpList_append_sep _ rfl _ _ 22 rfl 37 i0 _ 4 64 Tryd.underlying22 HI.out hz0 hz1 hz2 rfl (by decide) _ _ _ rfl (hown'.out.alloc _) ⟨w1.heap.size, 0, none⟩ 1 1 [.int .i64 4294967295, .string ⟨#[85, 73]⟩, .string ⟨#[49, 46, 50]⟩, .slice none 0 0] rfl rfl (four_cells _ _ _ _ _ _) four_one (by have := hlen.out; unfold maxLen; omega) (by have := hlen.out; omega) ?_)
  intro v2 w2 hown2 hg hm
  obtain ⟨R1, R2, R3⟩ := Row.push (R := fun w => CE w 3) (fun _ _ _ _ _ h k => h.keep k) hes'.out rfl (lastCE w1) hbel'.out.size (by rw [List.append_nil]; exact hnew'.out) hown2 hg hm
  have hX : Hid (Ow w2 3 v2 (setX L) (v2.ownBlock.toList ++ (cs ++ []))) := by
    unfold Hid
    rw [Ow_eq]
    exact ⟨_, _, R2, R1, rfl⟩
  have hb2 := hid ((Below.alloc hbel'.out hbel'.out.size (.cells #[.int .i64 4294967295, .string ⟨#[85, 73]⟩, .string ⟨#[49, 46, 50]⟩, .slice none 0 0] 37)).grown hg (by simp; have := hbel'.out.size; omega) (fun k hk => (hnew'.out.2 k (by rw [hk]; simp)).1))
  have hXr := hid (hX.out.rd _ _ _ _ (fun j => j < w2.heap.size) (fun j hj => (R3.2 j hj).2))
  obtain ⟨adv, capv, rfl⟩ := hXr.out.slice
  clear hown2 hg hm R1 R2 R3 hX hown' hes' hnew' hbel' hlen
  have hEnc := hid (Encode_any 3 (by decide) (fun j => j < w2.heap.size) w2 _ (setX L) (fun _ h => h) hXr.out (fun _ => Nat.le_trans (wrS_len false 0 (by decide) L) (by decide)))
  go_wp2_with fail
  go_at_call 8
  refine hEnc.out.mono ?_
  rintro e w3 ⟨u3, h3⟩
  obtain rfl : e = .returned (.tuple #[.string (bs (wrS false 0 3 (setX L))), .int .i64 0]) := by
    rcases h3 with ⟨h3, _⟩ | ⟨_, h3⟩
    · exact absurd (setX_ok L) h3
    · exact h3
  clear h3 hEnc
  have hU3 := hid u3
  clear u3
  have HW : Hid (∀ (w' : World), Below w2.heap.size w2 w' → ∀ (o : Bool) (p : Nat), p ≤ 100 → Calls Tryd.prog 17 #[.slice adv (setX L).length capv, .bool o, .int .i64 p] w' fun e w'' => e = .returned (.string (bs (wrS o p 3 (setX L)))) ∧ Below w'.heap.size w' w'') := fun w' hw o p hp =>
    kwritten_any 3 (fun j => j < w2.heap.size) w' _ (setX L) 0 o p (hXr.out.up hw) (setX_ok L) (by decide) (by decide) hp (Nat.le_trans (wrS_len o p hp L) (by decide))
  have hw00 := hid (HW.out w3 hU3.out false 0 (by decide))
  generalize hS00 : wrS false 0 3 (setX L) = S00 at hw00
  have hS00' := hid hS00
  clear hS00
  have hSl := bs_toList S00
  go_wp2_with fail
  go_at_call 17
  refine hw00.out.mono ?_
  rintro e w4 ⟨rfl, u4⟩
  have hU4 := hid (hU3.out.trans (u4.mono hU3.out.size))
  clear u4 hw00
  go_wp2_with fail
  have hwS := hid (HW.out w4 hU4.out true 0 (by omega))
  generalize hS10 : wrS true 0 3 (setX L) = S10 at hwS
  have hS10' := hid hS10
  clear hS10
  go_at_call 17
  refine hwS.out.mono ?_
  rintro e w5 ⟨rfl, uu⟩
  have hU5 := hid (hU4.out.trans (uu.mono hU4.out.size))
  clear uu hwS
  go_wp2_with fail
  go_at_call 18
  refine (pick_any pads 5 _ hp1 hp2 (by decide) (by decide)).mono ?_
  rw [hpp]
  rintro e w5' ⟨rfl, rfl⟩
  go_wp2_with fail
  have hwS := hid (HW.out w5' hU5.out false pp (by omega))
  generalize hS0p : wrS false pp 3 (setX L) = S0p at hwS
  have hS0p' := hid hS0p
  clear hS0p
  go_at_call 17
  refine hwS.out.mono ?_
  rintro e w6 ⟨rfl, uu⟩
  have hU6 := hid (hU5.out.trans (uu.mono hU5.out.size))
  clear uu hwS
  go_wp2_with fail
  go_at_call 18
  refine (pick_any pads 5 _ hp1 hp2 (by decide) (by decide)).mono ?_
  rw [hpp]
  rintro e w6' ⟨rfl, rfl⟩
  go_wp2_with fail
  have hwS := hid (HW.out w6' hU6.out true pp (by omega))
  generalize hS1p : wrS true pp 3 (setX L) = S1p at hwS
  have hS1p' := hid hS1p
  clear hS1p
  go_at_call 17
  refine hwS.out.mono ?_
  rintro e w7 ⟨rfl, uu⟩
  have hU7 := hid (hU6.out.trans (uu.mono hU6.out.size))
  clear uu hwS
  have HS : Hid (∀ S, (S = S00 ∨ S = S10 ∨ S = S0p ∨ S = S1p) → ∃ (o : Bool) (p : Nat), p ≤ 100 ∧ S = wrS o p 3 (setX L)) := by
    rintro S (rfl | rfl | rfl | rfl)
    · exact ⟨false, 0, by decide, hS00'.out.symm⟩
    · exact ⟨true, 0, by decide, hS10'.out.symm⟩
    · exact ⟨false, pp, by omega, hS0p'.out.symm⟩
    · exact ⟨true, pp, by omega, hS1p'.out.symm⟩
  have hb7 := hid (hb2.out.trans (hU7.out.mono hb2.out.size))
  go_wp2_with fail
  go_loopw [9] (fun iv wr => ∃ k : Nat, k ≤ 4 ∧ iv = .int .i64 k ∧ Hid (Below w2.heap.size w2 wr) ∧ Hid (Below w.heap.size w wr) ∧ Hid (Ways wr w7.heap.size S00 S10 S0p S1p)) (fun iv _ => 4 - (intOf iv).toNat)
  case atStart => exact ⟨0, by decide, rfl, Below.alloc hU7.out hU7.out.size _, Below.alloc hb7.out hb7.out.size _, heap_alloc_new _ _⟩
  case round =>
    obtain ⟨k, hk, rfl, hUr, hbr, hWr⟩ := hrel
    by_cases hk4 : k < 4
    · obtain ⟨S, hS, hcell⟩ := hWr.out.at k hk4
      obtain ⟨o, p, hp, hSe'⟩ := HS.out S hS
      have hSe := hid hSe'
      clear hSe' hS
      have hSs := bs_size S
      by_cases hlen : 16384 < S.length
      · have d1 : decide ((16384 : Int) < (S.length : Int)) = true := by simp; omega
        have d2 : (16384 : Int) < (S.length : Int) := by omega
        go_wp2_with fail
        go_roundw
        case rel => exact ⟨k + 1, by omega, by go_num, hUr, hbr, hWr⟩
        case measure => simp [intOf]; omega
      · have d1 : decide ((16384 : Int) < (S.length : Int)) = false := by simp; omega
        have D0 := hid (show parse 3 S = some (setX L) by rw [hSe.out]; exact way_back o p hp L)
        have E0 := hid (show decE 3 S = 0 by unfold decE; rw [if_neg hlen, D0.out]; exact setX_ok L)
        have E1 := hid (show decE 3 (S.take (S.length - 1)) = 1 by
          unfold decE
          rw [if_neg (by rw [List.length_take]; omega), hSe.out, way_less o p hp L])
        have E2 := hid (show decE 3 (S ++ [0]) ≠ 0 by
          unfold decE
          by_cases h' : 16384 < (S ++ [0]).length
          · rw [if_pos h']; decide
          · rw [if_neg h', hSe.out, way_more o p hp L]; decide)
        have hpos : 12 ≤ S.length := by rw [hSe.out, setX_len]; omega
        clear hSe
        go_wp2_with fail
        go_at_call 12
        refine (Decode_any wr 3 (by decide) S).mono ?_
        rintro e w8 ⟨u8, h8⟩
        obtain ⟨v8, bl8, rfl, how8, hnew8⟩ : ∃ v8 bl8, e = .returned (.tuple #[v8, .int .i64 0]) ∧ Ow w8 3 v8 (setX L) bl8 ∧ New wr w8 bl8 := by
          rcases h8 with ⟨h8, _⟩ | ⟨_, l, v, bl, h9, _, h10, h11, h12⟩
          · exact absurd E0.out h8
          · have := D0.out.symm.trans h9
            obtain rfl := Option.some.inj this
            exact ⟨v, bl, h10, h11, h12⟩
        have hU8 := hid (hUr.out.trans (u8.mono hUr.out.size))
        have hb8 := hid (hbr.out.trans (u8.mono hbr.out.size))
        have hW8 : Hid (Ways w8 w7.heap.size S00 S10 S0p S1p) := (u8.block _ (lt_of_block hWr.out)).trans hWr.out
        have hc8 := cell_keep (u8.block _ (World.block_lt_of_cell? _ _ hcell)) hcell
        have hY8 := hid (how8.rd _ _ _ _ (fun _ => True) (fun _ _ => trivial))
        clear u8 h8 how8 hnew8
        go_wp2_with fail
        go_at_call 19
        refine (ksame_any 3 (fun j => j < w2.heap.size) (fun _ => True) w8 _ _ (setX L) 0 (hXr.out.up hU8.out) hY8.out (setX_ok L) (by decide) (by decide)).mono ?_
        rintro e w9 ⟨rfl, u9⟩
        have hU9 := hid (hU8.out.trans (u9.mono hU8.out.size))
        have hb9 := hid (hb8.out.trans (u9.mono hb8.out.size))
        have hW9 : Hid (Ways w9 w7.heap.size S00 S10 S0p S1p) := (u9.block _ (lt_of_block hW8.out)).trans hW8.out
        have hc9 := cell_keep (u9.block _ (World.block_lt_of_cell? _ _ hc8)) hc8
        clear u9
        have HD1 : Hid (∀ w', Calls Tryd.prog 12 #[.string (bs (S.take (S.length - 1)))] w' fun e w'' => e = .returned (.tuple #[.slice none 0 0, .int .i64 1]) ∧ Below w'.heap.size w' w'') := fun w' => by
          refine (Decode_any w' 3 (by decide) _).mono ?_
          rintro e w'' ⟨u, hh⟩
          rcases hh with ⟨_, hh⟩ | ⟨hh, _⟩
          · rw [E1.out] at hh; exact ⟨hh, u⟩
          · rw [E1.out] at hh; cases hh
        have hq : ∀ q : Later w9, q.val.cell? ⟨w7.heap.size, k, none⟩ = some (.string (bs S)) := fun q => cell_keep (q.up.block _ (World.block_lt_of_cell? _ _ hc9)) hc9
        have hne : Nonempty (Later w9) := ⟨Later.of (Below.refl _ _)⟩
        have hw1 : IntKind.i64.wrap ((S.length : Int) - 1) = ((S.length - 1 : Nat) : Int) := by rw [IntKind.wrap_i64]; omega
        have hle0 : (0 : Int) ≤ ((S.length - 1 : Nat) : Int) := by omega
        have hle1 : ((S.length - 1 : Nat) : Int) ≤ (S.length : Int) := by omega
        have htk := bs_take S (S.length - 1)
        have htn : (((S.length - 1 : Nat) : Int)).toNat = S.length - 1 := by omega
        go_wp2_with fail
        refine wp_region_below (by kernel_rfl) (by kernel_rfl) ?_
        repeat quiet_step ((go_at_call 12; exact calls_below (HD1.out _)))
        refine wpQuiet_nil ?_
        intro _ hw'
        obtain ⟨wq, rfl⟩ := hw'
        have hUq := hid (hU9.out.trans (wq.up.mono hU9.out.size))
        have hbq := hid (hb9.out.trans (wq.up.mono hb9.out.size))
        have hWq : Hid (Ways wq.val w7.heap.size S00 S10 S0p S1p) := (wq.up.block _ (lt_of_block hW9.out)).trans hW9.out
        have hcq := hq wq
        generalize wq.val = wE at hUq hbq hWq hcq ⊢
        clear hq hne hw1 hle0 hle1 htk htn
        obtain ⟨SZ, hSZ, ha1, hz9, hy9⟩ := cat S [0]
        have ha1' : bs S ++ (⟨#[0]⟩ : ByteArray) = bs SZ := ha1
        have hlit : (⟨#[0]⟩ : ByteArray).size = 1 := rfl
        clear ha1
        obtain ⟨dz, hdz, hdz0⟩ : ∃ dz : Int, Hid (decE 3 (S ++ [0]) = dz) ∧ dz ≠ 0 := ⟨_, hid rfl, E2.out⟩
        have HD2 : Hid (∀ w', Calls Tryd.prog 12 #[.string (bs SZ)] w' fun e w'' => e = .returned (.tuple #[.slice none 0 0, .int .i64 dz]) ∧ Below w'.heap.size w' w'') := fun w' => by
          refine (Decode_any w' 3 (by decide) _).mono ?_
          rintro e w'' ⟨u, hh⟩
          rw [hSZ.out, hdz.out] at hh
          rcases hh with ⟨_, hh⟩ | ⟨hh, _⟩
          · exact ⟨hh, u⟩
          · exact absurd hh hdz0
        have hd1 : (dz == 0) = false := by simpa using hdz0
        clear hdz0
        go_wp2_with fail
        go_at_call 12
        refine (HD2.out wE).mono ?_
        rintro e wF ⟨rfl, uF⟩
        have hUF := hid (hUq.out.trans (uF.mono hUq.out.size))
        have hbF := hid (hbq.out.trans (uF.mono hbq.out.size))
        have hWF : Hid (Ways wF w7.heap.size S00 S10 S0p S1p) := (uF.block _ (lt_of_block hWq.out)).trans hWq.out
        clear uF
        go_wp2
        go_roundw
        case rel => first | exact ⟨k + 1, by omega, by go_num, hUF, hbF, hWF⟩ | ((repeat apply Exists.intro); exact ⟨⟨k + 1, by omega, by go_num, hUF, hbF, hWF⟩, rfl⟩)
        case measure => simp [intOf]; omega
    · go_wp2
      go_ret
      exact ⟨rfl, hbr.out⟩
end Go.Proofs.YtaokifbpakbgdaaDoor

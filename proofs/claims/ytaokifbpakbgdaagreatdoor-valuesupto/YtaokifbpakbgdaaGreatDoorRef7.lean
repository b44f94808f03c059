/-
  The document's answer (package folioref), seventh part: wild.
-/
import Derived.Test.YtaokifbpakbgdaaGreatDoorRef6
import Derived.Test.YtaokifbpakbgdaaGreatDoorSnoc
namespace Go.Proofs.YtaokifbpakbgdaaGreatDoor
open Go.RowKit

theorem rsmall_any (c : UInt8) (fold : Bool) (w : World) :
    Calls Tryz.prog 148 #[.int .u8 (c.toNat : Int), .bool fold] w fun e w' => e = .returned (.int .u8 ((fl fold c).toNat : Int)) ∧ w' = w := by
  cases fold
  · go_enter Tryz.func148, Tryz.ntmps148
    go_wp2
    go_ret
    exact ⟨rfl, rfl⟩
  · have hb := UInt8.toNat_lt c
    by_cases h1 : 65 ≤ (c.toNat : Int)
    · by_cases h2 : (c.toNat : Int) ≤ 90
      · have e : Hid (((fl true c).toNat : Int) = (c.toNat : Int) + 32) := by
          have := low_up' c (by omega) (by omega)
          unfold Hid fl; rw [if_pos rfl, ← this]; rw [UInt8.toNat_ofNat']; omega
        go_enter Tryz.func148, Tryz.ntmps148
        go_wp2
        go_ret
        exact ⟨vret_int e.out.symm, rfl⟩
      · have e : Hid (((fl true c).toNat : Int) = (c.toNat : Int)) := by
          unfold Hid fl; rw [if_pos rfl, low_id' c (by omega)]
        have d2 : decide ((c.toNat : Int) ≤ 90) = false := decide_eq_false h2
        go_enter Tryz.func148, Tryz.ntmps148
        go_wp2
        go_ret
        exact ⟨vret_int e.out.symm, rfl⟩
    · have e : Hid (((fl true c).toNat : Int) = (c.toNat : Int)) := by
        unfold Hid fl; rw [if_pos rfl, low_id' c (by omega)]
      go_enter Tryz.func148, Tryz.ntmps148
      go_wp2
      go_ret
      exact ⟨vret_int e.out.symm, rfl⟩
theorem info_bool : (Tryz.prog.info? 4).map (fun i => (i.zero, i.size, i.bytes)) = some (some (.bool false), 1, 1) := by kernel_rfl
/-- A row of bools in a block of the call's own. -/
def RowB (w : World) (b n : Nat) (F : Nat → Bool) : Prop := ∀ k, k < n → w.cell? ⟨b, k, none⟩ = some (.bool (F k)) ∧ w.frozen? ⟨b, k, none⟩ = false
theorem RowB.lt {w : World} {b n : Nat} {F : Nat → Bool} (h : RowB w b n F) (hn : 0 < n) : b < w.heap.size := World.block_lt_of_cell? _ _ (h 0 hn).1
theorem RowB.up {w w' : World} {b n : Nat} {F : Nat → Bool} (h : RowB w b n F) (hn : 0 < n) (hu : Up w w') : RowB w' b n F := fun k hk =>
  ⟨hu.cell (h k hk).1, by rw [Below.frozen hu (h.lt hn)]; exact (h k hk).2⟩
theorem RowB.made {w' : World} {base n b : Nat} (h : w'.ownsRow base 4 1 (.slice (some ⟨b, 0, none⟩) n n) n (madeCells #[Value.bool false] n).toList) : RowB w' b n (fun _ => false) := fun k hk => by
  refine ⟨?_, h.frozenAt k⟩
  rw [h.cellAt k (by omega)]
  simp [madeCells, hk, Nat.mod_one]
theorem RowB.set {w : World} {b n : Nat} {F : Nat → Bool} (h : RowB w b n F) {k : Nat} (hk : k < n) (x : Bool) : RowB (w.setCell ⟨b, k, none⟩ (.bool x)) b n (fun j => if j = k then x else F j) := fun j hj => by
  refine ⟨?_, by rw [World.frozen?_setCell]; exact (h j hj).2⟩
  by_cases e : j = k
  · subst e
    simp only [if_true]
    exact World.cell?_setCell_same' _ _ _ (by rw [(h j hj).1]; rfl)
  · simp only [e, if_false]
    rw [World.cell?_setCell_other _ _ _ _ (fun x => e (by cases x; rfl))]
    exact (h j hj).1
theorem RowB.other {w : World} {b n : Nat} {F : Nat → Bool} (h : RowB w b n F) {b' k : Nat} (hb : b ≠ b') (x : Value) : RowB (w.setCell ⟨b', k, none⟩ x) b n F := fun j hj => by
  refine ⟨?_, by rw [World.frozen?_setCell]; exact (h j hj).2⟩
  rw [World.cell?_setCell_other _ _ _ _ (fun x => hb (by cases x; rfl))]
  exact (h j hj).1
theorem RowB.congr {w : World} {b n : Nat} {F G : Nat → Bool} (h : RowB w b n F) (e : ∀ k, k < n → F k = G k) : RowB w b n G := fun k hk => by rw [← e k hk]; exact h k hk
theorem Up.set {a w : World} (h : Up a w) {b k : Nat} (hb : a.heap.size ≤ b) (x : Value) : Up a (w.setCell ⟨b, k, none⟩ x) := Below.setCell h hb x
theorem up_make {w w1 : World} (hg : w.grownBy w1 none) : Up w w1 := Below.grown (Below.refl _ _) hg (Nat.le_refl _) (fun k hk => by cases hk)
set_option maxRecDepth 20000 in
set_option maxHeartbeats 4000000 in
theorem rwild_any (p v : ByteArray) (fold : Bool) (w : World) (hp : p.size < 4294967281) (hv : v.size < 4294967281) :
    Calls Tryz.prog 91 #[.string p, .string v, .bool fold] w fun e w' => e = .returned (.bool (glob (p.data.toList.map (fl fold)) (v.data.toList.map (fl fold)))) ∧ Up w w' := by
  obtain ⟨i0, hi0, hz0, hz1, hz2⟩ := info_parts info_bool
  have HI := hid hi0
  clear hi0
  go_enter Tryz.func91, Tryz.ntmps91
  go_wp2_with (refine wpList_make_full _ rfl _ _ 178 rfl w.heap.size 4 i0 (.bool false) 1 Tryz.underlying178 HI.out hz0 hz1 .i64 .i64 _ _ (v.size + 1) rfl rfl (by simp) (by simp) (by rw [hz2]; omega) (by unfold maxLen; omega) (Nat.le_refl _) ?_)
  intro w1 hown hg
  have R1 := hid (RowB.made hown)
  have U1 := hid (up_make hg)
  clear hown hg
  have c0 := (R1.out 0 (by omega)).1
  have f0 := (R1.out 0 (by omega)).2
  go_wp2_with fail
  go_loopw [7, 8] (fun x y wr => ∃ (i b : Nat), x = .slice (some ⟨b, 0, none⟩) (v.size + 1) (v.size + 1) ∧ y = .int .i64 i ∧ i ≤ p.size ∧ w.heap.size ≤ b ∧ Hid (RowB wr b (v.size + 1) (dp ((p.data.toList.take i).map (fl fold)) (v.data.toList.map (fl fold)))) ∧ Hid (Up w wr)) (fun _ y _ => p.size - (intOf y).toNat)
  case atStart =>
    refine ⟨0, w.heap.size, rfl, rfl, by omega, Nat.le_refl _, ?_, Up.set U1.out (Nat.le_refl _) _⟩
    refine (RowB.set R1.out (by omega : 0 < v.size + 1) true).congr (fun k hk => ?_)
    rw [List.take_zero, List.map_nil, dp_nil _ _ (by simp; omega)]
    by_cases e : k = 0 <;> simp [e]
  case round =>
    obtain ⟨i, b, rfl, rfl, hi, hb, hR, hU⟩ := hrel
    by_cases hlt : i < p.size
    · go_wp2_with (refine wpList_make_full _ rfl _ _ 178 rfl wr.heap.size 4 i0 (.bool false) 1 Tryz.underlying178 HI.out hz0 hz1 .i64 .i64 _ _ (v.size + 1) rfl rfl (by simp) (by simp) (by rw [hz2]; omega) (by unfold maxLen; omega) (Nat.le_refl _) ?_)
      intro w2 hown hg
      have R2 := hid (RowB.made hown)
      have U2 := hid (up_make hg)
      clear hown hg
      have hbne : Hid (b ≠ wr.heap.size) := by have := hR.out.lt (by omega); unfold Hid; omega
      have RF := hid (hR.out.up (by omega) U2.out)
      have hts : Hid ((p.data.toList.take (i + 1)).map (fl fold) = (p.data.toList.take i).map (fl fold) ++ [fl fold p[i]]) := by
        unfold Hid; rw [take_snoc p i hlt, List.map_append]; rfl
      have hlen : Hid ((v.data.toList.map (fl fold)).length = v.size) := by unfold Hid; simp
      have hstar : Hid (p[i] = 42 → ∀ k, k ≤ v.size → dp ((p.data.toList.take (i + 1)).map (fl fold)) (v.data.toList.map (fl fold)) k = (dp ((p.data.toList.take i).map (fl fold)) (v.data.toList.map (fl fold)) k || (decide (0 < k) && dp ((p.data.toList.take (i + 1)).map (fl fold)) (v.data.toList.map (fl fold)) (k - 1)))) := fun h k hk => by
        rw [hts.out, (fl_42 fold p[i]).2 h]
        exact dp_star _ _ k (by rw [hlen.out]; exact hk)
      have hzero : Hid (p[i] ≠ 42 → dp ((p.data.toList.take (i + 1)).map (fl fold)) (v.data.toList.map (fl fold)) 0 = false) := fun h => by
        rw [hts.out]
        exact dp_zero _ (fun e => h ((fl_42 fold _).1 e)) _ _
      have hsucc : Hid (p[i] ≠ 42 → ∀ k (hk : k < v.size), dp ((p.data.toList.take (i + 1)).map (fl fold)) (v.data.toList.map (fl fold)) (k + 1) = (dp ((p.data.toList.take i).map (fl fold)) (v.data.toList.map (fl fold)) k && (decide (p[i] = 63) || decide (fl fold p[i] = fl fold v[k])))) := fun h k hk => by
        rw [hts.out, dp_succ _ (fun e => h ((fl_42 fold _).1 e)) _ _ k (by rw [hlen.out]; exact hk)]
        congr 2
        · exact decide_eq_decide.2 (fl_63 fold _)
        · rw [List.getElem_map]; rfl
      clear hts hlen
      generalize hGdef : dp ((p.data.toList.take (i + 1)).map (fl fold)) (v.data.toList.map (fl fold)) = G at hstar hzero hsucc
      have HG := hid hGdef
      clear hGdef
      generalize hFdef : dp ((p.data.toList.take i).map (fl fold)) (v.data.toList.map (fl fold)) = F at hstar hsucc RF
      have U3 := hid (hU.out.trans U2.out)
      have hNb := hU.out.size
      clear hFdef hR hU U2
      generalize wr.heap.size = N at R2 hbne hNb
      go_wp2_with fail
      go_loopw [10] (fun z ws => ∃ k : Nat, z = .int .i64 k ∧ k ≤ v.size + 1 ∧ Hid (RowB ws b (v.size + 1) F) ∧ Hid (RowB ws N (v.size + 1) (fun j => decide (j < k) && G j)) ∧ Hid (Up w ws)) (fun z _ => v.size + 1 - (intOf z).toNat)
      case atStart => exact ⟨0, rfl, by omega, RF, R2, U3⟩
      case round =>
        obtain ⟨k, rfl, hk, hRF, hRN, hU4⟩ := hrel
        clear RF R2 U3
        by_cases hkv : k ≤ v.size
        · have hcell := (hRF.out k (by omega)).1
          have hN1 : wr.cell? ⟨N, k, none⟩ = some (.bool false) := by simpa using (hRN.out k (by omega)).1
          have hN2 := (hRN.out k (by omega)).2
          have hNk : Hid (∀ x, G k = x → RowB (wr.setCell ⟨N, k, none⟩ (.bool x)) N (v.size + 1) (fun j => decide (j < k + 1) && G j)) := fun x hx => by
            refine (hRN.out.set (by omega : k < v.size + 1) x).congr (fun j hj => ?_)
            by_cases e : j = k
            · subst e; simp [hx]
            · have : decide (j < k) = decide (j < k + 1) := decide_eq_decide.2 (by omega)
              simp [e, this]
          have hNo : Hid (G k = false → RowB wr N (v.size + 1) (fun j => decide (j < k + 1) && G j)) := fun hx => by
            refine hRN.out.congr (fun j hj => ?_)
            by_cases e : j = k
            · subst e; simp [hx]
            · have : decide (j < k) = decide (j < k + 1) := decide_eq_decide.2 (by omega)
              simp [this]
          by_cases h42 : (p[i].toNat : Int) = 42
          · have hS := hid (hstar.out ((byte_eq 42).2 h42) k hkv)
            cases hFk : F k
            · rw [hFk] at hcell
              by_cases hk0 : 0 < k
              · have hprev : wr.cell? ⟨N, k - 1, none⟩ = some (.bool (G (k - 1))) := by
                  have := (hRN.out (k - 1) (by omega)).1
                  simpa [show k - 1 < k by omega] using this
                have hx : Hid (G k = G (k - 1)) := by unfold Hid; rw [hS.out, hFk, decide_eq_true hk0]; rfl
                have hk0' : decide (0 < (k : Int)) = true := by simp; omega
                go_wp2
                go_roundw
                case rel => exact ⟨k + 1, by go_num, by omega, hRF.out.other hbne.out _, hNk.out _ hx.out, Up.set hU4.out hNb _⟩
                case measure => simp [intOf]; omega
              · obtain rfl : k = 0 := by omega
                have hx : Hid (G 0 = false) := by unfold Hid; rw [hS.out, hFk]; rfl
                go_wp2
                go_roundw
                case rel => exact ⟨1, by go_num, by omega, hRF.out.other hbne.out _, hNk.out _ hx.out, Up.set hU4.out hNb _⟩
                case measure => simp [intOf]
            · rw [hFk] at hcell
              have hx : Hid (G k = true) := by unfold Hid; rw [hS.out, hFk]; rfl
              go_wp2
              go_roundw
              case rel => exact ⟨k + 1, by go_num, by omega, hRF.out.other hbne.out _, hNk.out _ hx.out, Up.set hU4.out hNb _⟩
              case measure => simp [intOf]; omega
          · have n42 : p[i] ≠ 42 := fun e => h42 ((byte_eq 42).1 e)
            have d42 : ((p[i].toNat : Int) == 42) = false := by simpa using h42
            by_cases hk0 : 0 < k
            · obtain ⟨k', rfl⟩ : ∃ k', k = k' + 1 := ⟨k - 1, by omega⟩
              have hS := hid (hsucc.out n42 k' (by omega))
              have hpf := (hRF.out k' (by omega)).1
              have hk0' : decide (0 < ((k' : Int) + 1)) = true := decide_eq_true (by omega)
              cases hFk : F k'
              · rw [hFk] at hpf
                have hx : Hid (G (k' + 1) = false) := by unfold Hid; rw [hS.out, hFk]; rfl
                go_wp2
                go_roundw
                case rel => exact ⟨k' + 1 + 1, by go_num, by omega, hRF, hNo.out hx.out, hU4⟩
                case measure => simp [intOf]; omega
              · rw [hFk] at hpf
                by_cases h63 : (p[i].toNat : Int) = 63
                · have hx : Hid (G (k' + 1) = true) := by unfold Hid; rw [hS.out, hFk, decide_eq_true ((byte_eq 63).2 h63)]; rfl
                  have d63 : ((p[i].toNat : Int) == 63) = true := by simpa using h63
                  clear h63
                  go_wp2_with (go_at_call 148; refine (rsmall_any _ _ _).mono ?_; rintro e w' ⟨rfl, rfl⟩)
                  go_roundw
                  case rel => exact ⟨k' + 1 + 1, by go_num, by omega, hRF.out.other hbne.out _, hNk.out _ hx.out, Up.set hU4.out hNb _⟩
                  case measure => simp [intOf]; omega
                · have d63 : ((p[i].toNat : Int) == 63) = false := by simpa using h63
                  have hx : Hid (G (k' + 1) = (((fl fold p[i]).toNat : Int) == ((fl fold v[k']).toNat : Int))) := by
                    unfold Hid
                    rw [hS.out, hFk, decide_eq_false (fun e => h63 ((byte_eq 63).1 e)), Bool.true_and, Bool.false_or, Bool.eq_iff_iff, decide_eq_true_eq, byte_eq, beq_iff_eq]
                  go_wp2_with (go_at_call 148; refine (rsmall_any _ _ _).mono ?_; rintro e w' ⟨rfl, rfl⟩)
                  go_roundw
                  case rel => exact ⟨k' + 1 + 1, by go_num, by omega, hRF.out.other hbne.out _, hNk.out _ hx.out, Up.set hU4.out hNb _⟩
                  case measure => simp [intOf]; omega
            · obtain rfl : k = 0 := by omega
              have hx := hid (hzero.out n42)
              go_wp2
              go_roundw
              case rel => exact ⟨1, by go_num, by omega, hRF, hNo.out hx.out, hU4⟩
              case measure => simp [intOf]
        · have hGrow : Hid (RowB wr N (v.size + 1) G) := hRN.out.congr (fun j hj => by rw [decide_eq_true (by omega), Bool.true_and])
          go_wp2
          go_roundw
          case rel => exact ⟨i + 1, N, rfl, by go_num, by omega, by omega, by rw [HG.out]; exact hGrow, hU4⟩
          case measure => simp [intOf]; omega
    · have c0 := (hR.out v.size (by omega)).1
      go_wp2
      go_ret
      refine ⟨vret_bool ?_, hU.out⟩
      rw [show List.take i (List.map (fl fold) p.data.toList) = List.map (fl fold) p.data.toList from List.take_of_length_le (by simp; omega)]
      unfold dp
      rw [List.take_of_length_le (by simp)]
end Go.Proofs.YtaokifbpakbgdaaGreatDoor

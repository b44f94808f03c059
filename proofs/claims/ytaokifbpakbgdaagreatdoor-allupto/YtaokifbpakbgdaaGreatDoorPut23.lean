/-
  Several texts in one; what each one has stands at its head.
-/
import Derived.Test.YtaokifbpakbgdaaGreatDoorPut14
import Derived.Test.YtaokifbpakbgdaaGreatDoorPut22
/- The document's answer (package folioref), seventh part: wild. -/
namespace Go.Proofs.YtaokifbpakbgdaaGreatDoor
open Go.RowKit

theorem rsmall_any (c : UInt8) (fold : Bool) (w : World) :
    Calls Tryz.prog 148 #[.int .u8 (c.toNat : Int), .bool fold] w fun e w' => e = .returned (.int .u8 ((fl fold c).toNat : Int)) ∧ w' = w := by
  cases fold
  · go_enter Tryz.func148, Tryz.ntmps148
    go_wp2
    go_ret
    exact ⟨rfl, rfl⟩
  · have hb := UInt8.toNat_lt c
    by_cases h1 : 65 ≤ (c.toNat : Int)
    · by_cases h2 : (c.toNat : Int) ≤ 90
      · have e : Hid (((fl true c).toNat : Int) = (c.toNat : Int) + 32) := by
          have := low_up' c (by omega) (by omega)
          unfold Hid fl; rw [if_pos rfl, ← this]; rw [UInt8.toNat_ofNat']; omega
        go_enter Tryz.func148, Tryz.ntmps148
        go_wp2
        go_ret
        exact ⟨vret_int e.out.symm, rfl⟩
      · have e : Hid (((fl true c).toNat : Int) = (c.toNat : Int)) := by
          unfold Hid fl; rw [if_pos rfl, low_id' c (by omega)]
        have d2 : decide ((c.toNat : Int) ≤ 90) = false := decide_eq_false h2
        go_enter Tryz.func148, Tryz.ntmps148
        go_wp2
        go_ret
        exact ⟨vret_int e.out.symm, rfl⟩
    · have e : Hid (((fl true c).toNat : Int) = (c.toNat : Int)) := by
        unfold Hid fl; rw [if_pos rfl, low_id' c (by omega)]
      go_enter Tryz.func148, Tryz.ntmps148
      go_wp2
      go_ret
      exact ⟨vret_int e.out.symm, rfl⟩
theorem info_bool : (Tryz.prog.info? 4).map (fun i => (i.zero, i.size, i.bytes)) = some (some (.bool false), 1, 1) := by kernel_rfl
/-- A row of bools in a block of the call's own. -/
def RowB (w : World) (b n : Nat) (F : Nat → Bool) : Prop := ∀ k, k < n → w.cell? ⟨b, k, none⟩ = some (.bool (F k)) ∧ w.frozen? ⟨b, k, none⟩ = false
theorem RowB.lt {w : World} {b n : Nat} {F : Nat → Bool} (h : RowB w b n F) (hn : 0 < n) : b < w.heap.size := World.block_lt_of_cell? _ _ (h 0 hn).1
theorem RowB.up {w w' : World} {b n : Nat} {F : Nat → Bool} (h : RowB w b n F) (hn : 0 < n) (hu : Up w w') : RowB w' b n F := fun k hk =>
  ⟨hu.cell (h k hk).1, by rw [Below.frozen hu (h.lt hn)]; exact (h k hk).2⟩
theorem RowB.made {w' : World} {base n b : Nat} (h : w'.ownsRow base 4 1 (.slice (some ⟨b, 0, none⟩) n n) n (madeCells #[Value.bool false] n).toList) : RowB w' b n (fun _ => false) := fun k hk => by
  refine ⟨?_, h.frozenAt k⟩
  rw [h.cellAt k (by omega)]
  simp [madeCells, hk, Nat.mod_one]
theorem RowB.set {w : World} {b n : Nat} {F : Nat → Bool} (h : RowB w b n F) {k : Nat} (hk : k < n) (x : Bool) : RowB (w.setCell ⟨b, k, none⟩ (.bool x)) b n (fun j => if j = k then x else F j) := fun j hj => by
  refine ⟨?_, by rw [World.frozen?_setCell]; exact (h j hj).2⟩
  by_cases e : j = k
  · subst e
    simp only [if_true]
    exact World.cell?_setCell_same' _ _ _ (by rw [(h j hj).1]; rfl)
  · simp only [e, if_false]
    rw [World.cell?_setCell_other _ _ _ _ (fun x => e (by cases x; rfl))]
    exact (h j hj).1
theorem RowB.other {w : World} {b n : Nat} {F : Nat → Bool} (h : RowB w b n F) {b' k : Nat} (hb : b ≠ b') (x : Value) : RowB (w.setCell ⟨b', k, none⟩ x) b n F := fun j hj => by
  refine ⟨?_, by rw [World.frozen?_setCell]; exact (h j hj).2⟩
  rw [World.cell?_setCell_other _ _ _ _ (fun x => hb (by cases x; rfl))]
  exact (h j hj).1
theorem RowB.congr {w : World} {b n : Nat} {F G : Nat → Bool} (h : RowB w b n F) (e : ∀ k, k < n → F k = G k) : RowB w b n G := fun k hk => by rw [← e k hk]; exact h k hk
theorem Up.set {a w : World} (h : Up a w) {b k : Nat} (hb : a.heap.size ≤ b) (x : Value) : Up a (w.setCell ⟨b, k, none⟩ x) := Below.setCell h hb x
theorem up_make {w w1 : World} (hg : w.grownBy w1 none) : Up w w1 := Below.grown (Below.refl _ _) hg (Nat.le_refl _) (fun k hk => by cases hk)
set_option maxRecDepth 20000 in
set_option maxHeartbeats 4000000 in
theorem rwild_any (p v : ByteArray) (fold : Bool) (w : World) (hp : p.size < 4294967281) (hv : v.size < 4294967281) :
    Calls Tryz.prog 91 #[.string p, .string v, .bool fold] w fun e w' => e = .returned (.bool (glob (p.data.toList.map (fl fold)) (v.data.toList.map (fl fold)))) ∧ Up w w' := by
  obtain ⟨i0, hi0, hz0, hz1, hz2⟩ := info_parts info_bool
  have HI := hid hi0
  clear hi0
  go_enter Tryz.func91, Tryz.ntmps91
  go_wp2_with (refine wpList_make_full _ rfl _ _ 178 rfl w.heap.size 4 i0 (.bool false) 1 Tryz.underlying178 HI.out hz0 hz1 .i64 .i64 _ _ (v.size + 1) rfl rfl (by simp) (by simp) (by rw [hz2]; omega) (by unfold maxLen; omega) (Nat.le_refl _) ?_)
  intro w1 hown hg
  have R1 := hid (RowB.made hown)
  have U1 := hid (up_make hg)
  clear hown hg
  have c0 := (R1.out 0 (by omega)).1
  have f0 := (R1.out 0 (by omega)).2
  go_wp2_with fail
  go_loopw [7, 8] (fun x y wr => ∃ (i b : Nat), x = .slice (some ⟨b, 0, none⟩) (v.size + 1) (v.size + 1) ∧ y = .int .i64 i ∧ i ≤ p.size ∧ w.heap.size ≤ b ∧ Hid (RowB wr b (v.size + 1) (dp ((p.data.toList.take i).map (fl fold)) (v.data.toList.map (fl fold)))) ∧ Hid (Up w wr)) (fun _ y _ => p.size - (intOf y).toNat)
  case atStart =>
    refine ⟨0, w.heap.size, rfl, rfl, by omega, Nat.le_refl _, ?_, Up.set U1.out (Nat.le_refl _) _⟩
    refine (RowB.set R1.out (by omega : 0 < v.size + 1) true).congr (fun k hk => ?_)
    rw [List.take_zero, List.map_nil, dp_nil _ _ (by simp; omega)]
    by_cases e : k = 0 <;> simp [e]
  case round =>
    obtain ⟨i, b, rfl, rfl, hi, hb, hR, hU⟩ := hrel
    by_cases hlt : i < p.size
    · go_wp2_with (refine wpList_make_full _ rfl _ _ 178 rfl wr.heap.size 4 i0 (.bool false) 1 Tryz.underlying178 HI.out hz0 hz1 .i64 .i64 _ _ (v.size + 1) rfl rfl (by simp) (by simp) (by rw [hz2]; omega) (by unfold maxLen; omega) (Nat.le_refl _) ?_)
      intro w2 hown hg
      have R2 := hid (RowB.made hown)
      have U2 := hid (up_make hg)
      clear hown hg
      have hbne : Hid (b ≠ wr.heap.size) := by have := hR.out.lt (by omega); unfold Hid; omega
      have RF := hid (hR.out.up (by omega) U2.out)
      have hts : Hid ((p.data.toList.take (i + 1)).map (fl fold) = (p.data.toList.take i).map (fl fold) ++ [fl fold p[i]]) := by
        unfold Hid; rw [take_snoc p i hlt, List.map_append]; rfl
      have hlen : Hid ((v.data.toList.map (fl fold)).length = v.size) := by unfold Hid; simp
      have hstar : Hid (p[i] = 42 → ∀ k, k ≤ v.size → dp ((p.data.toList.take (i + 1)).map (fl fold)) (v.data.toList.map (fl fold)) k = (dp ((p.data.toList.take i).map (fl fold)) (v.data.toList.map (fl fold)) k || (decide (0 < k) && dp ((p.data.toList.take (i + 1)).map (fl fold)) (v.data.toList.map (fl fold)) (k - 1)))) := fun h k hk => by
        rw [hts.out, (fl_42 fold p[i]).2 h]
        exact dp_star _ _ k (by rw [hlen.out]; exact hk)
      have hzero : Hid (p[i] ≠ 42 → dp ((p.data.toList.take (i + 1)).map (fl fold)) (v.data.toList.map (fl fold)) 0 = false) := fun h => by
        rw [hts.out]
        exact dp_zero _ (fun e => h ((fl_42 fold _).1 e)) _ _
      have hsucc : Hid (p[i] ≠ 42 → ∀ k (hk : k < v.size), dp ((p.data.toList.take (i + 1)).map (fl fold)) (v.data.toList.map (fl fold)) (k + 1) = (dp ((p.data.toList.take i).map (fl fold)) (v.data.toList.map (fl fold)) k && (decide (p[i] = 63) || decide (fl fold p[i] = fl fold v[k])))) := fun h k hk => by
        rw [hts.out, dp_succ _ (fun e => h ((fl_42 fold _).1 e)) _ _ k (by rw [hlen.out]; exact hk)]
        congr 2
        · exact decide_eq_decide.2 (fl_63 fold _)
        · rw [List.getElem_map]; rfl
      clear hts hlen
      generalize hGdef : dp ((p.data.toList.take (i + 1)).map (fl fold)) (v.data.toList.map (fl fold)) = G at hstar hzero hsucc
      have HG := hid hGdef
      clear hGdef
      generalize hFdef : dp ((p.data.toList.take i).map (fl fold)) (v.data.toList.map (fl fold)) = F at hstar hsucc RF
      have U3 := hid (hU.out.trans U2.out)
      have hNb := hU.out.size
      clear hFdef hR hU U2
      generalize wr.heap.size = N at R2 hbne hNb
      go_wp2_with fail
      go_loopw [10] (fun z ws => ∃ k : Nat, z = .int .i64 k ∧ k ≤ v.size + 1 ∧ Hid (RowB ws b (v.size + 1) F) ∧ Hid (RowB ws N (v.size + 1) (fun j => decide (j < k) && G j)) ∧ Hid (Up w ws)) (fun z _ => v.size + 1 - (intOf z).toNat)
      case atStart => exact ⟨0, rfl, by omega, RF, R2, U3⟩
      case round =>
        obtain ⟨k, rfl, hk, hRF, hRN, hU4⟩ := hrel
        clear RF R2 U3
        by_cases hkv : k ≤ v.size
        · have hcell := (hRF.out k (by omega)).1
          have hN1 : wr.cell? ⟨N, k, none⟩ = some (.bool false) := by simpa using (hRN.out k (by omega)).1
          have hN2 := (hRN.out k (by omega)).2
          have hNk : Hid (∀ x, G k = x → RowB (wr.setCell ⟨N, k, none⟩ (.bool x)) N (v.size + 1) (fun j => decide (j < k + 1) && G j)) := fun x hx => by
            refine (hRN.out.set (by omega : k < v.size + 1) x).congr (fun j hj => ?_)
            by_cases e : j = k
            · subst e; simp [hx]
            · have : decide (j < k) = decide (j < k + 1) := decide_eq_decide.2 (by omega)
              simp [e, this]
          have hNo : Hid (G k = false → RowB wr N (v.size + 1) (fun j => decide (j < k + 1) && G j)) := fun hx => by
            refine hRN.out.congr (fun j hj => ?_)
            by_cases e : j = k
            · subst e; simp [hx]
            · have : decide (j < k) = decide (j < k + 1) := decide_eq_decide.2 (by omega)
              simp [this]
          by_cases h42 : (p[i].toNat : Int) = 42
          · have hS := hid (hstar.out ((byte_eq 42).2 h42) k hkv)
            cases hFk : F k
            · rw [hFk] at hcell
              by_cases hk0 : 0 < k
              · have hprev : wr.cell? ⟨N, k - 1, none⟩ = some (.bool (G (k - 1))) := by
                  have := (hRN.out (k - 1) (by omega)).1
                  simpa [show k - 1 < k by omega] using this
                have hx : Hid (G k = G (k - 1)) := by unfold Hid; rw [hS.out, hFk, decide_eq_true hk0]; rfl
                have hk0' : decide (0 < (k : Int)) = true := by simp; omega
                go_wp2
                go_roundw
                case rel => exact ⟨k + 1, by go_num, by omega, hRF.out.other hbne.out _, hNk.out _ hx.out, Up.set hU4.out hNb _⟩
                case measure => simp [intOf]; omega
              · obtain rfl : k = 0 := by omega
                have hx : Hid (G 0 = false) := by unfold Hid; rw [hS.out, hFk]; rfl
                go_wp2
                go_roundw
                case rel => exact ⟨1, by go_num, by omega, hRF.out.other hbne.out _, hNk.out _ hx.out, Up.set hU4.out hNb _⟩
                case measure => simp [intOf]
            · rw [hFk] at hcell
              have hx : Hid (G k = true) := by unfold Hid; rw [hS.out, hFk]; rfl
              go_wp2
              go_roundw
              case rel => exact ⟨k + 1, by go_num, by omega, hRF.out.other hbne.out _, hNk.out _ hx.out, Up.set hU4.out hNb _⟩
              case measure => simp [intOf]; omega
          · have n42 : p[i] ≠ 42 := fun e => h42 ((byte_eq 42).1 e)
            have d42 : ((p[i].toNat : Int) == 42) = false := by simpa using h42
            by_cases hk0 : 0 < k
            · obtain ⟨k', rfl⟩ : ∃ k', k = k' + 1 := ⟨k - 1, by omega⟩
              have hS := hid (hsucc.out n42 k' (by omega))
              have hpf := (hRF.out k' (by omega)).1
              have hk0' : decide (0 < ((k' : Int) + 1)) = true := decide_eq_true (by omega)
              cases hFk : F k'
              · rw [hFk] at hpf
                have hx : Hid (G (k' + 1) = false) := by unfold Hid; rw [hS.out, hFk]; rfl
                go_wp2
                go_roundw
                case rel => exact ⟨k' + 1 + 1, by go_num, by omega, hRF, hNo.out hx.out, hU4⟩
                case measure => simp [intOf]; omega
              · rw [hFk] at hpf
                by_cases h63 : (p[i].toNat : Int) = 63
                · have hx : Hid (G (k' + 1) = true) := by unfold Hid; rw [hS.out, hFk, decide_eq_true ((byte_eq 63).2 h63)]; rfl
                  have d63 : ((p[i].toNat : Int) == 63) = true := by simpa using h63
                  clear h63
                  go_wp2_with (go_at_call 148; refine (rsmall_any _ _ _).mono ?_; rintro e w' ⟨rfl, rfl⟩)
                  go_roundw
                  case rel => exact ⟨k' + 1 + 1, by go_num, by omega, hRF.out.other hbne.out _, hNk.out _ hx.out, Up.set hU4.out hNb _⟩
                  case measure => simp [intOf]; omega
                · have d63 : ((p[i].toNat : Int) == 63) = false := by simpa using h63
                  have hx : Hid (G (k' + 1) = (((fl fold p[i]).toNat : Int) == ((fl fold v[k']).toNat : Int))) := by
                    unfold Hid
                    rw [hS.out, hFk, decide_eq_false (fun e => h63 ((byte_eq 63).1 e)), Bool.true_and, Bool.false_or, Bool.eq_iff_iff, decide_eq_true_eq, byte_eq, beq_iff_eq]
                  go_wp2_with (go_at_call 148; refine (rsmall_any _ _ _).mono ?_; rintro e w' ⟨rfl, rfl⟩)
                  go_roundw
                  case rel => exact ⟨k' + 1 + 1, by go_num, by omega, hRF.out.other hbne.out _, hNk.out _ hx.out, Up.set hU4.out hNb _⟩
                  case measure => simp [intOf]; omega
            · obtain rfl : k = 0 := by omega
              have hx := hid (hzero.out n42)
              go_wp2
              go_roundw
              case rel => exact ⟨1, by go_num, by omega, hRF, hNo.out hx.out, hU4⟩
              case measure => simp [intOf]
        · have hGrow : Hid (RowB wr N (v.size + 1) G) := hRN.out.congr (fun j hj => by rw [decide_eq_true (by omega), Bool.true_and])
          go_wp2
          go_roundw
          case rel => exact ⟨i + 1, N, rfl, by go_num, by omega, by omega, by rw [HG.out]; exact hGrow, hU4⟩
          case measure => simp [intOf]; omega
    · have c0 := (hR.out v.size (by omega)).1
      go_wp2
      go_ret
      refine ⟨vret_bool ?_, hU.out⟩
      rw [show List.take i (List.map (fl fold) p.data.toList) = List.map (fl fold) p.data.toList from List.take_of_length_le (by simp; omega)]
      unfold dp
      rw [List.take_of_length_le (by simp)]
end Go.Proofs.YtaokifbpakbgdaaGreatDoor

/- Ranges of dates and times: parted at each - or cut at the first, by bytes or by numbers: the same (no program). -/
namespace Go.Proofs.YtaokifbpakbgdaaGreatDoor

theorem spl_one {c : UInt8} {l a : Bs} (h : spl c l = [a]) : l = a ∧ c ∉ l := by
  rcases index_one c l with ⟨_, h2⟩ | ⟨i, _, _, h3, h4⟩
  · rw [spl_none c l h2] at h
    exact ⟨by simpa using h, h2⟩
  · rw [h3, spl_hit c _ _ h4] at h
    have hne := spl_ne c (l.drop (i + 1))
    simp at h
    exact absurd h.2 hne
theorem spl_two {c : UInt8} {l a b : Bs} (h : spl c l = [a, b]) : l = a ++ c :: b ∧ c ∉ a ∧ c ∉ b := by
  rcases index_one c l with ⟨_, h2⟩ | ⟨i, _, _, h3, h4⟩
  · rw [spl_none c l h2] at h; simp at h
  · have h' := h
    rw [h3, spl_hit c _ _ h4] at h'
    simp only [List.cons.injEq] at h'
    obtain ⟨e1, e2⟩ := h'
    obtain ⟨e3, e4⟩ := spl_one e2
    refine ⟨by rw [← e1, ← e3]; exact h3, by rw [← e1]; exact h4, by rw [← e3]; exact e4⟩
theorem spl_many {c : UInt8} {l : Bs} (h1 : (spl c l).length ≠ 1) (h2 : (spl c l).length ≠ 2) : ∃ a b, l = a ++ c :: b ∧ c ∉ a ∧ c ∈ b := by
  rcases index_one c l with ⟨_, k2⟩ | ⟨i, _, _, h3, h4⟩
  · rw [spl_none c l k2] at h1; simp at h1
  · refine ⟨_, _, h3, h4, ?_⟩
    by_cases hb : c ∈ l.drop (i + 1)
    · exact hb
    · exfalso
      rw [h3, spl_hit c _ _ h4, spl_none c _ hb] at h2
      simp at h2
def DT (k : Bs) : Prop := k = [68, 65] ∨ k = [84, 77]
theorem DT.kind {k : Bs} (h : DT k) : IsKind k := by rcases h with rfl | rfl <;> simp [IsKind]
theorem rval_digits {k l : Bs} (hk : DT k) (h : rval k l = true) : digitsB l = true := by
  rcases hk with rfl | rfl
  · have h' : dateB l = true := h
    unfold dateB at h'
    simp only [Bool.and_eq_true] at h'
    exact h'.1.1.2
  · have h' : timeB l = true := h
    unfold timeB at h'
    simp only [Bool.and_eq_true] at h'
    exact h'.1.1.1.2
theorem chkF_rval {k l : Bs} (hk : DT k) : chkF k l = 0 ↔ rval k l = true := by
  rw [rval_chk k l hk.kind]
  cases rval k l <;> simp
theorem chk_rval {k l : Bs} (hk : DT k) : chk k l = 0 ↔ (l = [] ∨ rval k l = true) := by
  unfold chk
  by_cases e : l = []
  · subst e
    have : chkF k [] = 6 := by rcases hk with rfl | rfl <;> decide
    rw [if_pos ⟨this, rfl⟩]; simp
  · rw [if_neg (fun c => e c.2), chkF_rval hk]; simp [e]
theorem pat_no {k p : Bs} (hk : DT k) (hs : rval k p = false) (hl : (spl 45 p).length ≠ 2) : isPatB k p = false := by
  rw [pat_span k p hk]
  by_cases h1 : (spl 45 p).length = 1
  · obtain ⟨a, ha⟩ := List.length_eq_one_iff.1 h1
    obtain ⟨rfl, hn⟩ := spl_one ha
    unfold spanB
    rw [cut_miss _ hn]
    have : ¬ chkF k p = 0 := fun h => by rw [(chkF_rval hk).1 h] at hs; cases hs
    simp [this]
  · obtain ⟨a, b, rfl, ha, hb⟩ := spl_many h1 hl
    unfold spanB
    rw [cut_hit a b ha]
    have : ¬ chk k b = 0 := fun h => by
      rcases (chk_rval hk).1 h with h | h
      · subst h; simp at hb
      · exact no_dash b (rval_digits hk h) hb
    simp [this]
theorem pat_two {k p a b : Bs} (hk : DT k) (h : spl 45 p = [a, b]) : isPatB k p = (!(decide (a = []) && decide (b = [])) && (decide (a = []) || rval k a) && (decide (b = []) || rval k b)) := by
  obtain ⟨rfl, ha, hb⟩ := spl_two h
  rw [pat_span k _ hk]
  unfold spanB
  rw [cut_hit a b ha]
  have e1 : decide (a ++ 45 :: b = [45]) = (decide (a = []) && decide (b = [])) := by
    cases a <;> cases b <;> simp
  have e2 : ∀ l, decide (chk k l = 0) = (decide (l = []) || rval k l) := fun l => by
    rw [Bool.eq_iff_iff]; simp [chk_rval hk]
  simp only [if_true, e1, e2]
theorem fits_two_date {p a b v : Bs} (h : spl 45 p = [a, b]) (hv : v ≠ []) : fitsB [68, 65] p v = withinB a b v := by
  obtain ⟨rfl, ha, _⟩ := spl_two h
  rw [fits_date _ _ hv]
  unfold fitsDateB
  rw [cut_hit a b ha]; rfl
theorem fits_two_time {p a b v : Bs} (h : spl 45 p = [a, b]) (hv : v ≠ []) : fitsB [84, 77] p v = withinB (filledB a [48, 48]) (filledB b [53, 57]) (filledB v [48, 48]) := by
  obtain ⟨rfl, ha, _⟩ := spl_two h
  rw [fits_time _ _ hv]
  unfold fitsTimeB
  rw [cut_hit a b ha]; rfl
theorem fits_empty {k p : Bs} (hk : DT k) : fitsB k p [] = false := by
  rcases hk with rfl | rfl <;> rfl
/- Dates by their numbers. -/
theorem date_rdig {l : Bs} (h : dateB l = true) : l.length = 8 ∧ digitsB l = true ∧ rdig l = num l := by
  unfold dateB at h
  simp only [Bool.and_eq_true, decide_eq_true_eq] at h
  refine ⟨h.1.1.1, h.1.1.2, ?_⟩
  unfold rdig
  rw [if_pos ⟨by omega, by omega, h.1.1.2⟩]
theorem le_date {a b : Bs} (ha : dateB a = true) (hb : dateB b = true) : leB a b = decide (rdig a ≤ rdig b) := by
  obtain ⟨l1, d1, r1⟩ := date_rdig ha
  obtain ⟨l2, d2, r2⟩ := date_rdig hb
  rw [leB_num a b (by omega) d1 d2, r1, r2]
/- Times by their seconds. -/
def secP (l : Bs) (j : Nat) (f : Int) : Int := if j < l.length then num ((l.drop j).take 2) else f
def sq (l : Bs) (f : Int) : Nat → Int
  | 0 => 0
  | m + 1 => sq l f m * 60 + secP l (2 * m) f
theorem time_facts {l : Bs} (h : timeB l = true) : (l.length = 2 ∨ l.length = 4 ∨ l.length = 6) ∧ digitsB l = true ∧ num (l.take 2) ≤ 23 ∧ num ((l.drop 2).take 2) ≤ 59 ∧ num ((l.drop 4).take 2) ≤ 59 := by
  unfold timeB at h
  simp only [Bool.and_eq_true, Bool.or_eq_true, decide_eq_true_eq] at h
  exact ⟨by omega, h.1.1.1.2, h.1.1.2, h.1.2, h.2⟩
theorem fill_parts {l m : Bs} {f : Int} (h : timeB l = true) (hm : m.length = 2) (hd : digitsB m = true) (hf : num m = f) (h0 : 0 ≤ f) (h59 : f ≤ 59) :
    ∃ a b c : Nat, sq l f 3 = 3600 * a + 60 * b + c ∧ num (filledB l m) = 10000 * a + 100 * b + c ∧ b < 60 ∧ c < 60 ∧ (filledB l m).length = 6 ∧ digitsB (filledB l m) = true := by
  obtain ⟨hl, hdg, h1, h2, h3⟩ := time_facts h
  have b0 := num_bd _ (digits_take l 2 hdg)
  have b2 := num_bd _ (digits_take _ 2 (digits_drop l 2 hdg))
  have b4 := num_bd _ (digits_take _ 2 (digits_drop l 4 hdg))
  have hsq : sq l f 3 = (secP l 0 f * 60 + secP l 2 f) * 60 + secP l 4 f := by simp [sq]
  have p0 : secP l 0 f = num (l.take 2) := by unfold secP; rw [if_pos (by omega), List.drop_zero]
  have e : l = l.take 2 ++ ((l.drop 2).take 2 ++ (l.drop 4).take 2) := by
    conv => lhs; rw [← List.take_append_drop 2 l, ← List.take_append_drop 2 (l.drop 2), List.drop_drop]
    congr 2
    rw [List.take_of_length_le (by simp; omega)]
  have t2 : (l.take 2).length = 2 := by simp; omega
  rcases hl with hl | hl | hl
  · have q2 : secP l 2 f = f := by unfold secP; rw [if_neg (by omega)]
    have q4 : secP l 4 f = f := by unfold secP; rw [if_neg (by omega)]
    have hfl : filledB l m = l ++ m ++ m := by
      unfold filledB
      rw [fill_go m 5 l ⟨fun x => by rw [x] at hl; simp at hl, by omega⟩, fill_go m 4 _ ⟨by simp; intro x; rw [x] at hl; simp at hl, by simp; omega⟩, fill_stop m 4 _ (by simp; omega)]
    have e2 : l.take 2 = l := List.take_of_length_le (by omega)
    refine ⟨(num (l.take 2)).toNat, f.toNat, f.toNat, ?_, ?_, by omega, by omega, ?_, ?_⟩
    · rw [hsq, p0, q2, q4]; omega
    · rw [hfl, num_append, num_append, hm, hf, e2]; rw [e2] at b0; omega
    · rw [hfl]; simp [hl, hm]
    · rw [hfl, digitsB_append, digitsB_append]; exact ⟨⟨hdg, hd⟩, hd⟩
  · have q2 : secP l 2 f = num ((l.drop 2).take 2) := by unfold secP; rw [if_pos (by omega)]
    have q4 : secP l 4 f = f := by unfold secP; rw [if_neg (by omega)]
    have hfl : filledB l m = l ++ m := by
      unfold filledB
      rw [fill_go m 5 l ⟨fun x => by rw [x] at hl; simp at hl, by omega⟩, fill_stop m 5 _ (by simp; omega)]
    have e3 : (l.drop 4).take 2 = [] := by rw [List.drop_eq_nil_of_le (by omega)]; rfl
    rw [e3, List.append_nil] at e
    have l3 : ((l.drop 2).take 2).length = 2 := by simp; omega
    refine ⟨(num (l.take 2)).toNat, (num ((l.drop 2).take 2)).toNat, f.toNat, ?_, ?_, by omega, by omega, ?_, ?_⟩
    · rw [hsq, p0, q2, q4]; omega
    · rw [hfl, num_append, hm, hf]
      have : num l = num (l.take 2) * 10 ^ 2 + num ((l.drop 2).take 2) := by
        conv => lhs; rw [e]
        rw [num_append, l3]
      rw [this]; omega
    · rw [hfl]; simp [hl, hm]
    · rw [hfl, digitsB_append]; exact ⟨hdg, hd⟩
  · have q2 : secP l 2 f = num ((l.drop 2).take 2) := by unfold secP; rw [if_pos (by omega)]
    have q4 : secP l 4 f = num ((l.drop 4).take 2) := by unfold secP; rw [if_pos (by omega)]
    have hfl : filledB l m = l := filled6 l m hl
    have l3 : ((l.drop 2).take 2).length = 2 := by simp; omega
    have l4 : ((l.drop 4).take 2).length = 2 := by simp; omega
    refine ⟨(num (l.take 2)).toNat, (num ((l.drop 2).take 2)).toNat, (num ((l.drop 4).take 2)).toNat, ?_, ?_, by omega, by omega, ?_, ?_⟩
    · rw [hsq, p0, q2, q4]; omega
    · rw [hfl]
      have : num l = num (l.take 2) * 10 ^ 4 + (num ((l.drop 2).take 2) * 10 ^ 2 + num ((l.drop 4).take 2)) := by
        conv => lhs; rw [e]
        rw [num_append, num_append, List.length_append, l3, l4]
      rw [this]; omega
    · rw [hfl]; exact hl
    · rw [hfl]; exact hdg
theorem lex_sec' (h m s h' m' s' : Nat) (h1 : m < 60) (h2 : s < 60) (k1 : m' < 60) (k2 : s' < 60) :
    (10000 * h + 100 * m + s : Int) ≤ 10000 * h' + 100 * m' + s' ↔ (3600 * h + 60 * m + s : Int) ≤ 3600 * h' + 60 * m' + s' := by
  rcases Nat.lt_trichotomy h h' with a | a | a <;> rcases Nat.lt_trichotomy m m' with b | b | b <;> omega
theorem le_time {a b m m' : Bs} {f f' : Int} (ha : timeB a = true) (hb : timeB b = true) (hm : m.length = 2) (hd : digitsB m = true) (hf : num m = f) (h0 : 0 ≤ f) (h59 : f ≤ 59)
    (hm' : m'.length = 2) (hd' : digitsB m' = true) (hf' : num m' = f') (h0' : 0 ≤ f') (h59' : f' ≤ 59) : leB (filledB a m) (filledB b m') = decide (sq a f 3 ≤ sq b f' 3) := by
  obtain ⟨x, y, z, e1, e2, e3, e4, e5, e6⟩ := fill_parts ha hm hd hf h0 h59
  obtain ⟨x', y', z', g1, g2, g3, g4, g5, g6⟩ := fill_parts hb hm' hd' hf' h0' h59'
  rw [leB_num _ _ (by omega) e6 g6, e1, e2, g1, g2]
  exact decide_eq_decide.2 (lex_sec' _ _ _ _ _ _ e3 e4 g3 g4)
theorem filled_ne {l m : Bs} {f : Int} (h : timeB l = true) (hm : m.length = 2) (hd : digitsB m = true) (hf : num m = f) (h0 : 0 ≤ f) (h59 : f ≤ 59) : filledB l m ≠ [] := fun e => by
  obtain ⟨_, _, _, _, _, _, _, e5, _⟩ := fill_parts h hm hd hf h0 h59
  rw [e] at e5; simp at e5
end Go.Proofs.YtaokifbpakbgdaaGreatDoor

/- The document's answer (package folioref), eighth part: seconds, starts, span. -/
namespace Go.Proofs.YtaokifbpakbgdaaGreatDoor
open Go.RowKit

theorem starts_any (s t : ByteArray) (w : World) :
    Calls Tryz.prog 89 #[.string s, .string t] w fun e w' => e = .returned (.bool (Lib.hasPrefix s.data.toList t.data.toList)) ∧ w' = w := by
  by_cases h : t.size ≤ s.size
  · have R : Hid (Lib.hasPrefix s.data.toList t.data.toList = ((s.extract 0 t.size).toList == t.toList)) := by
      unfold Hid
      rw [Lib.toList_data, Lib.toList_data, sub_data, List.drop_zero, Nat.sub_zero, Bool.eq_iff_iff, beq_iff_eq]
      unfold Lib.hasPrefix
      rw [List.isPrefixOf_iff_prefix, List.prefix_iff_eq_take, len_list]
      exact eq_comm
    go_enter Tryz.func89, Tryz.ntmps89
    go_wp2
    go_ret
    exact ⟨vret_bool R.out.symm, rfl⟩
  · have R : Hid (Lib.hasPrefix s.data.toList t.data.toList = false) := by
      unfold Hid Lib.hasPrefix
      rw [Bool.eq_false_iff, ne_eq, List.isPrefixOf_iff_prefix]
      intro hp
      have := hp.length_le
      rw [len_list, len_list] at this
      omega
    go_enter Tryz.func89, Tryz.ntmps89
    go_wp2
    go_ret
    exact ⟨vret_bool R.out.symm, rfl⟩
theorem secP_bd {l : Bs} {f : Int} (h : timeB l = true) (h0 : 0 ≤ f) (h59 : f ≤ 59) (j : Nat) : 0 ≤ secP l j f ∧ secP l j f ≤ 99 := by
  obtain ⟨hl, hd, _, _, _⟩ := time_facts h
  unfold secP
  split
  · have := num_lt _ (digits_take _ 2 (digits_drop l j hd)) 2 (by simp; omega) 100 rfl
    omega
  · omega
theorem sq_bd {l : Bs} {f : Int} (h : timeB l = true) (h0 : 0 ≤ f) (h59 : f ≤ 59) : ∀ m, m ≤ 3 → 0 ≤ sq l f m ∧ sq l f m ≤ 1000000 := fun m hm => by
  have a := secP_bd h h0 h59 0
  have b := secP_bd h h0 h59 2
  have c := secP_bd h h0 h59 4
  have hc : m = 0 ∨ m = 1 ∨ m = 2 ∨ m = 3 := by omega
  rcases hc with rfl | rfl | rfl | rfl <;> simp [sq] <;> omega
theorem seconds_any (s : ByteArray) (f : Int) (w : World) (h : Hid (timeB s.data.toList = true)) (h0 : 0 ≤ f) (h59 : f ≤ 59) :
    Calls Tryz.prog 147 #[.string s, .int .i64 f] w fun e w' => e = .returned (.int .i64 (sq s.data.toList f 3)) ∧ w' = w := by
  obtain ⟨hl, hd, _, _, _⟩ := time_facts h.out
  rw [len_list] at hl
  have HD := hid hd
  have hsz : s.size ≤ 6 := by omega
  have hev : s.size % 2 = 0 := by omega
  clear hl hd
  go_enter Tryz.func147, Tryz.ntmps147
  go_wp2
  go_loop [5, 6] (fun x y => ∃ m : Nat, m ≤ 3 ∧ x = .int .i64 (sq s.data.toList f m) ∧ y = .int .i64 ((2 * m : Nat) : Int)) (fun _ y => 6 - (intOf y).toNat)
  case atStart => exact ⟨0, by omega, rfl, rfl⟩
  case round =>
    obtain ⟨m, hm, rfl, rfl⟩ := hrel
    have b1 := sq_bd h.out h0 h59 m hm
    by_cases hlt : m < 3
    · have b2 := secP_bd h.out h0 h59 (2 * m)
      have hs3 : Hid (sq s.data.toList f (m + 1) = sq s.data.toList f m * 60 + secP s.data.toList (2 * m) f) := rfl
      generalize sq s.data.toList f m = q at b1 hs3
      by_cases hin : 2 * m < s.size
      · have hp : Hid (rdig ((s.data.toList.drop (2 * m)).take 2) = secP s.data.toList (2 * m) f) := by
          unfold Hid secP rdig
          rw [if_pos ⟨by simp; omega, by simp; omega, digits_take _ _ (digits_drop _ _ HD.out)⟩, if_pos (by rw [len_list]; exact hin)]
        generalize secP s.data.toList (2 * m) f = d at b2 hs3 hp
        go_wp2_with fail
        go_at_call 145; refine (rsub s _ _ _ (by omega)).mono ?_; rintro e w1 ⟨rfl, rfl⟩
        rw [show 2 * m + 2 - 2 * m = 2 by omega, hp.out]
        go_wp2
        go_round
        case rel => exact ⟨m + 1, by omega, by rw [hs3.out], by go_num⟩
        case measure => simp [intOf]; omega
      · have hp : Hid (secP s.data.toList (2 * m) f = f) := by unfold Hid secP; rw [if_neg (by rw [len_list]; exact hin)]
        go_wp2
        go_round
        case rel => exact ⟨m + 1, by omega, by rw [hs3.out, hp.out], by go_num⟩
        case measure => simp [intOf]; omega
    · obtain rfl : m = 3 := by omega
      go_wp2
      go_ret
      exact ⟨rfl, rfl⟩

/-- What span answers, where it is a range that nothing is wrong with. -/
def spanV (k a b v : Bs) : Bool :=
  if v = [] then false else if k = [68, 65] then (decide (a = []) || decide (rdig a ≤ rdig v)) && (decide (b = []) || decide (rdig v ≤ rdig b))
  else (decide (a = []) || decide (sq a 0 3 ≤ sq v 0 3)) && (decide (b = []) || decide (sq v 0 3 ≤ sq b 59 3))
theorem span_fits {k p a b v : Bs} (hk : DT k) (h : spl 45 p = [a, b]) (ha : a = [] ∨ rval k a = true) (hb : b = [] ∨ rval k b = true) (hv : v = [] ∨ rval k v = true) : fitsB k p v = spanV k a b v := by
  by_cases hv0 : v = []
  · subst hv0; rw [fits_empty hk]; rfl
  · have hv' := hv.resolve_left hv0
    unfold spanV
    rw [if_neg hv0]
    rcases hk with rfl | rfl
    · rw [fits_two_date h hv0, if_pos rfl]
      have dv : dateB v = true := hv'
      unfold withinB
      congr 1
      · rcases ha with ha | ha
        · subst ha; rw [leB_nil v hv0]; simp
        · have da : dateB a = true := ha
          have hne : ¬ a = [] := fun e => by subst e; revert da; decide
          rw [le_date da dv, decide_eq_false hne]; rfl
      · rcases hb with hb | hb
        · subst hb; simp
        · have db : dateB b = true := hb
          have hne : ¬ b = [] := fun e => by subst e; revert db; decide
          rw [le_date dv db, decide_eq_false hne]
    · rw [fits_two_time h hv0, if_neg (by decide)]
      have tv : timeB v = true := hv'
      unfold withinB
      have nv := filled_ne tv (m := [48, 48]) (f := 0) rfl (by decide) (by decide) (by decide) (by decide)
      congr 1
      · rcases ha with ha | ha
        · subst ha; rw [filled_nil, leB_nil _ nv]; simp
        · have ta : timeB a = true := ha
          have hne : ¬ a = [] := fun e => by subst e; revert ta; decide
          rw [le_time ta tv (f := 0) (f' := 0) rfl (by decide) (by decide) (by decide) (by decide) rfl (by decide) (by decide) (by decide) (by decide), decide_eq_false hne]; rfl
      · rcases hb with hb | hb
        · subst hb; rw [filled_nil]; simp
        · have tb : timeB b = true := hb
          have hne : ¬ b = [] := fun e => by subst e; revert tb; decide
          have nb' := filled_ne tb (m := [53, 57]) (f := 59) rfl (by decide) (by decide) (by decide) (by decide)
          rw [le_time tv tb (f := 0) (f' := 59) rfl (by decide) (by decide) (by decide) (by decide) rfl (by decide) (by decide) (by decide) (by decide), decide_eq_false hne, decide_eq_false nb']
theorem len_two {zs : List ByteArray} (h : zs.length = 2) : ∃ x y, zs = [x, y] := by
  match zs, h with
  | [x, y], _ => exact ⟨x, y, rfl⟩
set_option maxHeartbeats 4000000 in
theorem rspan_any (k p v : ByteArray) (w : World) (hk : Hid (DT k.data.toList)) (hp : p.size < 4294967281) (hvs : v.size < 4294967281) (hs : Hid (rval k.data.toList p.data.toList = false)) (hv : Hid (v.data.toList = [] ∨ rval k.data.toList v.data.toList = true)) :
    Calls Tryz.prog 88 #[.string k, .string p, .string v] w fun e w' => e = .returned (.tuple #[.bool (isPatB k.data.toList p.data.toList && fitsB k.data.toList p.data.toList v.data.toList), .bool (isPatB k.data.toList p.data.toList)]) ∧ Up w w' := by
  go_enter Tryz.func88, Tryz.ntmps88
  go_wp2_with fail
  go_at_call 87; refine (parts_any p 45 _ _ rfl hp).mono ?_; rintro e w1 ⟨b, cap, zs, rfl, hz, hzl, hcell, hup⟩
  have U1 := hid hup
  clear hup
  by_cases h2 : zs.length = 2
  · obtain ⟨x, y, rfl⟩ := len_two h2
    have c0 : w1.cell? ⟨b, 0, none⟩ = some (.string x) := hcell.out 0 (by simp)
    have c1 : w1.cell? ⟨b, 1, none⟩ = some (.string y) := hcell.out 1 (by simp)
    have hspl : Hid (spl 45 p.data.toList = [x.data.toList, y.data.toList]) := hz.out.symm
    have hxs : x.size < 4294967281 := by have := part_size hz.out (j := 0) (by simp); rw [len_list] at this; exact Nat.lt_of_le_of_lt this hp
    have hys : y.size < 4294967281 := by have := part_size hz.out (j := 1) (by simp); rw [len_list] at this; exact Nat.lt_of_le_of_lt this hp
    have hP := hid (pat_two hk.out hspl.out)
    clear hz hcell hzl h2
    simp only [List.length_cons, List.length_nil, Nat.reduceAdd]
    by_cases hboth : x.toList = [] ∧ y.toList = []
    · obtain ⟨hx, hy⟩ := hboth
      have hF : Hid (isPatB k.data.toList p.data.toList = false) := by
        unfold Hid
        rw [hP.out, ← Lib.toList_data x, ← Lib.toList_data y, hx, hy]; rfl
      go_wp2
      go_ret2
      exact ⟨by rw [hF.out]; rfl, U1.out⟩
    · have hB : Hid ((decide (x.data.toList = []) && decide (y.data.toList = [])) = false) := by
        unfold Hid; rw [← Lib.toList_data x, ← Lib.toList_data y]; simpa using hboth
      have hway : (¬ x.toList = []) ∨ (x.toList = [] ∧ ¬ y.toList = []) := by
        by_cases hx : x.toList = []
        · exact Or.inr ⟨hx, fun hy => hboth ⟨hx, hy⟩⟩
        · exact Or.inl hx
      have hgo : ∀ (Q : Prop), ((x.toList.isEmpty = false) → Q) → ((x.toList = [] ∧ y.toList.isEmpty = false) → Q) → Q := fun Q f g => by
        rcases hway with h | ⟨h1, h2⟩
        · exact f (by simpa using h)
        · exact g ⟨h1, by simpa using h2⟩
      have HGO := hid hgo
      clear hboth hway hgo
      apply HGO.out
      all_goals intro hfirst
      all_goals
        go_wp2_with fail
        clear hfirst HGO
        go_loopw [9] (fun z ws => ∃ m : Nat, m ≤ 2 ∧ z = .int .i64 m ∧ Hid (0 < m → (x.data.toList = [] ∨ rval k.data.toList x.data.toList = true)) ∧ Hid (1 < m → (y.data.toList = [] ∨ rval k.data.toList y.data.toList = true)) ∧ Hid (Up w1 ws)) (fun z _ => 2 - (intOf z).toNat)
        case atStart => exact ⟨0, by omega, rfl, fun h => absurd h (by omega), fun h => absurd h (by omega), Up.refl _⟩
        case round =>
          obtain ⟨m, hm, rfl, ox, oy, U⟩ := hrel
          have hm3 : m = 0 ∨ m = 1 ∨ m = 2 := by omega
          clear hm
          rcases hm3 with rfl | rfl | rfl
          · have d0 := U.out.cell c0
            by_cases he : x.toList = []
            · have O : Hid (x.data.toList = [] ∨ rval k.data.toList x.data.toList = true) := Or.inl (by rw [← Lib.toList_data]; exact he)
              go_wp2
              go_roundw
              case rel => exact ⟨1, by omega, by go_num, fun _ => O.out, fun h => absurd h (by omega), U⟩
              case measure => simp [intOf]
            · have h0 : 0 < x.size := by
                rcases Nat.eq_zero_or_pos x.size with h | h
                · exact absurd (by rw [Lib.toList_data]; exact List.eq_nil_of_length_eq_zero (by rw [len_list]; exact h)) he
                · exact h
              have hie : x.toList.isEmpty = false := by simpa using he
              have HE := hid he
              clear he
              go_wp2_with fail
              go_at_call 43; refine (rvalue_any _ _ _ hxs h0).mono ?_; rintro e w2 ⟨rfl, u2⟩
              have U2 := hid (U.out.trans u2)
              clear u2
              cases hr : rval k.data.toList x.data.toList
              · have hF : Hid (isPatB k.data.toList p.data.toList = false) := by
                  unfold Hid
                  rw [hP.out, hr, decide_eq_false (fun e => HE.out (by rw [Lib.toList_data]; exact e) : ¬ x.data.toList = [])]; simp
                go_wp2
                go_ret2
                exact ⟨by rw [hF.out]; rfl, U1.out.trans U2.out⟩
              · have O : Hid (x.data.toList = [] ∨ rval k.data.toList x.data.toList = true) := Or.inr hr
                go_wp2_with fail
                go_roundw
                case rel => exact ⟨1, by omega, by go_num, fun _ => O.out, fun h => absurd h (by omega), U2⟩
                case measure => simp [intOf]
          · have d1 := U.out.cell c1
            by_cases he : y.toList = []
            · have O : Hid (y.data.toList = [] ∨ rval k.data.toList y.data.toList = true) := Or.inl (by rw [← Lib.toList_data]; exact he)
              go_wp2
              go_roundw
              case rel => exact ⟨2, by omega, by go_num, fun _ => ox.out (by omega), fun _ => O.out, U⟩
              case measure => simp [intOf]
            · have h0 : 0 < y.size := by
                rcases Nat.eq_zero_or_pos y.size with h | h
                · exact absurd (by rw [Lib.toList_data]; exact List.eq_nil_of_length_eq_zero (by rw [len_list]; exact h)) he
                · exact h
              have hie : y.toList.isEmpty = false := by simpa using he
              have HE := hid he
              clear he
              go_wp2_with fail
              go_at_call 43; refine (rvalue_any _ _ _ hys h0).mono ?_; rintro e w2 ⟨rfl, u2⟩
              have U2 := hid (U.out.trans u2)
              clear u2
              cases hr : rval k.data.toList y.data.toList
              · have hF : Hid (isPatB k.data.toList p.data.toList = false) := by
                  unfold Hid
                  rw [hP.out, hr, decide_eq_false (fun e => HE.out (by rw [Lib.toList_data]; exact e) : ¬ y.data.toList = [])]; simp
                go_wp2
                go_ret2
                exact ⟨by rw [hF.out]; rfl, U1.out.trans U2.out⟩
              · have O : Hid (y.data.toList = [] ∨ rval k.data.toList y.data.toList = true) := Or.inr hr
                go_wp2_with fail
                go_roundw
                case rel => exact ⟨2, by omega, by go_num, fun _ => ox.out (by omega), fun _ => O.out, U2⟩
                case measure => simp [intOf]
          · have d0 := U.out.cell c0
            have d1 := U.out.cell c1
            have OX := hid (ox.out (by omega))
            have OY := hid (oy.out (by omega))
            have hT : Hid (isPatB k.data.toList p.data.toList = true) := by
              unfold Hid
              have q1 : (decide (x.data.toList = []) || rval k.data.toList x.data.toList) = true := by simpa using OX.out
              have q2 : (decide (y.data.toList = []) || rval k.data.toList y.data.toList) = true := by simpa using OY.out
              rw [hP.out, hB.out, q1, q2]; rfl
            have hV : Hid (fitsB k.data.toList p.data.toList v.data.toList = spanV k.data.toList x.data.toList y.data.toList v.data.toList) := span_fits hk.out hspl.out OX.out OY.out hv.out
            by_cases hve : v.toList = []
            · have hf : Hid (spanV k.data.toList x.data.toList y.data.toList v.data.toList = false) := by
                unfold Hid spanV; rw [if_pos (by rw [← Lib.toList_data]; exact hve)]
              go_wp2
              go_ret2
              exact ⟨by rw [hT.out, hV.out, hf.out]; rfl, U1.out.trans U.out⟩
            · have hvie : v.toList.isEmpty = false := by simpa using hve
              have hvn : Hid (¬ v.data.toList = []) := by rw [Lib.toList_data] at hve; exact hve
              have hvr := hid (hv.out.resolve_left hvn.out)
              clear hve
              rcases hk.out with hkd | hkt
              · have hk1 : k.toList = [68, 65] := by rw [Lib.toList_data]; exact hkd
                have hf : Hid (spanV k.data.toList x.data.toList y.data.toList v.data.toList = ((decide (x.data.toList = []) || decide (rdig x.data.toList ≤ rdig v.data.toList)) && (decide (y.data.toList = []) || decide (rdig v.data.toList ≤ rdig y.data.toList)))) := by
                  unfold Hid spanV; rw [if_neg hvn.out, if_pos hkd]
                clear hkd
                by_cases hx : x.toList = []
                all_goals
                  by_cases hy : y.toList = []
                all_goals
                  by_cases hxv : rdig x.data.toList ≤ rdig v.data.toList
                all_goals
                  have ex : decide (x.data.toList = []) = decide (x.toList = []) := by rw [Lib.toList_data]
                  have ey : decide (y.data.toList = []) = decide (y.toList = []) := by rw [Lib.toList_data]
                  have EX := hid ex
                  have EY := hid ey
                  clear ex ey
                  have hxi : x.toList.isEmpty = decide (x.toList = []) := isEmpty_dec _
                  have hyi : y.toList.isEmpty = decide (y.toList = []) := isEmpty_dec _
                  simp only [hx, hy, decide_true, decide_false] at hxi hyi
                  go_wp2_with (go_at_call 145; refine (rdigits_any _ _ (by omega)).mono ?_; rintro e w' ⟨rfl, rfl⟩)
                  go_ret2
                  refine ⟨?_, U1.out.trans U.out⟩
                  rw [hT.out, hV.out, hf.out, EX.out, EY.out]
                  simp [hx, hy] <;> (intros; omega)
              · have hk1 : k.toList = [84, 77] := by rw [Lib.toList_data]; exact hkt
                have hf : Hid (spanV k.data.toList x.data.toList y.data.toList v.data.toList = ((decide (x.data.toList = []) || decide (sq x.data.toList 0 3 ≤ sq v.data.toList 0 3)) && (decide (y.data.toList = []) || decide (sq v.data.toList 0 3 ≤ sq y.data.toList 59 3)))) := by
                  unfold Hid spanV; rw [if_neg hvn.out, if_neg (by rw [hkt]; decide)]
                have tv : Hid (timeB v.data.toList = true) := by have := hvr.out; rw [hkt] at this; exact this
                have tx : Hid (¬ x.toList = [] → timeB x.data.toList = true) := fun hn => by
                  have := OX.out.resolve_left (fun e => hn (by rw [Lib.toList_data]; exact e)); rw [hkt] at this; exact this
                have ty : Hid (¬ y.toList = [] → timeB y.data.toList = true) := fun hn => by
                  have := OY.out.resolve_left (fun e => hn (by rw [Lib.toList_data]; exact e)); rw [hkt] at this; exact this
                clear hkt
                by_cases hx : x.toList = []
                all_goals
                  by_cases hy : y.toList = []
                all_goals
                  by_cases hxv : sq x.data.toList 0 3 ≤ sq v.data.toList 0 3
                all_goals
                  have ex : decide (x.data.toList = []) = decide (x.toList = []) := by rw [Lib.toList_data]
                  have ey : decide (y.data.toList = []) = decide (y.toList = []) := by rw [Lib.toList_data]
                  have EX := hid ex
                  have EY := hid ey
                  clear ex ey
                  have hxi : x.toList.isEmpty = decide (x.toList = []) := isEmpty_dec _
                  have hyi : y.toList.isEmpty = decide (y.toList = []) := isEmpty_dec _
                  simp only [hx, hy, decide_true, decide_false] at hxi hyi
                  have HX := hid hx
                  have HY := hid hy
                  go_wp2_with (go_at_call 147; refine (seconds_any _ _ _ (by first | exact tv | exact tx.out HX.out | exact ty.out HY.out) (by omega) (by omega)).mono ?_; rintro e w' ⟨rfl, rfl⟩)
                  go_ret2
                  refine ⟨?_, U1.out.trans U.out⟩
                  rw [hT.out, hV.out, hf.out, EX.out, EY.out]
                  simp [hx, hy] <;> (intros; omega)
  · have hF : Hid (isPatB k.data.toList p.data.toList = false) := pat_no hk.out hs.out (by rw [← hz.out, List.length_map]; exact h2)
    have h2' : ((zs.length : Int) != 2) = true := by simp; omega
    go_wp2
    go_ret2
    exact ⟨by rw [hF.out]; rfl, U1.out⟩
end Go.Proofs.YtaokifbpakbgdaaGreatDoor

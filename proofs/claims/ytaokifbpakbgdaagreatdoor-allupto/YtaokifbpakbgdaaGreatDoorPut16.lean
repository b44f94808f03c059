/-
  Several texts in one; what each one has stands at its head.
-/
import Derived.Test.YtaokifbpakbgdaaGreatDoorPut15
/- Package folioref, the document's own answer on data sets: numbers, tags and marks at a place. -/
namespace Go.Proofs.YtaokifbpakbgdaaGreatDoor
open Go.RowKit

theorem win_cons {s : By} {a e : Nat} (h : a < e) (he : e ≤ s.length) : win s a e = s[a] :: win s (a + 1) e := by
  unfold win
  rw [List.drop_eq_getElem_cons (by rw [List.length_take]; omega), List.getElem_take]
theorem rnum_any (w : World) (s : By) (at_ k : Nat) (hs : s.length ≤ 16384) (hk : k ≤ 4) (h : at_ + k ≤ s.length) :
    Calls Tryz.prog 262 #[.string (bs s), .int .i64 at_, .int .i64 k] w fun e w' => e = .returned (.int .i64 (numA s at_ k)) ∧ w' = w := by
  have hz := bs_size s
  go_enter Tryz.func262, Tryz.ntmps262
  go_wp2_with fail
  go_loop [7, 8] (fun n i => ∃ j : Nat, j ≤ k ∧ i = .int .i64 ((j : Int) - 1) ∧ n = .int .i64 (le (win s (at_ + j) (at_ + k)))) (fun _ i => (intOf i + 1).toNat)
  case atStart => exact ⟨k, Nat.le_refl _, rfl, by rw [win_self _ _ h]; rfl⟩
  case round =>
    obtain ⟨j, hj, rfl, rfl⟩ := hrel
    have hle := le_lt (win s (at_ + j) (at_ + k))
    rw [win_length h] at hle
    rcases Nat.eq_zero_or_pos j with rfl | hj0
    · go_wp2
      go_ret
      exact ⟨rfl, rfl⟩
    · obtain ⟨i, rfl⟩ : ∃ i, j = i + 1 := ⟨j - 1, by omega⟩
      have hle2 : le (win s (at_ + (i + 1)) (at_ + k)) < 16777216 := Nat.lt_of_lt_of_le hle (Nat.pow_le_pow_right (n := 256) (by decide) (show at_ + k - (at_ + (i + 1)) ≤ 3 by omega))
      clear hle
      have hstep := hid (show le (win s (at_ + i) (at_ + k)) = s[at_ + i].toNat + 256 * le (win s (at_ + (i + 1)) (at_ + k)) by rw [win_cons (by omega) h]; rfl)
      have hc := hid s[at_ + i].toNat_lt
      generalize le (win s (at_ + (i + 1)) (at_ + k)) = r at hle2 hstep
      have e1 : ((i + 1 : Nat) : Int) - 1 = (i : Int) := by omega
      rw [e1]
      have hlt : at_ + i < s.length := by omega
      have hlt2 : at_ + i < (bs s).size := by rw [bs_size]; omega
      go_wp2
      go_round
      case rel =>
        refine ⟨i, by omega, rfl, ?_⟩
        rw [hstep.out]
        have e2 : (bs s)[at_ + i]'hlt2 = s[at_ + i] := rfl
        simp only [e2]
        have hc2 := hc.out
        generalize s[at_ + i].toNat = c at hc2
        rw [w64 (c : Int) (by omega), w64 _ (by omega)]
        go_num
      case measure => simp [intOf]
theorem rtagAt_any (w : World) (s : By) (at_ : Nat) (hs : s.length ≤ 16384) (h : at_ + 4 ≤ s.length) :
    Calls Tryz.prog 261 #[.string (bs s), .int .i64 at_] w fun e w' => e = .returned (.int .i64 (tagA s at_)) ∧ w' = w := by
  have h1 := numA_lt (s := s) (a := at_) (k := 2) (by omega)
  have h2 := numA_lt (s := s) (a := at_ + 2) (k := 2) (by omega)
  rw [show (256 : Nat) ^ 2 = 65536 from rfl] at h1 h2
  go_enter Tryz.func261, Tryz.ntmps261
  go_wp2_with fail
  go_at_call 262
  refine (rnum_any w s at_ 2 hs (by decide) (by omega)).mono ?_
  rintro e w1 ⟨rfl, rfl⟩
  have ht := hid (show tagA s at_ = 65536 * numA s at_ 2 + numA s (at_ + 2) 2 from rfl)
  generalize hn1 : numA s at_ 2 = n1 at h1 ht
  clear hn1
  go_wp2_with fail
  go_at_call 262
  refine (rnum_any w1 s (at_ + 2) 2 hs (by decide) (by omega)).mono ?_
  rintro e w2 ⟨rfl, rfl⟩
  generalize hn2 : numA s (at_ + 2) 2 = n2 at h2 ht
  clear hn2
  go_wp2
  go_ret
  exact ⟨ret_int (by rw [ht.out]; omega), rfl⟩
theorem rmark_any (w : World) (s : By) (a z M : Nat) (hs : s.length ≤ 16384) (haz : a ≤ z) (hz : z ≤ s.length) :
    Calls Tryz.prog 218 #[.string (bs s), .int .i64 a, .int .i64 z, .int .i64 M] w fun e w' => e = .returned (.bool (markB M (win s a z))) ∧ w' = w := by
  rw [markB_win M hz haz]
  by_cases h8 : a + 8 ≤ z
  · have ht := tagA_lt (s := s) (a := a) (by omega)
    have hn := numA_lt (s := s) (a := a + 4) (k := 4) (by omega)
    rw [show (256 : Nat) ^ 4 = 4294967296 from rfl] at hn
    have hd : Hid (decide (a + 8 ≤ z ∧ tagA s a = M ∧ numA s (a + 4) 4 = 0) = (((tagA s a : Nat) : Int) == (M : Int) && ((numA s (a + 4) 4 : Nat) : Int) == 0)) := by
      unfold Hid
      rw [Bool.eq_iff_iff]
      simp only [decide_eq_true_eq, Bool.and_eq_true, beq_iff_eq]
      omega
    rw [hd.out]
    clear hd
    have c1 := rtagAt_any w s a hs (by omega)
    have c2 := rnum_any w s (a + 4) 4 hs (by decide) (by omega)
    generalize tagA s a = t at ht c1 ⊢
    generalize numA s (a + 4) 4 = k at hn c2 ⊢
    go_enter Tryz.func218, Tryz.ntmps218
    go_wp2_with fail
    go_at_call 261
    refine c1.mono ?_
    clear c1
    rintro e w1 ⟨rfl, rfl⟩
    go_wp2_with fail
    go_at_call 262
    refine c2.mono ?_
    clear c2
    rintro e w2 ⟨rfl, rfl⟩
    by_cases h1 : ((t : Int) == (M : Int)) = true
    · go_wp2
      all_goals go_ret
      all_goals exact ⟨by simp_all, rfl⟩
    · have h1' : ((t : Int) == (M : Int)) = false := by simpa using h1
      clear h1
      go_wp2
      go_ret
      exact ⟨by simp_all, rfl⟩
  · have hd : decide (a + 8 ≤ z ∧ tagA s a = M ∧ numA s (a + 4) 4 = 0) = false := decide_eq_false (fun e => h8 e.1)
    rw [hd]
    clear hd
    go_enter Tryz.func218, Tryz.ntmps218
    go_wp2
    go_ret
    exact ⟨rfl, rfl⟩
end Go.Proofs.YtaokifbpakbgdaaGreatDoor

/- Package folioref, the document's own answer on data sets: a set of elements and a sequence of items from a place on. -/
namespace Go.Proofs.YtaokifbpakbgdaaGreatDoor
open Go.RowKit

/-- How reading from a place on ends: what was read, and the place behind it; or -1. -/
def RefEnds {α : Type} (s : By) (z : Nat) (w : World) (o : Option (α × By)) (bad : Value → Prop) (P : World → Value → α → Prop) (e : Ending) (w' : World) : Prop :=
  Below w.heap.size w w' ∧ match o with
    | none => ∃ v, bad v ∧ e = .returned (.tuple #[v, .int .i64 (-1)])
    | some (x, r) => ∃ v b, r = win s b z ∧ b ≤ z ∧ e = .returned (.tuple #[v, .int .i64 (b : Nat)]) ∧ P w' v x
theorem RefEnds.bad {α : Type} {s : By} {z : Nat} {w w' : World} {o : Option (α × By)} {bad : Value → Prop} {P : World → Value → α → Prop} {e : Ending} {v : Value} (ho : o = none) (hu : Below w.heap.size w w') (hv : bad v) (he : e = .returned (.tuple #[v, .int .i64 (-1)])) : RefEnds s z w o bad P e w' := by
  subst ho
  exact ⟨hu, v, hv, he⟩
theorem RefEnds.ok {α : Type} {s : By} {z b : Nat} {w w' : World} {o : Option (α × By)} {bad : Value → Prop} {P : World → Value → α → Prop} {e : Ending} {v : Value} {x : α} {r : By} (ho : o = some (x, r)) (hu : Below w.heap.size w w') (hr : r = win s b z) (hb : b ≤ z) (he : e = .returned (.tuple #[v, .int .i64 (b : Nat)])) (hp : P w' v x) : RefEnds s z w o bad P e w' := by
  subst ho
  exact ⟨hu, v, b, hr, hb, he, hp⟩
theorem ret_vi {v : Value} {x y : Int} (h : x = y) : Ending.returned (.tuple #[v, .int .i64 x]) = Ending.returned (.tuple #[v, .int .i64 y]) := by rw [h]
def badE (v : Value) : Prop := ∃ t k u a l c, v = .agg #[.int .i64 t, .string k, .string u, .slice a l c]
def badN (v : Value) : Prop := v = .slice none 0 0
/-- What is asked of folioref's element, at a depth. -/
def ElR (m : Nat) : Prop := ∀ (n : Nat) (w : World) (s : By) (a z : Nat), s.length ≤ 16384 → a ≤ z → z ≤ s.length → z - a < m + 4 →
  Calls Tryz.prog 219 #[.string (bs s), .int .i64 a, .int .i64 z] w (RefEnds s z w (one (elP m n) (win s a z)) badE fun w' v x => ∃ bl, EV w' n v x bl ∧ New w w' bl)
theorem map_id_nil {α : Type} (o : Option (List α × By)) : o = o.map (fun p => ([] ++ p.1, p.2)) := by cases o <;> simp
theorem New.below {w0 w w' : World} {l : List Nat} (h : New w0 w l) (k : Below w.heap.size w w') : ∀ j ∈ l, w'.heap[j]? = w.heap[j]? := fun j hj => k.block j (h.2 j hj).2
theorem four_new (w : World) (T : TypeId) (c0 c1 c2 c3 : Value) (b : Nat) (hb : b = w.heap.size) : ∀ j u, [c0, c1, c2, c3][j]? = some u → (w.alloc (.cells #[c0, c1, c2, c3] T)).cell? ((⟨b, 0, none⟩ : Addr).add j) = some u := by
  subst hb
  exact four_cells w T c0 c1 c2 c3
set_option maxHeartbeats 1000000 in
set_option maxRecDepth 20000 in
theorem rset_any (m : Nat) (H : ElR m) (n : Nat) (w : World) (s : By) (a z : Nat) (o : Bool) (hs : s.length ≤ 16384) (haz : a ≤ z) (hz : z ≤ s.length) (hm : z - a < m + 4) :
    Calls Tryz.prog 160 #[.string (bs s), .int .i64 a, .int .i64 z, .bool o] w (RefEnds s z w (setP o 4294893581 (elP m n) (win s a z)) badN fun w' v l => ∃ bl, Ow w' n v l bl ∧ New w w' bl) := by
  obtain ⟨i0, hi, hz0, hz1, hz2⟩ := info_parts info_el
  have HI := hid hi
  clear hi
  have hE := elP_eats m n
  have hM := elP_mark m n 4294893581 (by decide)
  go_enter Tryz.func160, Tryz.ntmps160
  go_wp2_with fail
  go_loopw [1, 10] (fun at_ v wr => ∃ (b : Nat) (done : List (El n)) (xs : List Value) (cs : List Nat), at_ = .int .i64 b ∧ a ≤ b ∧ b ≤ z ∧ Hid (setP o 4294893581 (elP m n) (win s a z) = (setP o 4294893581 (elP m n) (win s b z)).map (fun p => (done ++ p.1, p.2))) ∧ Hid (done.length + (z - b) ≤ z - a) ∧ Hid (Below w.heap.size w wr) ∧
      Hid (wr.ownsRow 0 73 4 v done.length xs) ∧ Hid (Ls 4 (CE wr n) xs done cs) ∧ Hid (New w wr (v.ownBlock.toList ++ cs))) (fun at_ _ _ => z - (intOf at_).toNat)
  case atStart => exact ⟨a, [], [], [], rfl, Nat.le_refl _, haz, map_id_nil _, by unfold Hid; simp, Below.refl _ _, World.ownsRow_nil _ _ _ _, ⟨rfl, rfl⟩, New.nil _ _⟩
  case round =>
    obtain ⟨b, done, xs, cs, rfl, hab, hbz, hspec, hlen, hup, hown, hes, hnew⟩ := hrel
    have hwl := hid (win_length (s := s) (a := b) hz)
    have hcall := hid (H n wr s b z hs hbz hz (by omega))
    by_cases hfin : (o = true ∧ markB 4294893581 (win s b z) = true) ∨ (o = false ∧ b = z)
    · rcases hfin with ⟨rfl, hmk⟩ | ⟨rfl, rfl⟩
      · have h8 : b + 8 ≤ z := by
          rw [markB_win _ hz hbz] at hmk
          exact (of_decide_eq_true hmk).1
        have hsp := hid (show setP true 4294893581 (elP m n) (win s a z) = some (done, win s (b + 8) z) by rw [hspec.out, setP_mark hE hmk, win_drop]; simp)
        have c1 := rmark_any wr s b z 4294893581 hs hbz hz
        rw [hmk] at c1
        clear hmk hcall
        go_wp2_with fail
        go_at_call 218
        refine c1.mono ?_
        clear c1
        rintro e w1 ⟨rfl, rfl⟩
        go_wp2
        go_ret2
        refine RefEnds.ok hsp.out hup.out rfl h8 (ret_vi (by omega)) ⟨_, ?_, hnew.out⟩
        rw [Ow_eq]
        exact ⟨xs, cs, hown.out, hes.out, rfl⟩
      · have hsp := hid (show setP false 4294893581 (elP m n) (win s a b) = some (done, win s b b) by rw [hspec.out, win_self _ _ hz, setP_end]; simp)
        clear hcall
        go_wp2
        go_ret2
        refine RefEnds.ok hsp.out hup.out rfl (Nat.le_refl _) (ret_vi rfl) ⟨_, ?_, hnew.out⟩
        rw [Ow_eq]
        exact ⟨xs, cs, hown.out, hes.out, rfl⟩
    · have hcase : Hid ((o = true ∧ markB 4294893581 (win s b z) = false) ∨ (o = false ∧ win s b z ≠ [])) := by
        cases o with
        | true => exact Or.inl ⟨rfl, by simpa using hfin⟩
        | false =>
          refine Or.inr ⟨rfl, fun e => ?_⟩
          have h1 := hwl.out
          rw [e, List.length_nil] at h1
          exact hfin (Or.inr ⟨rfl, by omega⟩)
      have hnone := hid (fun h => setP_none (M := 4294893581) (f := elP m n) hE hcase.out h)
      have hsome := hid (fun x r h => setP_one (M := 4294893581) (f := elP m n) (x := x) (r := r) hE hM hcase.out h)
      have heats := hid (fun x r h => one_eats (f := elP m n) (s := win s b z) (x := x) (r := r) hE h)
      cases o
      case' true =>
        have c1 := rmark_any wr s b z 4294893581 hs hbz hz
        rw [show markB 4294893581 (win s b z) = false by simpa using hfin] at c1
        clear hfin
        go_wp2_with fail
        go_at_call 218
        refine c1.mono ?_
        clear c1
        rintro e w1 ⟨rfl, rfl⟩
      case' false =>
        have hne : ((b : Int) == (z : Int)) = false := by
          have : ¬ b = z := fun e => hfin (Or.inr ⟨rfl, e⟩)
          simp; omega
        clear hfin
      all_goals clear hcase
      all_goals
        go_wp2_with fail
        go_at_call 219
        refine hcall.out.mono ?_
        clear hcall
        generalize hone : one (elP m n) (win s b z) = oo at hnone hsome heats
        have hone' := hid hone
        clear hone
        cases oo with
        | none =>
          rintro e w2 ⟨u2, v, ⟨t', k', x', a', l', c', rfl⟩, rfl⟩
          have U2 := hid (hup.out.trans (u2.mono hup.out.size))
          have hX := Four.new w2 (.int .i64 t') (.string k') (.string x') (.slice a' l' c')
          have U3 := hid (Below.alloc U2.out U2.out.size (.cells #[.int .i64 t', .string k', .string x', .slice a' l' c'] 73))
          have hn0 := hid (hnone.out rfl)
          clear u2 hnone hsome heats
          go_wp2
          go_ret2
          exact RefEnds.bad (by rw [hspec.out, hn0.out]; rfl) U3.out rfl rfl
        | some q =>
          obtain ⟨x, r⟩ := q
          rintro e w2 ⟨u2, v, b2, hr, hb2, rfl, bl, ⟨t', k', x', a', l', c', rfl, hce⟩, hbl⟩
          have hs0 := hid (hsome.out x r rfl)
          have hl0 := heats.out x r rfl
          rw [hwl.out, hr, win_length hz] at hl0
          rw [hr] at hs0
          clear hnone hsome heats hr
          have u3 : Below w2.heap.size w2 (w2.alloc (.cells #[.int .i64 t', .string k', .string x', .slice a' l' c'] 73)) := Below.alloc (Below.refl _ _) (Nat.le_refl _) _
          have u13 := u2.trans (u3.mono u2.size)
          have hold := hnew.out.below u13
          have hown3 := hid (ownsRow_keep hown.out (fun j hj => hold j (List.mem_append_left _ hj)))
          have hes3 := hid (hes.out.mono (R' := CE (w2.alloc (.cells #[.int .i64 t', .string k', .string x', .slice a' l' c'] 73)) n) (fun c y b' hb' _ hr => hr.keep (fun j hj => hold j (List.mem_append_right _ (hb' j hj)))))
          have hce3 := hid (hce.keep (w' := w2.alloc (.cells #[.int .i64 t', .string k', .string x', .slice a' l' c'] 73)) (hbl.below u3))
          have hnew3 := hid ((New.add (hnew.out) hbl hup.out.size u2.size).more u3.size)
          have U3 := hid (hup.out.trans (u13.mono hup.out.size))
          have hX := (Four.new w2 (.int .i64 t') (.string k') (.string x') (.slice a' l' c')).cells
          obtain ⟨⟨x0, x1, x2, x3⟩, _⟩ := hX
          clear hold u13 u3 u2 hce hbl
          go_wp2_with (at_builtin; refine wpList_append_sep _ rfl _ _ 59 rfl 73 i0 _ 4 64 Tryz.underlying59 HI.out hz0 hz1 hz2 rfl (by decide) _ _ _ rfl (hown3.out.alloc _) ⟨w2.heap.size + 1, 0, none⟩ 1 1 [.int .i64 t', .string k', .string x', .slice a' l' c'] rfl rfl (four_new _ _ _ _ _ _ _ (by simp)) four_one (by unfold maxLen; have := hlen.out; omega) (by have := hlen.out; omega) ?_)
          intro v' w3 hown' hg hv
          have hz3 := hup.out.size
          have R := hid (Row.push (R := fun w => CE w n) (fun _ _ _ _ _ h k => h.keep k) hes3.out rfl hce3.out U3.out.size hnew3.out hown' hg hv)
          have U4 := hid ((UpB.of_below (b := w.heap.size) (Below.alloc U3.out U3.out.size (.cells #[.int .i64 t', .string k', .string x', .slice a' l' c'] 73))).grown hg (fun k hk => Or.inr ((hnew.out.2 k (List.mem_append_left _ (by rw [hk]; simp))).1)) |>.below (Nat.le_refl _) (Nat.le_refl _))
          clear hown' hg hv
          go_wp2
          go_roundw
          case rel =>
            refine ⟨b2, done ++ [x], _, _, rfl, by omega, hb2, ?_, ?_, U4, R.out.2.1, R.out.1, R.out.2.2⟩
            · unfold Hid
              rw [hspec.out, hs0.out]
              cases setP _ 4294893581 (elP m n) (win s b2 z) <;> simp
            · have := hlen.out
              unfold Hid
              rw [List.length_append, List.length_singleton]
              omega
          case measure => simp [intOf]; omega
end Go.Proofs.YtaokifbpakbgdaaGreatDoor

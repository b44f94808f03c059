/-
  Several texts in one; what each one has stands at its head.
-/
import Derived.Test.YtaokifbpakbgdaaGreatDoorPut4
import Derived.Handy
import Derived.Test.YtaokifbpakbgdaaGreatDoorPut3
/- Package dataset's reader, the rest of its recursion: items, sequences, elements. -/
namespace Go.Proofs.YtaokifbpakbgdaaGreatDoor
open Go.RowKit

/-- The one cell of an item. -/
def IR (n : Nat) (w : World) (c : List Value) (s : List (El n)) (b : List Nat) : Prop := ∃ sv, c = [sv] ∧ Ow w n sv s b
theorem IR.keep {n : Nat} : ∀ (w w' : World) (c : List Value) (s : List (El n)) (b : List Nat), IR n w c s b → (∀ j ∈ b, w'.heap[j]? = w.heap[j]?) → IR n w' c s b := by
  rintro w w' c s b ⟨sv, rfl, h⟩ k
  exact ⟨sv, rfl, h.keep _ _ _ _ k⟩
theorem one_cell (w : World) (T : TypeId) (c0 : Value) : ∀ j u, [c0][j]? = some u → (w.alloc (.cells #[c0] T)).cell? ((⟨w.heap.size, 0, none⟩ : Addr).add j) = some u := by
  intro j u hj
  rw [Addr.add_lit]
  match j, hj with
  | 0, hj => simp at hj; subst hj; simp
  | j + 1, hj => simp at hj
theorem one_one {a : Option Addr} {l c : Nat} : ∀ v ∈ [Value.slice a l c], v.oneCell' = true := by
  intro v hv
  simp at hv
  subst hv; rfl
/-- An item's value. -/
def IV (w : World) (n : Nat) (v : Value) (s : List (El n)) (b : List Nat) : Prop := ∃ a l c, v = .agg #[.slice a l c] ∧ IR n w [.slice a l c] s b
theorem IV.of {w : World} {n : Nat} {v : Value} {s : List (El n)} {b : List Nat} (h : Ow w n v s b) : IV w n (.agg #[v]) s b := by
  have h' := h
  rw [Ow_eq] at h'
  obtain ⟨xs, cs, ⟨_, h1⟩, _⟩ := h'
  rcases h1 with ⟨rfl, _⟩ | ⟨g, cap, cur, rfl, _⟩
  · exact ⟨_, _, _, rfl, _, rfl, h⟩
  · exact ⟨_, _, _, rfl, _, rfl, h⟩
/-- What is asked of the method 'item', at a depth. -/
def ItC (m n : Nat) : Prop := ∀ (w : World) (b : Nat) (s : By) (t : Nat), Rdr w b s → s.length ≤ 16384 → s.length < m + 4 → t < 4294967296 →
  Calls Tryz.prog 320 #[ptr b, .int .i64 t] w (Ends b w (itP (elP m n) t s) fun w' v x => ∃ bl, IV w' n v x bl ∧ New w w' bl)
theorem items_any (m : Nat) (n : Nat) (H : ItC m n) (w : World) (b : Nat) (s : By) (h : Rdr w b s) (hs : s.length ≤ 16384) (hm : s.length < m + 8) :
    Calls Tryz.prog 304 #[ptr b] w (Ends b w ((toEnd (itP (elP m n)) s.length s).map fun l => (l, [])) fun w' v l => ∃ bl, OwI w' n v l bl ∧ New w w' bl) := by
  obtain ⟨i0, hi, hz0, hz1, hz2⟩ := info_parts info_it
  have HI := hid hi
  clear hi
  have hE := itP_eats (elP_eats m n)
  go_enter Tryz.func304, Tryz.ntmps304
  go_wp2_with fail
  go_loopw [3] (fun v wr => ∃ (done : Its n) (r : By) (xs : List Value) (cs : List Nat), Hid (toEnd (itP (elP m n)) s.length s = (toEnd (itP (elP m n)) r.length r).map (done ++ ·)) ∧ Hid (done.length + r.length ≤ s.length) ∧ Rdr wr b r ∧ Hid (UpB b w wr) ∧
      Hid (wr.ownsRow 0 182 1 v done.length xs) ∧ Hid (Ls 1 (IR n wr) xs done cs) ∧ Hid (New w wr (v.ownBlock.toList ++ cs))) (fun _ wr => left b wr)
  case atStart => exact ⟨[], s, [], [], by unfold Hid; simp, by unfold Hid; simp, h, UpB.refl _ _, World.ownsRow_nil _ _ _ _, ⟨rfl, rfl⟩, New.nil _ _⟩
  case round =>
    obtain ⟨done, r, xs, cs, hspec, hlen, hr, hup, hown, hes, hnew⟩ := hrel
    have hc := hr.cell
    have hl := bs_toList r
    by_cases hr0 : r = []
    · subst hr0
      go_wp2_with fail
      go_ret
      have e : toEnd (itP (elP m n)) s.length s = some done := by rw [hspec.out]; simp [toEnd]
      refine Ends.ok (x := done) (r := []) (by rw [e]; rfl) hup.out rfl hr ⟨_, ?_, hnew.out⟩
      exact ⟨xs, cs, hown.out, hes.out, rfl⟩
    · have hne : r.isEmpty = false := by cases r with | nil => exact absurd rfl hr0 | cons _ _ => rfl
      have hne2 : (r == []) = false := by cases r with | nil => exact absurd rfl hr0 | cons _ _ => rfl
      have hstep := hid (toEnd_step hE hr0)
      clear hr0
      go_wp2_with fail
      go_at_call 228
      refine (tag_any wr b r hr (by have := hlen.out; omega)).mono ?_
      cases htg : tg r with
      | none =>
        rintro e w1 ⟨u1, rfl⟩
        go_wp2
        refine ⟨rfl, Ends.bad ?_ (hup.out.trans u1) rfl⟩
        rw [hspec.out, hstep.out, htg]; rfl
      | some p =>
        obtain ⟨t, r1⟩ := p
        have h1 := tg_len htg
        rintro e w1 ⟨u1, v, rfl, r1', rfl⟩
        go_wp2_with fail
        go_at_call 320
        refine (H w1 b r1 t r1' (by have := hlen.out; omega) (by have := hlen.out; omega) h1.2).mono ?_
        cases hel : itP (elP m n) t r1 with
        | none =>
          rintro e w2 ⟨u2, rfl⟩
          go_wp2
          refine ⟨rfl, Ends.bad ?_ ((hup.out.trans u1).trans u2) rfl⟩
          rw [hspec.out, hstep.out, htg]
          simp only []
          rw [hel]; rfl
        | some q =>
          obtain ⟨x, r2⟩ := q
          have h2 := hE _ _ _ _ hel
          rintro e w2 ⟨u2, v, rfl, r2', bl, ⟨a', l', c', rfl, hce⟩, hbl⟩
          have hb : b < w.heap.size := h.lt
          have u12 := u1.trans u2
          have hold : ∀ j ∈ u3.ownBlock.toList ++ cs, w2.heap[j]? = wr.heap[j]? := u12.old hnew.out hb
          have hown2 := hid (ownsRow_keep hown.out (fun j hj => hold j (List.mem_append_left _ hj)))
          have hes2 := hid (hes.out.mono (R' := IR n w2) (fun c y b' hb' _ hr => IR.keep _ _ _ _ _ hr (fun j hj => hold j (List.mem_append_right _ (hb' j hj)))))
          clear hold
          have hnew2 := hid (New.add (hnew.out.more u1.size) hbl (Nat.le_trans hup.out.size u1.size) u2.size)
          go_wp2_with (at_builtin; refine wpList_append_sep _ rfl _ _ 71 rfl 182 i0 _ 1 24 Tryz.underlying71 HI.out hz0 hz1 hz2 rfl (by decide) _ _ _ rfl (hown2.out.alloc _) ⟨w2.heap.size, 0, none⟩ 1 1 [.slice a' l' c'] rfl rfl (one_cell _ _ _) one_one (by unfold maxLen; have := hlen.out; omega) (by have := hlen.out; omega) ?_)
          intro v' w3 hown' hg hv
          have R := hid (Row.push (R := IR n) IR.keep hes2.out rfl hce (Nat.le_trans hup.out.size u12.size) hnew2.out hown' hg hv)
          have hr3 := (r2'.below (Below.alloc (Below.refl _ _) (Nat.le_refl _) (.cells #[.slice a' l' c'] 182)))
          have u3' := hid ((((hup.out.trans u12).alloc (.cells #[.slice a' l' c'] 182)).grown hg (fun k hk => Or.inr ((hnew.out.2 k (List.mem_append_left _ (by rw [hk]; simp))).1))))
          have hr4 : Rdr w3 b r2 := by rw [Rdr, hg.block b hr3.lt (fun e => by have := (hnew.out.2 b (List.mem_append_left _ (by rw [← e]; simp))).1; omega)]; exact hr3
          clear hown' hg hv
          go_wp2
          go_roundw
          case rel =>
            refine ⟨done ++ [x], r2, _, _, ?_, ?_, hr4, u3', R.out.2.1, R.out.1, R.out.2.2⟩
            · unfold Hid
              rw [hspec.out, hstep.out, htg]
              simp only []
              rw [hel]
              simp only []
              cases toEnd (itP (elP m n)) r2.length r2 <;> simp
            · have := hlen.out
              unfold Hid
              rw [List.length_append, List.length_singleton]
              omega
          case measure =>
            rw [hr4.left, hr.left]
            omega
/-- What follows behind a tag, up to a mark. -/
def aft {α : Type} (M : Nat) (f : Nat → By → Option (α × By)) (t : Nat) (r : By) : Option (List α × By) := if t = M then (ze 4 r).map (fun r => ([], r)) else match f t r with
  | none => none
  | some (x, r2) => (toMark M f r2.length r2).map (fun p => (x :: p.1, p.2))
theorem toMark_aft {α : Type} {M : Nat} {f : Nat → By → Option (α × By)} (hf : Eats f) (s : By) : toMark M f s.length s = (match tg s with
    | none => none
    | some (t, r) => aft M f t r) := toMark_step hf s
theorem setToMark_any (m : Nat) (H : ElC m) (n : Nat) (w : World) (b : Nat) (s : By) (h : Rdr w b s) (hs : s.length ≤ 16384) (hm : s.length < m + 4) :
    Calls Tryz.prog 326 #[ptr b] w (Ends b w (toMark 4294893581 (elP m n) s.length s) fun w' v l => ∃ bl, Ow w' n v l bl ∧ New w w' bl) := by
  obtain ⟨i0, hi, hz0, hz1, hz2⟩ := info_parts info_el
  have HI := hid hi
  clear hi
  have hE := elP_eats m n
  have hfirst := hid (toMark_aft (M := 4294893581) hE s)
  go_enter Tryz.func326, Tryz.ntmps326
  go_wp2_with fail
  go_at_call 228
  refine (tag_any w b s h hs).mono ?_
  cases htg0 : tg s with
  | none =>
    rintro e w1 ⟨u1, rfl⟩
    go_wp2
    refine ⟨rfl, Ends.bad ?_ u1 rfl⟩
    rw [hfirst.out, htg0]
  | some p =>
    obtain ⟨t0, r0⟩ := p
    have h0 := tg_len htg0
    rintro e w0 ⟨u0, v, rfl, r0', rfl⟩
    have hfirst2 := hid (hfirst.out.trans (by rw [htg0]))
    clear hfirst
    go_wp2_with fail
    go_loopw [3, 4] (fun v tv wr => ∃ (done : List (El n)) (t : Nat) (r : By) (xs : List Value) (cs : List Nat), tv = .int .i64 t ∧ Hid (t < 4294967296) ∧ Hid (toMark 4294893581 (elP m n) s.length s = (aft 4294893581 (elP m n) t r).map (fun p => (done ++ p.1, p.2))) ∧ Hid (done.length + r.length + 4 ≤ s.length) ∧ Rdr wr b r ∧ Hid (UpB b w wr) ∧
      Hid (wr.ownsRow 0 73 4 v done.length xs) ∧ Hid (Ls 4 (CE wr n) xs done cs) ∧ Hid (New w wr (v.ownBlock.toList ++ cs))) (fun _ _ wr => left b wr)
    case atStart => exact ⟨[], t0, r0, [], [], rfl, h0.2, by unfold Hid; rw [hfirst2.out]; simp, by unfold Hid; simp; omega, r0', u0, World.ownsRow_nil _ _ _ _, ⟨rfl, rfl⟩, New.nil _ _⟩
    case round =>
      obtain ⟨done, t, r, xs, cs, rfl, htl, hspec, hlen, hr, hup, hown, hes, hnew⟩ := hrel
      by_cases htm : t = 4294893581
      · subst htm
        go_wp2_with fail
        go_at_call 270
        refine (zero_any wr b r 4 hr (by have := hlen.out; omega) (by decide)).mono ?_
        cases hze : ze 4 r with
        | none =>
          rintro e w1 ⟨u1, rfl⟩
          go_wp2
          refine ⟨rfl, Ends.bad ?_ (hup.out.trans u1) rfl⟩
          rw [hspec.out, aft, if_pos rfl, hze]; rfl
        | some r1 =>
          rintro e w1 ⟨u1, v, rfl, r1', rfl⟩
          have hold : ∀ j ∈ u3.ownBlock.toList ++ cs, w1.heap[j]? = wr.heap[j]? := u1.old hnew.out h.lt
          have fin : Hid (Ow w1 n u3 done (u3.ownBlock.toList ++ cs)) := by
            unfold Hid
            rw [Ow_eq]
            exact ⟨xs, cs, ownsRow_keep hown.out (fun j hj => hold j (List.mem_append_left _ hj)), hes.out.mono (fun c y b' hb' _ hr => hr.keep (fun j hj => hold j (List.mem_append_right _ (hb' j hj)))), rfl⟩
          clear hold
          go_wp2
          go_ret
          refine Ends.ok (x := done) (r := r1) ?_ (hup.out.trans u1) rfl r1' ⟨_, fin.out, hnew.out.more u1.size⟩
          rw [hspec.out, aft, if_pos rfl, hze]; simp
      · have hne : ((t : Int) == 4294893581) = false := by simp; omega
        have hne2 : ((t : Int) != 4294893581) = true := by simp; omega
        have htm' := hid htm
        clear htm
        go_wp2_with fail
        go_at_call 227
        refine (H n wr b r t hr (by have := hlen.out; omega) (by have := hlen.out; omega) htl.out).mono ?_
        cases hel : elP m n t r with
        | none =>
          rintro e w2 ⟨u2, rfl⟩
          go_wp2
          refine ⟨rfl, Ends.bad ?_ (hup.out.trans u2) rfl⟩
          rw [hspec.out, aft, if_neg htm'.out, hel]; rfl
        | some q =>
          obtain ⟨x, r2⟩ := q
          have h2 := hE _ _ _ _ hel
          rintro e w2 ⟨u2, v, rfl, r2', bl, ⟨t', k', u', a', l', c', rfl, hce⟩, hbl⟩
          have hb : b < w.heap.size := h.lt
          have hold : ∀ j ∈ u3.ownBlock.toList ++ cs, w2.heap[j]? = wr.heap[j]? := u2.old hnew.out hb
          have hown2 := hid (ownsRow_keep hown.out (fun j hj => hold j (List.mem_append_left _ hj)))
          have hes2 := hid (hes.out.mono (R' := CE w2 n) (fun c y b' hb' _ hr => hr.keep (fun j hj => hold j (List.mem_append_right _ (hb' j hj)))))
          clear hold
          have hnew2 := hid (New.add hnew.out hbl hup.out.size u2.size)
          go_wp2_with (at_builtin; refine wpList_append_sep _ rfl _ _ 59 rfl 73 i0 _ 4 64 Tryz.underlying59 HI.out hz0 hz1 hz2 rfl (by decide) _ _ _ rfl (hown2.out.alloc _) ⟨w2.heap.size, 0, none⟩ 1 1 [.int .i64 t', .string k', .string u', .slice a' l' c'] rfl rfl (four_cells _ _ _ _ _ _) four_one (by unfold maxLen; have := hlen.out; omega) (by have := hlen.out; omega) ?_)
          intro v' w3 hown' hg hv
          have R := hid (Row.push (R := fun w => CE w n) (fun _ _ _ _ _ h k => h.keep k) hes2.out rfl hce (Nat.le_trans hup.out.size u2.size) hnew2.out hown' hg hv)
          have hr3 := (r2'.below (Below.alloc (Below.refl _ _) (Nat.le_refl _) (.cells #[.int .i64 t', .string k', .string u', .slice a' l' c'] 73)))
          have u3' := hid ((((hup.out.trans u2).alloc (.cells #[.int .i64 t', .string k', .string u', .slice a' l' c'] 73)).grown hg (fun k hk => Or.inr ((hnew.out.2 k (List.mem_append_left _ (by rw [hk]; simp))).1))))
          have hr4 : Rdr w3 b r2 := by rw [Rdr, hg.block b hr3.lt (fun e => by have := (hnew.out.2 b (List.mem_append_left _ (by rw [← e]; simp))).1; omega)]; exact hr3
          clear hown' hg hv
          go_wp2_with fail
          go_at_call 228
          refine (tag_any w3 b r2 hr4 (by have := hlen.out; omega)).mono ?_
          cases htg : tg r2 with
          | none =>
            rintro e w4 ⟨u4, rfl⟩
            go_wp2
            refine ⟨rfl, Ends.bad ?_ (u3'.out.trans u4) rfl⟩
            rw [hspec.out, aft, if_neg htm'.out, hel]
            simp only []
            rw [toMark_aft hE, htg]; rfl
          | some q =>
            obtain ⟨t5, r5⟩ := q
            have h5 := tg_len htg
            rintro e w4 ⟨u4, v, rfl, r5', rfl⟩
            have hold : ∀ j ∈ v'.ownBlock.toList ++ (cs ++ bl), w4.heap[j]? = w3.heap[j]? := u4.old R.out.2.2 hb
            have R1 := hid (R.out.1.mono (R' := CE w4 n) (fun c y b' hb' _ hr => hr.keep (fun j hj => hold j (List.mem_append_right _ (hb' j hj)))))
            have R2 := hid (ownsRow_keep R.out.2.1 (fun j hj => hold j (List.mem_append_left _ hj)))
            clear hold
            go_wp2
            go_roundw
            case rel =>
              refine ⟨done ++ [x], t5, r5, _, _, rfl, h5.2, ?_, ?_, r5', u3'.out.trans u4, R2.out, R1.out, R.out.2.2.more u4.size⟩
              · unfold Hid
                rw [hspec.out, aft, if_neg htm'.out, hel]
                simp only []
                rw [toMark_aft hE, htg]
                simp only []
                cases aft 4294893581 (elP m n) t5 r5 <;> simp
              · have := hlen.out
                unfold Hid
                rw [List.length_append, List.length_singleton]
                omega
            case measure =>
              rw [r5'.left, hr.left]
              omega
theorem itemsToMark_any (m : Nat) (n : Nat) (H : ItC m n) (w : World) (b : Nat) (s : By) (h : Rdr w b s) (hs : s.length ≤ 16384) (hm : s.length < m + 8) :
    Calls Tryz.prog 303 #[ptr b] w (Ends b w (toMark 4294893789 (itP (elP m n)) s.length s) fun w' v l => ∃ bl, OwI w' n v l bl ∧ New w w' bl) := by
  obtain ⟨i0, hi, hz0, hz1, hz2⟩ := info_parts info_it
  have HI := hid hi
  clear hi
  have hE := itP_eats (elP_eats m n)
  have hfirst := hid (toMark_aft (M := 4294893789) hE s)
  go_enter Tryz.func303, Tryz.ntmps303
  go_wp2_with fail
  go_at_call 228
  refine (tag_any w b s h hs).mono ?_
  cases htg0 : tg s with
  | none =>
    rintro e w1 ⟨u1, rfl⟩
    go_wp2
    refine ⟨rfl, Ends.bad ?_ u1 rfl⟩
    rw [hfirst.out, htg0]
  | some p =>
    obtain ⟨t0, r0⟩ := p
    have h0 := tg_len htg0
    rintro e w0 ⟨u0, v, rfl, r0', rfl⟩
    have hfirst2 := hid (hfirst.out.trans (by rw [htg0]))
    clear hfirst
    go_wp2_with fail
    go_loopw [3, 4] (fun v tv wr => ∃ (done : Its n) (t : Nat) (r : By) (xs : List Value) (cs : List Nat), tv = .int .i64 t ∧ Hid (t < 4294967296) ∧ Hid (toMark 4294893789 (itP (elP m n)) s.length s = (aft 4294893789 (itP (elP m n)) t r).map (fun p => (done ++ p.1, p.2))) ∧ Hid (done.length + r.length + 4 ≤ s.length) ∧ Rdr wr b r ∧ Hid (UpB b w wr) ∧
      Hid (wr.ownsRow 0 182 1 v done.length xs) ∧ Hid (Ls 1 (IR n wr) xs done cs) ∧ Hid (New w wr (v.ownBlock.toList ++ cs))) (fun _ _ wr => left b wr)
    case atStart => exact ⟨[], t0, r0, [], [], rfl, h0.2, by unfold Hid; rw [hfirst2.out]; simp, by unfold Hid; simp; omega, r0', u0, World.ownsRow_nil _ _ _ _, ⟨rfl, rfl⟩, New.nil _ _⟩
    case round =>
      obtain ⟨done, t, r, xs, cs, rfl, htl, hspec, hlen, hr, hup, hown, hes, hnew⟩ := hrel
      by_cases htm : t = 4294893789
      · subst htm
        go_wp2_with fail
        go_at_call 270
        refine (zero_any wr b r 4 hr (by have := hlen.out; omega) (by decide)).mono ?_
        cases hze : ze 4 r with
        | none =>
          rintro e w1 ⟨u1, rfl⟩
          go_wp2
          refine ⟨rfl, Ends.bad ?_ (hup.out.trans u1) rfl⟩
          rw [hspec.out, aft, if_pos rfl, hze]; rfl
        | some r1 =>
          rintro e w1 ⟨u1, v, rfl, r1', rfl⟩
          have hold : ∀ j ∈ u3.ownBlock.toList ++ cs, w1.heap[j]? = wr.heap[j]? := u1.old hnew.out h.lt
          have fin : Hid (OwI w1 n u3 done (u3.ownBlock.toList ++ cs)) := by
            unfold Hid
            exact ⟨xs, cs, ownsRow_keep hown.out (fun j hj => hold j (List.mem_append_left _ hj)), hes.out.mono (fun c y b' hb' _ hr => IR.keep _ _ _ _ _ hr (fun j hj => hold j (List.mem_append_right _ (hb' j hj)))), rfl⟩
          clear hold
          go_wp2
          go_ret
          refine Ends.ok (x := done) (r := r1) ?_ (hup.out.trans u1) rfl r1' ⟨_, fin.out, hnew.out.more u1.size⟩
          rw [hspec.out, aft, if_pos rfl, hze]; simp
      · have hne : ((t : Int) == 4294893789) = false := by simp; omega
        have hne2 : ((t : Int) != 4294893789) = true := by simp; omega
        have htm' := hid htm
        clear htm
        go_wp2_with fail
        go_at_call 320
        refine (H wr b r t hr (by have := hlen.out; omega) (by have := hlen.out; omega) htl.out).mono ?_
        cases hel : itP (elP m n) t r with
        | none =>
          rintro e w2 ⟨u2, rfl⟩
          go_wp2
          refine ⟨rfl, Ends.bad ?_ (hup.out.trans u2) rfl⟩
          rw [hspec.out, aft, if_neg htm'.out, hel]; rfl
        | some q =>
          obtain ⟨x, r2⟩ := q
          have h2 := hE _ _ _ _ hel
          rintro e w2 ⟨u2, v, rfl, r2', bl, ⟨a', l', c', rfl, hce⟩, hbl⟩
          have hb : b < w.heap.size := h.lt
          have hold : ∀ j ∈ u3.ownBlock.toList ++ cs, w2.heap[j]? = wr.heap[j]? := u2.old hnew.out hb
          have hown2 := hid (ownsRow_keep hown.out (fun j hj => hold j (List.mem_append_left _ hj)))
          have hes2 := hid (hes.out.mono (R' := IR n w2) (fun c y b' hb' _ hr => IR.keep _ _ _ _ _ hr (fun j hj => hold j (List.mem_append_right _ (hb' j hj)))))
          clear hold
          have hnew2 := hid (New.add hnew.out hbl hup.out.size u2.size)
          go_wp2_with (at_builtin; refine wpList_append_sep _ rfl _ _ 71 rfl 182 i0 _ 1 24 Tryz.underlying71 HI.out hz0 hz1 hz2 rfl (by decide) _ _ _ rfl (hown2.out.alloc _) ⟨w2.heap.size, 0, none⟩ 1 1 [.slice a' l' c'] rfl rfl (one_cell _ _ _) one_one (by unfold maxLen; have := hlen.out; omega) (by have := hlen.out; omega) ?_)
          intro v' w3 hown' hg hv
          have R := hid (Row.push (R := IR n) IR.keep hes2.out rfl hce (Nat.le_trans hup.out.size u2.size) hnew2.out hown' hg hv)
          have hr3 := (r2'.below (Below.alloc (Below.refl _ _) (Nat.le_refl _) (.cells #[.slice a' l' c'] 182)))
          have u3' := hid ((((hup.out.trans u2).alloc (.cells #[.slice a' l' c'] 182)).grown hg (fun k hk => Or.inr ((hnew.out.2 k (List.mem_append_left _ (by rw [hk]; simp))).1))))
          have hr4 : Rdr w3 b r2 := by rw [Rdr, hg.block b hr3.lt (fun e => by have := (hnew.out.2 b (List.mem_append_left _ (by rw [← e]; simp))).1; omega)]; exact hr3
          clear hown' hg hv
          go_wp2_with fail
          go_at_call 228
          refine (tag_any w3 b r2 hr4 (by have := hlen.out; omega)).mono ?_
          cases htg : tg r2 with
          | none =>
            rintro e w4 ⟨u4, rfl⟩
            go_wp2
            refine ⟨rfl, Ends.bad ?_ (u3'.out.trans u4) rfl⟩
            rw [hspec.out, aft, if_neg htm'.out, hel]
            simp only []
            rw [toMark_aft hE, htg]; rfl
          | some q =>
            obtain ⟨t5, r5⟩ := q
            have h5 := tg_len htg
            rintro e w4 ⟨u4, v, rfl, r5', rfl⟩
            have hold : ∀ j ∈ v'.ownBlock.toList ++ (cs ++ bl), w4.heap[j]? = w3.heap[j]? := u4.old R.out.2.2 hb
            have R1 := hid (R.out.1.mono (R' := IR n w4) (fun c y b' hb' _ hr => IR.keep _ _ _ _ _ hr (fun j hj => hold j (List.mem_append_right _ (hb' j hj)))))
            have R2 := hid (ownsRow_keep R.out.2.1 (fun j hj => hold j (List.mem_append_left _ hj)))
            clear hold
            go_wp2
            go_roundw
            case rel =>
              refine ⟨done ++ [x], t5, r5, _, _, rfl, h5.2, ?_, ?_, r5', u3'.out.trans u4, R2.out, R1.out, R.out.2.2.more u4.size⟩
              · unfold Hid
                rw [hspec.out, aft, if_neg htm'.out, hel]
                simp only []
                rw [toMark_aft hE, htg]
                simp only []
                cases aft 4294893789 (itP (elP m n)) t5 r5 <;> simp
              · have := hlen.out
                unfold Hid
                rw [List.length_append, List.length_singleton]
                omega
            case measure =>
              rw [r5'.left, hr.left]
              omega
end Go.Proofs.YtaokifbpakbgdaaGreatDoor

/- Package dataset's reader: an item, a sequence, an element, at every depth; and reading as a whole, where the panic is caught. -/
namespace Go.Proofs.YtaokifbpakbgdaaGreatDoor
open Go.RowKit

theorem lg_no {α : Type} {M : Nat} {f : Nat → By → Option (α × By)} {s : By} (h : nu 4 s = none) : lg M f s = none := by rw [lg, h]
theorem lg_mark {α : Type} {M : Nat} {f : Nat → By → Option (α × By)} {s r : By} {k : Nat} (h : nu 4 s = some (k, r)) (hk : k = 4294967295) : lg M f s = toMark M f r.length r := by rw [lg, h]; exact if_pos hk
theorem lg_short {α : Type} {M : Nat} {f : Nat → By → Option (α × By)} {s r : By} {k : Nat} (h : nu 4 s = some (k, r)) (hk : k ≠ 4294967295) (ht : tk k r = none) : lg M f s = none := by
  rw [lg, h]; simp only []; rw [if_neg hk, ht]
theorem lg_whole {α : Type} {M : Nat} {f : Nat → By → Option (α × By)} {s r a r2 : By} {k : Nat} (h : nu 4 s = some (k, r)) (hk : k ≠ 4294967295) (ht : tk k r = some (a, r2)) : lg M f s = (toEnd f a.length a).map (fun l => (l, r2)) := by
  rw [lg, h]; simp only []; rw [if_neg hk, ht]; simp only []; cases toEnd f a.length a <;> rfl
theorem Rdr.new (w : World) (s : By) : Rdr (w.alloc (.cells #[.string (bs s)] 208)) w.heap.size s := by
  rw [Rdr]
  exact heap_alloc_new _ _
/-- A reader of its own leaves the other one alone. -/
theorem UpB.inner {b : Nat} {w w1 w2 : World} {o : Obj} (h : UpB b w w1) (k : UpB w1.heap.size (w1.alloc o) w2) : UpB b w w2 := by
  have ha : (w1.alloc o).heap.size = w1.heap.size + 1 := by simp
  refine ⟨⟨k.1.1.trans h.1.1, k.1.2.1.trans h.1.2.1, k.1.2.2.trans h.1.2.2⟩, ?_, fun j hj hb => ?_⟩
  · have h1 := h.size
    have h2 := k.size
    omega
  · have h1 := h.size
    rw [k.block (by omega) (by omega), Below.heap_alloc w1 o j (by omega)]
    exact h.block hj hb
theorem Rdr.inner {b : Nat} {w1 w2 : World} {o : Obj} {s : By} (h : Rdr w1 b s) (k : UpB w1.heap.size (w1.alloc o) w2) : Rdr w2 b s := by
  have h1 := h.lt
  rw [Rdr, k.block (by simp; omega) (by omega), Below.heap_alloc w1 o b h1]
  exact h
theorem New.inner {w w1 w2 : World} {o : Obj} {l : List Nat} (h : New (w1.alloc o) w2 l) (hs : w.heap.size ≤ w1.heap.size) : New w w2 l :=
  ⟨h.1, fun j hj => ⟨by have := (h.2 j hj).1; simp at this; omega, (h.2 j hj).2⟩⟩
theorem New.from {w w1 w2 : World} {l : List Nat} (h : New w1 w2 l) (hs : w.heap.size ≤ w1.heap.size) : New w w2 l :=
  ⟨h.1, fun j hj => ⟨Nat.le_trans hs (h.2 j hj).1, (h.2 j hj).2⟩⟩
theorem Rdr.other {w : World} {b : Nat} {s : By} (h : Rdr w b s) {p : Addr} (hp : p.block ≠ b) (u : Value) : Rdr (w.setCell p u) b s := by
  rw [Rdr, Below.heap_setCell w p u b (fun e => hp e.symm)]; exact h
theorem Ow.other {w : World} {n : Nat} {v : Value} {l : List (El n)} {bl : List Nat} (h : Ow w n v l bl) {p : Addr} (hp : p.block ∉ bl) (u : Value) : Ow (w.setCell p u) n v l bl :=
  h.keep _ _ _ _ (fun j hj => Below.heap_setCell w p u j (fun e => hp (e ▸ hj)))
theorem UpB.from {b : Nat} {w w' : World} {o : Obj} (h : UpB b (w.alloc o) w') : UpB b w w' := (UpB.refl b w).alloc o |>.trans h
/-- A variable's block stays as it is. -/
theorem UpB.var {b : Nat} {w w' : World} {v : Value} {T : TypeId} (h : UpB b (w.alloc (.cells #[v] T)) w') (hb : b < w.heap.size) : w'.heap[w.heap.size]? = some (.cells #[v] T (0, 0)) := by
  rw [h.block (by simp) (by omega)]
  exact heap_alloc_new _ _
theorem Ow.slice {w : World} {n : Nat} {v : Value} {l : List (El n)} {bl : List Nat} (h : Ow w n v l bl) : ∃ ad cap, v = .slice ad l.length cap := by
  rw [Ow_eq] at h
  obtain ⟨xs, cs, ⟨_, h1⟩, _⟩ := h
  rcases h1 with ⟨rfl, h1⟩ | ⟨g, cap, cur, rfl, _⟩
  · exact ⟨_, _, by rw [h1]⟩
  · exact ⟨_, _, rfl⟩
theorem item_any (m : Nat) (H : ElC m) (n : Nat) : ItC m n := by
  intro w b s t h hs hm ht
  by_cases ht0 : t = 4294893568
  · have hd : ((t : Int) == 4294893568) = true := by simp; omega
    have hspec := hid (show itP (elP m n) t s = lg 4294893581 (elP m n) s by unfold itP; exact if_pos ht0)
    clear ht0
    go_enter Tryz.func320, Tryz.ntmps320
    go_wp2_with fail
    go_at_call 267
    have r0 := h.below (Below.alloc (Below.refl _ _) (Nat.le_refl _) (.cells #[.slice none 0 0] 182))
    refine (need_yes _).mono ?_
    rintro e w0 ⟨rfl, rfl⟩
    go_wp2_with fail
    go_at_call 273
    refine (number_any _ b s 4 r0 hs (by decide)).mono ?_
    cases hn : nu 4 s with
    | none =>
      rintro e w1 ⟨u1, rfl⟩
      go_wp2
      refine ⟨rfl, Ends.bad ?_ u1.from rfl⟩
      rw [hspec.out, lg, hn]
    | some p =>
      obtain ⟨k, r⟩ := p
      have hl := nu_len hn
      have h256 : (256 : Nat) ^ 4 = 4294967296 := rfl
      rintro e w1 ⟨u1, v, rfl, r1, rfl⟩
      by_cases hk : k = 4294967295
      · have hd1 : ((k : Int) == 4294967295) = true := by simp; omega
        have hspec2 := hid (lg_mark (M := 4294893581) (f := elP m n) hn hk)
        clear hk
        go_wp2_with fail
        go_at_call 326
        refine (setToMark_any m H n w1 b r r1 (by omega) (by omega)).mono ?_
        cases hset : toMark 4294893581 (elP m n) r.length r with
        | none =>
          rintro e w2 ⟨u2, rfl⟩
          go_wp2
          refine ⟨rfl, Ends.bad ?_ (u1.trans u2).from rfl⟩
          rw [hspec.out, hspec2.out, hset]
        | some q =>
          obtain ⟨l, r2⟩ := q
          rintro e w2 ⟨u2, v, rfl, r2', bl, how, hbl⟩
          have hvar := (u1.trans u2).var h.lt
          have hvc := cell_of_one hvar
          have hvf := free_of_one hvar
          have hz0 : w.heap.size + 1 ≤ w1.heap.size := by have := u1.size; simpa using this
          have hbn : w.heap.size ∉ bl := fun e => by have := (hbl.2 _ e).1; omega
          have hblt := h.lt
          obtain ⟨ad, cap, rfl⟩ := how.slice
          have hset2 := cell_of_one (one_setCell hvar (u := .slice ad l.length cap))
          go_wp2
          (try simp only [Exit.inBlock, Exit.then])
          refine bodyPost_ret (v := .agg #[.slice ad l.length cap]) (by simp [results, Tryz.results320, go_sem, hset2]) rfl ?_
          refine Ends.ok (x := l) (r := r2) ?_ ((u1.trans u2).from.setCell (Or.inr (Nat.le_refl _)) _) rfl (r2'.other (by simp; omega) _) ⟨bl, IV.of (how.other hbn _), (hbl.from (by omega)).more (by simp)⟩
          rw [hspec.out, hspec2.out, hset]
      · have hd1 : ((k : Int) == 4294967295) = false := by simp; omega
        have hk' := hid hk
        clear hk
        go_wp2_with fail
        go_at_call 269
        refine (take_any w1 b r k r1 (by omega) (by omega)).mono ?_
        cases htk : tk k r with
        | none =>
          rintro e w2 ⟨u2, rfl⟩
          go_wp2
          refine ⟨rfl, Ends.bad ?_ (u1.trans u2).from rfl⟩
          rw [hspec.out, lg_short hn hk'.out htk]
        | some q =>
          obtain ⟨a, r2⟩ := q
          have hla := tk_len htk
          rintro e w2 ⟨u2, v, rfl, r2', rfl⟩
          go_wp2_with fail
          go_at_call 174
          refine (set_any m H n _ w2.heap.size a (Rdr.new w2 a) (by omega) (by omega)).mono ?_
          cases hset : toEnd (elP m n) a.length a with
          | none =>
            rintro e w3 ⟨u3, rfl⟩
            go_wp2
            refine ⟨rfl, Ends.bad ?_ ((u1.trans u2).inner u3).from rfl⟩
            rw [hspec.out, lg_whole hn hk'.out htk, hset]; rfl
          | some l =>
            rintro e w3 ⟨u3, v, rfl, r3', bl, how, hbl⟩
            have hvar := ((u1.trans u2).inner u3).var h.lt
            have hvc := cell_of_one hvar
            have hvf := free_of_one hvar
            have hz0 : w.heap.size + 1 ≤ w2.heap.size := by have := (u1.trans u2).size; simpa using this
            have hbl' := hbl.inner (w := w2) (Nat.le_refl _)
            have hbn : w.heap.size ∉ bl := fun e => by have := (hbl'.2 _ e).1; omega
            have hblt := h.lt
            obtain ⟨ad, cap, rfl⟩ := how.slice
            have hset2 := cell_of_one (one_setCell hvar (u := .slice ad l.length cap))
            go_wp2
            (try simp only [Exit.inBlock, Exit.then])
            refine bodyPost_ret (v := .agg #[.slice ad l.length cap]) (by simp [results, Tryz.results320, go_sem, hset2]) rfl ?_
            refine Ends.ok (x := l) (r := r2) ?_ (((u1.trans u2).inner u3).from.setCell (Or.inr (Nat.le_refl _)) _) rfl ((r2'.inner u3).other (by simp; omega) _) ⟨bl, IV.of (how.other hbn _), (hbl'.from (by omega)).more (by simp)⟩
            rw [hspec.out, lg_whole hn hk'.out htk, hset]; rfl
  · have hd : ((t : Int) == 4294893568) = false := by simp; omega
    have hspec := hid (show itP (elP m n) t s = none by unfold itP; exact if_neg ht0)
    clear ht0
    go_enter Tryz.func320, Tryz.ntmps320
    go_wp2_with fail
    go_at_call 267
    refine (need_no _).mono ?_
    rintro e w0 ⟨rfl, rfl⟩
    go_wp2
    exact ⟨rfl, Ends.bad hspec.out ((UpB.refl _ _).alloc _) rfl⟩
end Go.Proofs.YtaokifbpakbgdaaGreatDoor

/- Package dataset's reader: a sequence, an element, at every depth. -/
namespace Go.Proofs.YtaokifbpakbgdaaGreatDoor
open Go.RowKit

theorem sequence_any (m : Nat) (H : ElC m) (n : Nat) (w : World) (b : Nat) (s : By) (h : Rdr w b s) (hs : s.length ≤ 16384) (hm : s.length < m + 8) :
    Calls Tryz.prog 271 #[ptr b] w (Ends b w (lg 4294893789 (itP (elP m n)) s) fun w' v l => ∃ bl, OwI w' n v l bl ∧ New w w' bl) := by
  have HI : ItC m n := item_any m H n
  go_enter Tryz.func271, Tryz.ntmps271
  go_wp2_with fail
  go_at_call 273
  refine (number_any w b s 4 h hs (by decide)).mono ?_
  cases hn : nu 4 s with
  | none =>
    rintro e w1 ⟨u1, rfl⟩
    go_wp2
    exact ⟨rfl, Ends.bad (lg_no hn) u1 rfl⟩
  | some p =>
    obtain ⟨k, r⟩ := p
    have hl := nu_len hn
    have h256 : (256 : Nat) ^ 4 = 4294967296 := rfl
    rintro e w1 ⟨u1, v, rfl, r1, rfl⟩
    by_cases hk : k = 4294967295
    · have hd1 : ((k : Int) == 4294967295) = true := by simp; omega
      have hk' := hid hk
      clear hk
      go_wp2_with fail
      go_at_call 303
      refine (itemsToMark_any m n HI w1 b r r1 (by omega) (by omega)).mono ?_
      cases hset : toMark 4294893789 (itP (elP m n)) r.length r with
      | none =>
        rintro e w2 ⟨u2, rfl⟩
        go_wp2
        exact ⟨rfl, Ends.bad (by rw [lg_mark hn hk'.out, hset]) (u1.trans u2) rfl⟩
      | some q =>
        obtain ⟨l, r2⟩ := q
        rintro e w2 ⟨u2, v, rfl, r2', bl, how, hbl⟩
        go_wp2
        go_ret
        exact Ends.ok (x := l) (r := r2) (by rw [lg_mark hn hk'.out, hset]) (u1.trans u2) rfl r2' ⟨bl, how, hbl.from u1.size⟩
    · have hd1 : ((k : Int) == 4294967295) = false := by simp; omega
      have hk' := hid hk
      clear hk
      go_wp2_with fail
      go_at_call 269
      refine (take_any w1 b r k r1 (by omega) (by omega)).mono ?_
      cases htk : tk k r with
      | none =>
        rintro e w2 ⟨u2, rfl⟩
        go_wp2
        exact ⟨rfl, Ends.bad (lg_short hn hk'.out htk) (u1.trans u2) rfl⟩
      | some q =>
        obtain ⟨a, r2⟩ := q
        have hla := tk_len htk
        rintro e w2 ⟨u2, v, rfl, r2', rfl⟩
        go_wp2_with fail
        go_at_call 304
        refine (items_any m n HI _ w2.heap.size a (Rdr.new w2 a) (by omega) (by omega)).mono ?_
        cases hset : toEnd (itP (elP m n)) a.length a with
        | none =>
          rintro e w3 ⟨u3, rfl⟩
          go_wp2
          exact ⟨rfl, Ends.bad (by rw [lg_whole hn hk'.out htk, hset]; rfl) ((u1.trans u2).inner u3) rfl⟩
        | some l =>
          rintro e w3 ⟨u3, v, rfl, r3', bl, how, hbl⟩
          go_wp2
          go_ret
          exact Ends.ok (x := l) (r := r2) (by rw [lg_whole hn hk'.out htk, hset]; rfl) ((u1.trans u2).inner u3) rfl (r2'.inner u3) ⟨bl, how, hbl.inner (u1.trans u2).size⟩
theorem OwI.slice {w : World} {n : Nat} {v : Value} {l : Its n} {bl : List Nat} (h : OwI w n v l bl) : ∃ ad cap, v = .slice ad l.length cap := by
  obtain ⟨xs, cs, ⟨_, h1⟩, _⟩ := h
  rcases h1 with ⟨rfl, h1⟩ | ⟨g, cap, cur, rfl, _⟩
  · exact ⟨_, _, by rw [h1]⟩
  · exact ⟨_, _, rfl⟩
/-- A variable of four cells. -/
def Four (w : World) (b : Nat) (c0 c1 c2 c3 : Value) : Prop := w.heap[b]? = some (.cells #[c0, c1, c2, c3] 73 (0, 0))
theorem Four.cells {w : World} {b : Nat} {c0 c1 c2 c3 : Value} (h : Four w b c0 c1 c2 c3) :
    (w.cell? ⟨b, 0, none⟩ = some c0 ∧ w.cell? ⟨b, 1, none⟩ = some c1 ∧ w.cell? ⟨b, 2, none⟩ = some c2 ∧ w.cell? ⟨b, 3, none⟩ = some c3) ∧
    (w.frozen? ⟨b, 0, none⟩ = false ∧ w.frozen? ⟨b, 1, none⟩ = false ∧ w.frozen? ⟨b, 2, none⟩ = false ∧ w.frozen? ⟨b, 3, none⟩ = false) := by
  unfold Four at h
  simp [World.cell?, World.frozen?, h]
theorem Four.new (w : World) (c0 c1 c2 c3 : Value) : Four (w.alloc (.cells #[c0, c1, c2, c3] 73)) w.heap.size c0 c1 c2 c3 := heap_alloc_new _ _
theorem Four.keep {w w' : World} {b : Nat} {c0 c1 c2 c3 : Value} (h : Four w b c0 c1 c2 c3) (k : w'.heap[b]? = w.heap[b]?) : Four w' b c0 c1 c2 c3 := k.trans h
theorem Four.lt {w : World} {b : Nat} {c0 c1 c2 c3 : Value} (h : Four w b c0 c1 c2 c3) : b < w.heap.size := lt_of_block h
/-- The world behind 'x.Items = ..; return x'. -/
def after (w : World) (X i R : Nat) (u c0 c1 c2 c3 : Value) : World := ((((w.setCell ⟨X, i, none⟩ u).setCell ⟨R, 0, none⟩ c0).setCell ⟨R, 1, none⟩ c1).setCell ⟨R, 2, none⟩ c2).setCell ⟨R, 3, none⟩ c3
theorem after_keep (w : World) (X i R : Nat) (u c0 c1 c2 c3 : Value) (j : Nat) (h1 : j ≠ X) (h2 : j ≠ R) : (after w X i R u c0 c1 c2 c3).heap[j]? = w.heap[j]? := by
  unfold after
  rw [Below.heap_setCell _ _ _ _ h2, Below.heap_setCell _ _ _ _ h2, Below.heap_setCell _ _ _ _ h2, Below.heap_setCell _ _ _ _ h2, Below.heap_setCell _ _ _ _ h1]
theorem after_size (w : World) (X i R : Nat) (u c0 c1 c2 c3 : Value) : (after w X i R u c0 c1 c2 c3).heap.size = w.heap.size := by
  unfold after
  simp
theorem after_up {b : Nat} {w0 w : World} (h : UpB b w0 w) (X i R : Nat) (u c0 c1 c2 c3 : Value) (h1 : w0.heap.size ≤ X) (h2 : w0.heap.size ≤ R) : UpB b w0 (after w X i R u c0 c1 c2 c3) := by
  unfold after
  exact ((((h.setCell (Or.inr h1) _).setCell (Or.inr h2) _).setCell (Or.inr h2) _).setCell (Or.inr h2) _).setCell (Or.inr h2) _
theorem element_any (m : Nat) (H : ElC m) : ElC (m + 1) := by
  intro n w b s t h hs hm ht
  by_cases hres : t / 65536 = 65534
  · go_enter Tryz.func227, Tryz.ntmps227
    go_wp2_with fail
    go_at_call 241
    refine (reserved_any _ t ht).mono ?_
    rintro e w0 ⟨rfl, rfl⟩
    rw [decide_eq_true hres]
    go_wp2_with fail
    go_at_call 267
    refine (need_no _).mono ?_
    rintro e w0 ⟨rfl, rfl⟩
    go_wp2
    exact ⟨rfl, Ends.bad (by rw [elP, if_pos hres]) ((UpB.refl _ _).alloc _) rfl⟩
  · go_enter Tryz.func227, Tryz.ntmps227
    go_wp2_with fail
    go_at_call 241
    refine (reserved_any _ t ht).mono ?_
    rintro e w0 ⟨rfl, rfl⟩
    rw [decide_eq_false hres]
    go_wp2_with fail
    go_at_call 267
    refine (need_yes _).mono ?_
    rintro e w0 ⟨rfl, rfl⟩
    have r0 := h.below (Below.alloc (Below.refl _ _) (Nat.le_refl _) (.cells #[.int .i64 0, .string ⟨#[]⟩, .string ⟨#[]⟩, .slice none 0 0] 73))
    go_wp2_with fail
    go_at_call 269
    refine (take_any _ b s 2 r0 hs (by decide)).mono ?_
    cases htk : tk 2 s with
    | none =>
      rintro e w1 ⟨u1, rfl⟩
      go_wp2
      exact ⟨rfl, Ends.bad (by rw [elP, if_neg hres, htk]) u1.from rfl⟩
    | some p =>
      obtain ⟨k, r⟩ := p
      have hl := tk_len htk
      have hres' := hid hres
      clear hres
      rintro e w1 ⟨u1, v, rfl, r1, rfl⟩
      go_wp2_with fail
      go_at_call 268
      refine (clone_any w1 k (by omega)).mono ?_
      rintro e w2 ⟨rfl, u2⟩
      have hkl := bs_toList k
      have hbw : b < w.heap.size := h.lt
      have u02 : UpB b (w.alloc (.cells #[.int .i64 0, .string ⟨#[]⟩, .string ⟨#[]⟩, .slice none 0 0] 73)) w2 := u1.trans (UpB.of_below u2)
      have hR2 : Four w2 w.heap.size (.int .i64 0) (.string ⟨#[]⟩) (.string ⟨#[]⟩) (.slice none 0 0) := (Four.new w _ _ _ _).keep (u02.block (Four.new w _ _ _ _).lt (by omega))
      have hRX : w.heap.size < w2.heap.size := hR2.lt
      have r2 := (r1.below u2).below (Below.alloc (Below.refl _ _) (Nat.le_refl _) (.cells #[.int .i64 t, .string (bs k), .string ⟨#[]⟩, .slice none 0 0] 73))
      have hX3 := Four.new w2 (.int .i64 t) (.string (bs k)) (.string ⟨#[]⟩) (.slice none 0 0)
      have hR3 : Four (w2.alloc (.cells #[.int .i64 t, .string (bs k), .string ⟨#[]⟩, .slice none 0 0] 73)) w.heap.size (.int .i64 0) (.string ⟨#[]⟩) (.string ⟨#[]⟩) (.slice none 0 0) := hR2.keep (Below.heap_alloc w2 _ _ hRX)
      have u03 := hid (u02.alloc (.cells #[.int .i64 t, .string (bs k), .string ⟨#[]⟩, .slice none 0 0] 73))
      by_cases hq : (k == [83, 81]) = true
      · go_wp2_with fail
        go_at_call 270
        refine (zero_any _ b r 2 r2 (by omega) (by decide)).mono ?_
        generalize w2.alloc (.cells #[.int .i64 t, .string (bs k), .string ⟨#[]⟩, .slice none 0 0] 73) = w3 at hX3 hR3 u03 r2 ⊢
        cases hze : ze 2 r with
        | none =>
          rintro e w4 ⟨u4, rfl⟩
          go_wp2
          refine ⟨rfl, Ends.bad ?_ (u03.out.trans u4).from rfl⟩
          rw [elP, if_neg hres'.out, htk]
          simp only []
          rw [if_pos (by simpa using hq), hze]
        | some r4 =>
          have hl4 := ze_len hze
          rintro e w4 ⟨u4, v, rfl, r4', rfl⟩
          go_wp2_with fail
          go_at_call 271
          refine (sequence_any m H (n - 1) w4 b r4 r4' (by omega) (by omega)).mono ?_
          cases hsq : lg 4294893789 (itP (elP m (n - 1))) r4 with
          | none =>
            rintro e w5 ⟨u5, rfl⟩
            go_wp2
            refine ⟨rfl, Ends.bad ?_ ((u03.out.trans u4).trans u5).from rfl⟩
            rw [elP, if_neg hres'.out, htk]
            simp only []
            rw [if_pos (by simpa using hq), hze]
            simp only []
            rw [hsq]
          | some q =>
            obtain ⟨its, r5⟩ := q
            rintro e w5 ⟨u5, iv, rfl, r5', bl, how, hbl⟩
            have u35 := u4.trans u5
            have hX5 := (hX3.keep (u35.block hX3.lt (by omega))).cells
            have hR5 := (hR3.keep (u35.block hR3.lt (by omega))).cells
            obtain ⟨⟨x0, x1, x2, x3⟩, y0, y1, y2, y3⟩ := hX5
            obtain ⟨⟨q0, q1, q2, q3⟩, z0, z1, z2, z3⟩ := hR5
            have hne : ¬ w2.heap.size = w.heap.size := by omega
            have hne' : ¬ w.heap.size = w2.heap.size := by omega
            obtain ⟨ad, cap, rfl⟩ := how.slice
            have hz4 := u4.size
            have hz5 := u5.size
            have hXl := hX3.lt
            go_wp2
            (try simp only [Exit.inBlock, Exit.then])
            refine bodyPost_ret (v := .agg #[.int .i64 t, .string (bs k), .string ⟨#[]⟩, .slice ad its.length cap]) (by simp [results, Tryz.results227, go_sem, q0, q1, q2, q3]) rfl ?_
            change Ends b w (elP (m + 1) n t s) _ _ (after w5 w2.heap.size 3 w.heap.size (.slice ad its.length cap) (.int .i64 t) (.string (bs k)) (.string ⟨#[]⟩) (.slice ad its.length cap))
            have how' := how.keep (w' := after w5 w2.heap.size 3 w.heap.size (.slice ad its.length cap) (.int .i64 t) (.string (bs k)) (.string ⟨#[]⟩) (.slice ad its.length cap)) (fun j hj => after_keep _ _ _ _ _ _ _ _ _ j (by have := (hbl.2 j hj).1; omega) (by have := (hbl.2 j hj).1; omega))
            obtain ⟨bl', hb1, hb2, hce⟩ := CE.mk (t := t) (k := k) (v := []) how'
            refine Ends.ok (x := mkE n t k [] its) (r := r5) ?_ (after_up (u03.out.trans u35).from _ _ _ _ _ _ _ _ (by omega) (Nat.le_refl _)) rfl ?_ ⟨bl', ⟨_, _, _, _, _, _, rfl, hce⟩, ?_⟩
            · rw [elP, if_neg hres'.out, htk]
              simp only []
              rw [if_pos (by simpa using hq), hze]
              simp only []
              rw [hsq]
            · rw [Rdr, after_keep _ _ _ _ _ _ _ _ _ b (by omega) (by omega)]; exact r5'
            · exact ⟨hb2 hbl.1, fun j hj => by have := hbl.2 j (hb1 j hj); rw [after_size]; omega⟩
      · go_wp2_with fail
        go_at_call 272
        refine (value_any _ b k r r2 (by omega)).mono ?_
        generalize w2.alloc (.cells #[.int .i64 t, .string (bs k), .string ⟨#[]⟩, .slice none 0 0] 73) = w3 at hX3 hR3 u03 r2 ⊢
        cases hva : va k r with
        | none =>
          rintro e w4 ⟨u4, rfl⟩
          go_wp2
          refine ⟨rfl, Ends.bad ?_ (u03.out.trans u4).from rfl⟩
          rw [elP, if_neg hres'.out, htk]
          simp only []
          rw [if_neg (by simpa using hq), hva]
        | some q =>
          obtain ⟨v5, r5⟩ := q
          rintro e w5 ⟨u35, v, rfl, r5', rfl⟩
          have hX5 := (hX3.keep (u35.block hX3.lt (by omega))).cells
          have hR5 := (hR3.keep (u35.block hR3.lt (by omega))).cells
          obtain ⟨⟨x0, x1, x2, x3⟩, y0, y1, y2, y3⟩ := hX5
          obtain ⟨⟨q0, q1, q2, q3⟩, z0, z1, z2, z3⟩ := hR5
          have hne : ¬ w2.heap.size = w.heap.size := by omega
          have hne' : ¬ w.heap.size = w2.heap.size := by omega
          have hz5 := u35.size
          have hXl := hX3.lt
          go_wp2
          (try simp only [Exit.inBlock, Exit.then])
          refine bodyPost_ret (v := .agg #[.int .i64 t, .string (bs k), .string (bs v5), .slice none 0 0]) (by simp [results, Tryz.results227, go_sem, q0, q1, q2, q3]) rfl ?_
          change Ends b w (elP (m + 1) n t s) _ _ (after w5 w2.heap.size 2 w.heap.size (.string (bs v5)) (.int .i64 t) (.string (bs k)) (.string (bs v5)) (.slice none 0 0))
          obtain ⟨bl', hb1, hb2, hce⟩ := CE.mk (t := t) (k := k) (v := v5) (OwI.nil (after w5 w2.heap.size 2 w.heap.size (.string (bs v5)) (.int .i64 t) (.string (bs k)) (.string (bs v5)) (.slice none 0 0)) (n - 1))
          refine Ends.ok (x := mkE n t k v5 []) (r := r5) ?_ (after_up (u03.out.trans u35).from _ _ _ _ _ _ _ _ (by omega) (Nat.le_refl _)) rfl ?_ ⟨bl', ⟨_, _, _, _, _, _, rfl, hce⟩, hb2 List.nodup_nil, fun j hj => nomatch hb1 j hj⟩
          · rw [elP, if_neg hres'.out, htk]
            simp only []
            rw [if_neg (by simpa using hq), hva]
          · rw [Rdr, after_keep _ _ _ _ _ _ _ _ _ b (by omega) (by omega)]; exact r5'
theorem element_all : ∀ m, ElC m
  | 0 => fun _ _ _ _ _ _ _ h => absurd h (Nat.not_lt_zero _)
  | m + 1 => element_any m (element_all m)
end Go.Proofs.YtaokifbpakbgdaaGreatDoor

/- Package folioref on archives, from its leaves up: Kind, find, Text. -/
namespace Go.Proofs.YtaokifbpakbgdaaGreatDoor
open Go.RowKit

/-- The value of an element, of an empty one. -/
def elV {n : Nat} (x : El (n + 1)) (iv : Value) : Value := .agg #[.int .i64 x.1, .string (bs x.2.1), .string (bs x.2.2.1), iv]
def zeroE : Value := .agg #[.int .i64 0, .string ⟨#[]⟩, .string ⟨#[]⟩, .slice none 0 0]
theorem findE_drop {n : Nat} {l : List (El (n + 1))} {k : Nat} (h : k < l.length) (t : Int) : findE (l.drop k) t = if l[k].1 = t then some l[k] else findE (l.drop (k + 1)) t := by
  rw [List.drop_eq_getElem_cons h]
  unfold findE
  rw [List.find?_cons]
  by_cases e : l[k].1 = t
  · rw [decide_eq_true e, if_pos e]
  · rw [decide_eq_false e, if_neg e]
end Go.Proofs.YtaokifbpakbgdaaGreatDoor

/- Package folioref on archives: Rows, names. -/
namespace Go.Proofs.YtaokifbpakbgdaaGreatDoor
open Go.RowKit

/-- The words of the levels, the tags of a level, the tags of the counts. -/
def wordL (i : Nat) : By := if i = 0 then [80, 65, 84, 73, 69, 78, 84] else if i = 1 then [83, 84, 85, 68, 89] else if i = 2 then [83, 69, 82, 73, 69, 83] else [73, 77, 65, 71, 69]
def cntT (i : Nat) : Int := if i = 0 then 2101760 else if i = 1 then 2101766 else if i = 2 then 2101769 else -1
theorem info_str : (Tryz.prog.info? 9).map (fun i => (i.zero, i.size, i.bytes)) = some (some (.string ByteArray.empty), 1, 16) := by kernel_rfl
theorem up_grow {w wr w2 : World} {e : TypeId} {k : Nat} {v : Value} {n : Nat} {xs : List Value} (hU : Below w.heap.size w wr) (hown : wr.ownsRow w.heap.size e k v n xs) (o : Obj) (hg : (wr.alloc o).grownBy w2 v.ownBlock) : Below w.heap.size w w2 :=
  Below.grown (Below.alloc hU hU.size o) hg (Nat.le_trans hU.size (by simp)) (fun k hk => ((hown.alloc o).lt k hk).1)
theorem one_at (w : World) (T : TypeId) (c0 : Value) : ∀ j u, [c0][j]? = some u → (w.alloc (.cells #[c0] T)).cell? ((⟨w.heap.size, 0, none⟩ : Addr).add j) = some u := by
  intro j u hj
  rw [Addr.add_lit]
  match j, hj with
  | 0, hj => simp at hj; subst hj; simp
  | j + 1, hj => simp at hj
end Go.Proofs.YtaokifbpakbgdaaGreatDoor

/- Package dataset's 'read': what is raised further down ends here. -/
namespace Go.Proofs.YtaokifbpakbgdaaGreatDoor
open Go.RowKit

theorem catch_panicking (P Q : Nat) (a b : Value) (u : TypeId) (pv : Value) (older : List PanicEntry) (w : World) (hc : w.cell? ⟨P, 0, none⟩ = some a) (hz : w.frozen? ⟨P, 0, none⟩ = false) (hc' : w.cell? ⟨Q, 0, none⟩ = some b) (hz' : w.frozen? ⟨Q, 0, none⟩ = false) (hne : ¬ P = Q) :
    CallsD Tryz.prog 173 #[ptr P, ptr Q] (.panicking ({ v := .iface u pv, recovered := false } :: older)) w fun e u' w' =>
      e = .returned (.tuple #[]) ∧ u' = .panicking ({ v := .iface u pv, recovered := true } :: older) ∧ w' = (w.setCell ⟨P, 0, none⟩ (.slice none 0 0)).setCell ⟨Q, 0, none⟩ (.int .i64 1) := by
  refine callsD_of_wpS Tryz.func173 rfl fun c₀ cs hu => ?_
  apply wpS_seq
  apply wpS_region
  simp [wpOpsS, go_sem, recoverD, hu, Tryz.ntmps173, Exit.thenS]
  refine wpS_cond (t := true) (by simp [Act.eval, Array.replicate]) ?_
  simp only [if_true]
  apply wpS_region
  simp [wpOpsS, go_sem, hc, hz, hc', hz', bodyPostS, results, Tryz.results173]
theorem catch_idle (p q : Addr) (w : World) :
    CallsD Tryz.prog 173 #[.pointer (some p), .pointer (some q)] .returning w fun e u' w' => e = .returned (.tuple #[]) ∧ u' = .returning ∧ w' = w := by
  refine callsD_of_wpS Tryz.func173 rfl fun c₀ cs hu => ?_
  apply wpS_seq
  apply wpS_region
  simp [wpOpsS, go_sem, recoverD, hu, Tryz.ntmps173, Exit.thenS]
  refine wpS_cond (t := false) (by simp [Act.eval, Array.replicate]) ?_
  simp only [Bool.false_eq_true, if_false]
  refine wpS_of_wp (wp_skip ?_)
  cases c₀
  simp_all [bodyPostS, results, Tryz.results173]
/-- How reading ends. -/
def ReadEnd (n : Nat) (w : World) (o : Option (List (El n))) (e : Ending) (w' : World) : Prop := Below w.heap.size w w' ∧ match o with
  | none => e = .returned (.tuple #[.slice none 0 0, .int .i64 1])
  | some l => ∃ v bl, e = .returned (.tuple #[v, .int .i64 0]) ∧ Ow w' n v l bl ∧ New w w' bl
theorem read_any (w : World) (n : Nat) (s : By) (hs : s.length ≤ 16384) :
    Calls Tryz.prog 108 #[.string (bs s)] w (ReadEnd n w (parse n s)) := by
  have hmf : ∀ (fn : Fn) (first cap : Array Value) (w : World), (Instr.makeFunc fn first cap).run Tryz.prog w = .ok (.func fn first cap) w := fun _ _ _ _ => rfl
  go_enter_defers Tryz.func108, Tryz.ntmps108
  go_wp2_with fail
  go_at_call 174
  have hR := Rdr.new ((w.alloc (.cells #[.slice none 0 0] 59)).alloc (.cells #[.int .i64 0] 22)) s
  have hb : ((w.alloc (.cells #[.slice none 0 0] 59)).alloc (.cells #[.int .i64 0] 22)).heap.size = w.heap.size + 1 + 1 := by simp
  rw [hb] at hR
  have hz3 : (((w.alloc (.cells #[.slice none 0 0] 59)).alloc (.cells #[.int .i64 0] 22)).alloc (.cells #[.string (bs s)] 208)).heap.size = w.heap.size + 1 + 1 + 1 := by simp
  have hl0 : (((w.alloc (.cells #[.slice none 0 0] 59)).alloc (.cells #[.int .i64 0] 22)).alloc (.cells #[.string (bs s)] 208)).heap[w.heap.size]? = some (.cells #[.slice none 0 0] 59 (0, 0)) := by
    rw [Below.heap_alloc _ _ _ (by simp; omega), Below.heap_alloc _ _ _ (by simp)]; exact heap_alloc_new _ _
  have he0 : (((w.alloc (.cells #[.slice none 0 0] 59)).alloc (.cells #[.int .i64 0] 22)).alloc (.cells #[.string (bs s)] 208)).heap[w.heap.size + 1]? = some (.cells #[.int .i64 0] 22 (0, 0)) := by
    rw [Below.heap_alloc _ _ _ (by simp)]
    have := heap_alloc_new (w.alloc (.cells #[.slice none 0 0] 59)) (.cells #[.int .i64 0] 22)
    simpa using this
  have hbel := hid (Below.alloc (Below.alloc (Below.alloc (Below.refl w.heap.size w) (Nat.le_refl _) (.cells #[.slice none 0 0] 59)) (by simp) (.cells #[.int .i64 0] 22)) (by simp; omega) (.cells #[.string (bs s)] 208))
  refine (set_any (s.length + 1) (element_all _) n _ _ s hR hs (by omega)).mono ?_
  generalize ((w.alloc (.cells #[.slice none 0 0] 59)).alloc (.cells #[.int .i64 0] 22)).alloc (.cells #[.string (bs s)] 208) = w3 at hR hl0 he0 hbel hz3 ⊢
  have hpar := hid (show toEnd (elP (s.length + 1) n) s.length s = parse n s from rfl)
  rw [hpar.out]
  cases hp : parse n s with
  | none =>
    rintro e w4 ⟨u4, rfl⟩
    have hl4 := (u4.block (lt_of_block hl0) (by omega)).trans hl0
    have he4 := (u4.block (lt_of_block he0) (by omega)).trans he0
    have c1 := cell_of_one hl4
    have c2 := free_of_one hl4
    have c3 := cell_of_one he4
    have c4 := free_of_one he4
    go_wp2
    refine leaves_cons (f := 173) (args := #[ptr w.heap.size, ptr (w.heap.size + 1)]) (by simp) (by simp [go_sem]) ?_
    refine (catch_panicking w.heap.size (w.heap.size + 1) _ _ _ _ [] w4 c1 c2 c3 c4 (by omega)).mono ?_
    rintro e u' w'' ⟨rfl, rfl, rfl⟩
    simp [Leaves, settle, results, Tryz.results108, go_sem, c1, c3]
    refine ⟨?_, by first | rfl | rw [hp]⟩
    have h1 := hbel.out.trans (u4.below (B := w.heap.size) (by omega) (by omega))
    exact (h1.setCell (Nat.le_refl _) _).setCell (by simp) _
  | some l =>
    rintro e w4 ⟨u4, v, rfl, r4, bl, how, hbl⟩
    have hl4 := (u4.block (lt_of_block hl0) (by omega)).trans hl0
    have he4 := (u4.block (lt_of_block he0) (by omega)).trans he0
    have c1 := cell_of_one hl4
    have c2 := free_of_one hl4
    have c3 := cell_of_one he4
    have c4 := free_of_one he4
    obtain ⟨ad, cap, rfl⟩ := how.slice
    go_wp2
    refine leaves_cons (f := 173) (args := #[ptr w.heap.size, ptr (w.heap.size + 1)]) (by simp) (by simp [go_sem]) ?_
    refine (catch_idle ⟨w.heap.size, 0, none⟩ ⟨w.heap.size + 1, 0, none⟩ _).mono ?_
    rintro e u' w'' ⟨rfl, rfl, rfl⟩
    simp [Leaves, settle, results, Tryz.results108, go_sem, c1, c3]
    have h1 := hbel.out.trans (u4.below (B := w.heap.size) (by omega) (by omega))
    refine ⟨(h1.setCell (Nat.le_refl _) _).setCell (by simp) _, ?_⟩
    try rw [hp]
    refine ⟨_, bl, rfl, how.keep _ _ _ _ (fun j hj => ?_), hbl.1, fun j hj => ?_⟩
    · have := (hbl.2 j hj).1
      rw [Below.heap_setCell _ _ _ _ (by simp; omega), Below.heap_setCell _ _ _ _ (by simp; omega)]
    · have := hbl.2 j hj
      simp
      omega
end Go.Proofs.YtaokifbpakbgdaaGreatDoor

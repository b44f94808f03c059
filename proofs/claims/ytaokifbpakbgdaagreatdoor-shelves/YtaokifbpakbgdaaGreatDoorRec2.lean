/-
  Package dataset's reader, the rest of its recursion: items, sequences, elements.
-/
import Derived.Test.YtaokifbpakbgdaaGreatDoorRec
namespace Go.Proofs.YtaokifbpakbgdaaGreatDoor
open Go.RowKit

/-- The one cell of an item. -/
def IR (n : Nat) (w : World) (c : List Value) (s : List (El n)) (b : List Nat) : Prop := ∃ sv, c = [sv] ∧ Ow w n sv s b
theorem IR.keep {n : Nat} : ∀ (w w' : World) (c : List Value) (s : List (El n)) (b : List Nat), IR n w c s b → (∀ j ∈ b, w'.heap[j]? = w.heap[j]?) → IR n w' c s b := by
  rintro w w' c s b ⟨sv, rfl, h⟩ k
  exact ⟨sv, rfl, h.keep _ _ _ _ k⟩
theorem one_cell (w : World) (T : TypeId) (c0 : Value) : ∀ j u, [c0][j]? = some u → (w.alloc (.cells #[c0] T)).cell? ((⟨w.heap.size, 0, none⟩ : Addr).add j) = some u := by
  intro j u hj
  rw [Addr.add_lit]
  match j, hj with
  | 0, hj => simp at hj; subst hj; simp
  | j + 1, hj => simp at hj
theorem one_one {a : Option Addr} {l c : Nat} : ∀ v ∈ [Value.slice a l c], v.oneCell' = true := by
  intro v hv
  simp at hv
  subst hv; rfl
/-- An item's value. -/
def IV (w : World) (n : Nat) (v : Value) (s : List (El n)) (b : List Nat) : Prop := ∃ a l c, v = .agg #[.slice a l c] ∧ IR n w [.slice a l c] s b
theorem IV.of {w : World} {n : Nat} {v : Value} {s : List (El n)} {b : List Nat} (h : Ow w n v s b) : IV w n (.agg #[v]) s b := by
  have h' := h
  rw [Ow_eq] at h'
  obtain ⟨xs, cs, ⟨_, h1⟩, _⟩ := h'
  rcases h1 with ⟨rfl, _⟩ | ⟨g, cap, cur, rfl, _⟩
  · exact ⟨_, _, _, rfl, _, rfl, h⟩
  · exact ⟨_, _, _, rfl, _, rfl, h⟩
/-- What is asked of the method 'item', at a depth. -/
def ItC (m n : Nat) : Prop := ∀ (w : World) (b : Nat) (s : By) (t : Nat), Rdr w b s → s.length ≤ 16384 → s.length < m + 4 → t < 4294967296 →
  Calls Tryz.prog 320 #[ptr b, .int .i64 t] w (Ends b w (itP (elP m n) t s) fun w' v x => ∃ bl, IV w' n v x bl ∧ New w w' bl)
theorem items_any (m : Nat) (n : Nat) (H : ItC m n) (w : World) (b : Nat) (s : By) (h : Rdr w b s) (hs : s.length ≤ 16384) (hm : s.length < m + 8) :
    Calls Tryz.prog 304 #[ptr b] w (Ends b w ((toEnd (itP (elP m n)) s.length s).map fun l => (l, [])) fun w' v l => ∃ bl, OwI w' n v l bl ∧ New w w' bl) := by
  obtain ⟨i0, hi, hz0, hz1, hz2⟩ := info_parts info_it
  have HI := hid hi
  clear hi
  have hE := itP_eats (elP_eats m n)
  go_enter Tryz.func304, Tryz.ntmps304
  go_wp2_with fail
  go_loopw [3] (fun v wr => ∃ (done : Its n) (r : By) (xs : List Value) (cs : List Nat), Hid (toEnd (itP (elP m n)) s.length s = (toEnd (itP (elP m n)) r.length r).map (done ++ ·)) ∧ Hid (done.length + r.length ≤ s.length) ∧ Rdr wr b r ∧ Hid (UpB b w wr) ∧
      Hid (wr.ownsRow 0 182 1 v done.length xs) ∧ Hid (Ls 1 (IR n wr) xs done cs) ∧ Hid (New w wr (v.ownBlock.toList ++ cs))) (fun _ wr => left b wr)
  case atStart => exact ⟨[], s, [], [], by unfold Hid; simp, by unfold Hid; simp, h, UpB.refl _ _, World.ownsRow_nil _ _ _ _, ⟨rfl, rfl⟩, New.nil _ _⟩
  case round =>
    obtain ⟨done, r, xs, cs, hspec, hlen, hr, hup, hown, hes, hnew⟩ := hrel
    have hc := hr.cell
    have hl := bs_toList r
    by_cases hr0 : r = []
    · subst hr0
      go_wp2_with fail
      go_ret
      have e : toEnd (itP (elP m n)) s.length s = some done := by rw [hspec.out]; simp [toEnd]
      refine Ends.ok (x := done) (r := []) (by rw [e]; rfl) hup.out rfl hr ⟨_, ?_, hnew.out⟩
      exact ⟨xs, cs, hown.out, hes.out, rfl⟩
    · have hne : r.isEmpty = false := by cases r with | nil => exact absurd rfl hr0 | cons _ _ => rfl
      have hne2 : (r == []) = false := by cases r with | nil => exact absurd rfl hr0 | cons _ _ => rfl
      have hstep := hid (toEnd_step hE hr0)
      clear hr0
      go_wp2_with fail
      go_at_call 228
      refine (tag_any wr b r hr (by have := hlen.out; omega)).mono ?_
      cases htg : tg r with
      | none =>
        rintro e w1 ⟨u1, rfl⟩
        go_wp2
        refine ⟨rfl, Ends.bad ?_ (hup.out.trans u1) rfl⟩
        rw [hspec.out, hstep.out, htg]; rfl
      | some p =>
        obtain ⟨t, r1⟩ := p
        have h1 := tg_len htg
        rintro e w1 ⟨u1, v, rfl, r1', rfl⟩
        go_wp2_with fail
        go_at_call 320
        refine (H w1 b r1 t r1' (by have := hlen.out; omega) (by have := hlen.out; omega) h1.2).mono ?_
        cases hel : itP (elP m n) t r1 with
        | none =>
          rintro e w2 ⟨u2, rfl⟩
          go_wp2
          refine ⟨rfl, Ends.bad ?_ ((hup.out.trans u1).trans u2) rfl⟩
          rw [hspec.out, hstep.out, htg]
          simp only []
          rw [hel]; rfl
        | some q =>
          obtain ⟨x, r2⟩ := q
          have h2 := hE _ _ _ _ hel
          rintro e w2 ⟨u2, v, rfl, r2', bl, ⟨a', l', c', rfl, hce⟩, hbl⟩
          have hb : b < w.heap.size := h.lt
          have u12 := u1.trans u2
          have hold : ∀ j ∈ u3.ownBlock.toList ++ cs, w2.heap[j]? = wr.heap[j]? := u12.old hnew.out hb
          have hown2 := hid (ownsRow_keep hown.out (fun j hj => hold j (List.mem_append_left _ hj)))
          have hes2 := hid (hes.out.mono (R' := IR n w2) (fun c y b' hb' _ hr => IR.keep _ _ _ _ _ hr (fun j hj => hold j (List.mem_append_right _ (hb' j hj)))))
          clear hold
          have hnew2 := hid (New.add (hnew.out.more u1.size) hbl (Nat.le_trans hup.out.size u1.size) u2.size)
          go_wp2_with (at_builtin; refine wpList_append_sep _ rfl _ _ 71 rfl 182 i0 _ 1 24 Tryz.underlying71 HI.out hz0 hz1 hz2 rfl (by decide) _ _ _ rfl (hown2.out.alloc _) ⟨w2.heap.size, 0, none⟩ 1 1 [.slice a' l' c'] rfl rfl (one_cell _ _ _) one_one (by unfold maxLen; have := hlen.out; omega) (by have := hlen.out; omega) ?_)
          intro v' w3 hown' hg hv
          have R := hid (Row.push (R := IR n) IR.keep hes2.out rfl hce (Nat.le_trans hup.out.size u12.size) hnew2.out hown' hg hv)
          have hr3 := (r2'.below (Below.alloc (Below.refl _ _) (Nat.le_refl _) (.cells #[.slice a' l' c'] 182)))
          have u3' := hid ((((hup.out.trans u12).alloc (.cells #[.slice a' l' c'] 182)).grown hg (fun k hk => Or.inr ((hnew.out.2 k (List.mem_append_left _ (by rw [hk]; simp))).1))))
          have hr4 : Rdr w3 b r2 := by rw [Rdr, hg.block b hr3.lt (fun e => by have := (hnew.out.2 b (List.mem_append_left _ (by rw [← e]; simp))).1; omega)]; exact hr3
          clear hown' hg hv
          go_wp2
          go_roundw
          case rel =>
            refine ⟨done ++ [x], r2, _, _, ?_, ?_, hr4, u3', R.out.2.1, R.out.1, R.out.2.2⟩
            · unfold Hid
              rw [hspec.out, hstep.out, htg]
              simp only []
              rw [hel]
              simp only []
              cases toEnd (itP (elP m n)) r2.length r2 <;> simp
            · have := hlen.out
              unfold Hid
              rw [List.length_append, List.length_singleton]
              omega
          case measure =>
            rw [hr4.left, hr.left]
            omega
/-- What follows behind a tag, up to a mark. -/
def aft {α : Type} (M : Nat) (f : Nat → By → Option (α × By)) (t : Nat) (r : By) : Option (List α × By) := if t = M then (ze 4 r).map (fun r => ([], r)) else match f t r with
  | none => none
  | some (x, r2) => (toMark M f r2.length r2).map (fun p => (x :: p.1, p.2))
theorem toMark_aft {α : Type} {M : Nat} {f : Nat → By → Option (α × By)} (hf : Eats f) (s : By) : toMark M f s.length s = (match tg s with
    | none => none
    | some (t, r) => aft M f t r) := toMark_step hf s
theorem setToMark_any (m : Nat) (H : ElC m) (n : Nat) (w : World) (b : Nat) (s : By) (h : Rdr w b s) (hs : s.length ≤ 16384) (hm : s.length < m + 4) :
    Calls Tryz.prog 326 #[ptr b] w (Ends b w (toMark 4294893581 (elP m n) s.length s) fun w' v l => ∃ bl, Ow w' n v l bl ∧ New w w' bl) := by
  obtain ⟨i0, hi, hz0, hz1, hz2⟩ := info_parts info_el
  have HI := hid hi
  clear hi
  have hE := elP_eats m n
  have hfirst := hid (toMark_aft (M := 4294893581) hE s)
  go_enter Tryz.func326, Tryz.ntmps326
  go_wp2_with fail
  go_at_call 228
  refine (tag_any w b s h hs).mono ?_
  cases htg0 : tg s with
  | none =>
    rintro e w1 ⟨u1, rfl⟩
    go_wp2
    refine ⟨rfl, Ends.bad ?_ u1 rfl⟩
    rw [hfirst.out, htg0]
  | some p =>
    obtain ⟨t0, r0⟩ := p
    have h0 := tg_len htg0
    rintro e w0 ⟨u0, v, rfl, r0', rfl⟩
    have hfirst2 := hid (hfirst.out.trans (by rw [htg0]))
    clear hfirst
    go_wp2_with fail
    go_loopw [3, 4] (fun v tv wr => ∃ (done : List (El n)) (t : Nat) (r : By) (xs : List Value) (cs : List Nat), tv = .int .i64 t ∧ Hid (t < 4294967296) ∧ Hid (toMark 4294893581 (elP m n) s.length s = (aft 4294893581 (elP m n) t r).map (fun p => (done ++ p.1, p.2))) ∧ Hid (done.length + r.length + 4 ≤ s.length) ∧ Rdr wr b r ∧ Hid (UpB b w wr) ∧
      Hid (wr.ownsRow 0 73 4 v done.length xs) ∧ Hid (Ls 4 (CE wr n) xs done cs) ∧ Hid (New w wr (v.ownBlock.toList ++ cs))) (fun _ _ wr => left b wr)
    case atStart => exact ⟨[], t0, r0, [], [], rfl, h0.2, by unfold Hid; rw [hfirst2.out]; simp, by unfold Hid; simp; omega, r0', u0, World.ownsRow_nil _ _ _ _, ⟨rfl, rfl⟩, New.nil _ _⟩
    case round =>
      obtain ⟨done, t, r, xs, cs, rfl, htl, hspec, hlen, hr, hup, hown, hes, hnew⟩ := hrel
      by_cases htm : t = 4294893581
      · subst htm
        go_wp2_with fail
        go_at_call 270
        refine (zero_any wr b r 4 hr (by have := hlen.out; omega) (by decide)).mono ?_
        cases hze : ze 4 r with
        | none =>
          rintro e w1 ⟨u1, rfl⟩
          go_wp2
          refine ⟨rfl, Ends.bad ?_ (hup.out.trans u1) rfl⟩
          rw [hspec.out, aft, if_pos rfl, hze]; rfl
        | some r1 =>
          rintro e w1 ⟨u1, v, rfl, r1', rfl⟩
          have hold : ∀ j ∈ u3.ownBlock.toList ++ cs, w1.heap[j]? = wr.heap[j]? := u1.old hnew.out h.lt
          have fin : Hid (Ow w1 n u3 done (u3.ownBlock.toList ++ cs)) := by
            unfold Hid
            rw [Ow_eq]
            exact ⟨xs, cs, ownsRow_keep hown.out (fun j hj => hold j (List.mem_append_left _ hj)), hes.out.mono (fun c y b' hb' _ hr => hr.keep (fun j hj => hold j (List.mem_append_right _ (hb' j hj)))), rfl⟩
          clear hold
          go_wp2
          go_ret
          refine Ends.ok (x := done) (r := r1) ?_ (hup.out.trans u1) rfl r1' ⟨_, fin.out, hnew.out.more u1.size⟩
          rw [hspec.out, aft, if_pos rfl, hze]; simp
      · have hne : ((t : Int) == 4294893581) = false := by simp; omega
        have hne2 : ((t : Int) != 4294893581) = true := by simp; omega
        have htm' := hid htm
        clear htm
        go_wp2_with fail
        go_at_call 227
        refine (H n wr b r t hr (by have := hlen.out; omega) (by have := hlen.out; omega) htl.out).mono ?_
        cases hel : elP m n t r with
        | none =>
          rintro e w2 ⟨u2, rfl⟩
          go_wp2
          refine ⟨rfl, Ends.bad ?_ (hup.out.trans u2) rfl⟩
          rw [hspec.out, aft, if_neg htm'.out, hel]; rfl
        | some q =>
          obtain ⟨x, r2⟩ := q
          have h2 := hE _ _ _ _ hel
          rintro e w2 ⟨u2, v, rfl, r2', bl, ⟨t', k', u', a', l', c', rfl, hce⟩, hbl⟩
          have hb : b < w.heap.size := h.lt
          have hold : ∀ j ∈ u3.ownBlock.toList ++ cs, w2.heap[j]? = wr.heap[j]? := u2.old hnew.out hb
          have hown2 := hid (ownsRow_keep hown.out (fun j hj => hold j (List.mem_append_left _ hj)))
          have hes2 := hid (hes.out.mono (R' := CE w2 n) (fun c y b' hb' _ hr => hr.keep (fun j hj => hold j (List.mem_append_right _ (hb' j hj)))))
          clear hold
          have hnew2 := hid (New.add hnew.out hbl hup.out.size u2.size)
          go_wp2_with (at_builtin; refine wpList_append_sep _ rfl _ _ 59 rfl 73 i0 _ 4 64 Tryz.underlying59 HI.out hz0 hz1 hz2 rfl (by decide) _ _ _ rfl (hown2.out.alloc _) ⟨w2.heap.size, 0, none⟩ 1 1 [.int .i64 t', .string k', .string u', .slice a' l' c'] rfl rfl (four_cells _ _ _ _ _ _) four_one (by unfold maxLen; have := hlen.out; omega) (by have := hlen.out; omega) ?_)
          intro v' w3 hown' hg hv
          have R := hid (Row.push (R := fun w => CE w n) (fun _ _ _ _ _ h k => h.keep k) hes2.out rfl hce (Nat.le_trans hup.out.size u2.size) hnew2.out hown' hg hv)
          have hr3 := (r2'.below (Below.alloc (Below.refl _ _) (Nat.le_refl _) (.cells #[.int .i64 t', .string k', .string u', .slice a' l' c'] 73)))
          have u3' := hid ((((hup.out.trans u2).alloc (.cells #[.int .i64 t', .string k', .string u', .slice a' l' c'] 73)).grown hg (fun k hk => Or.inr ((hnew.out.2 k (List.mem_append_left _ (by rw [hk]; simp))).1))))
          have hr4 : Rdr w3 b r2 := by rw [Rdr, hg.block b hr3.lt (fun e => by have := (hnew.out.2 b (List.mem_append_left _ (by rw [← e]; simp))).1; omega)]; exact hr3
          clear hown' hg hv
          go_wp2_with fail
          go_at_call 228
          refine (tag_any w3 b r2 hr4 (by have := hlen.out; omega)).mono ?_
          cases htg : tg r2 with
          | none =>
            rintro e w4 ⟨u4, rfl⟩
            go_wp2
            refine ⟨rfl, Ends.bad ?_ (u3'.out.trans u4) rfl⟩
            rw [hspec.out, aft, if_neg htm'.out, hel]
            simp only []
            rw [toMark_aft hE, htg]; rfl
          | some q =>
            obtain ⟨t5, r5⟩ := q
            have h5 := tg_len htg
            rintro e w4 ⟨u4, v, rfl, r5', rfl⟩
            have hold : ∀ j ∈ v'.ownBlock.toList ++ (cs ++ bl), w4.heap[j]? = w3.heap[j]? := u4.old R.out.2.2 hb
            have R1 := hid (R.out.1.mono (R' := CE w4 n) (fun c y b' hb' _ hr => hr.keep (fun j hj => hold j (List.mem_append_right _ (hb' j hj)))))
            have R2 := hid (ownsRow_keep R.out.2.1 (fun j hj => hold j (List.mem_append_left _ hj)))
            clear hold
            go_wp2
            go_roundw
            case rel =>
              refine ⟨done ++ [x], t5, r5, _, _, rfl, h5.2, ?_, ?_, r5', u3'.out.trans u4, R2.out, R1.out, R.out.2.2.more u4.size⟩
              · unfold Hid
                rw [hspec.out, aft, if_neg htm'.out, hel]
                simp only []
                rw [toMark_aft hE, htg]
                simp only []
                cases aft 4294893581 (elP m n) t5 r5 <;> simp
              · have := hlen.out
                unfold Hid
                rw [List.length_append, List.length_singleton]
                omega
            case measure =>
              rw [r5'.left, hr.left]
              omega
theorem itemsToMark_any (m : Nat) (n : Nat) (H : ItC m n) (w : World) (b : Nat) (s : By) (h : Rdr w b s) (hs : s.length ≤ 16384) (hm : s.length < m + 8) :
    Calls Tryz.prog 303 #[ptr b] w (Ends b w (toMark 4294893789 (itP (elP m n)) s.length s) fun w' v l => ∃ bl, OwI w' n v l bl ∧ New w w' bl) := by
  obtain ⟨i0, hi, hz0, hz1, hz2⟩ := info_parts info_it
  have HI := hid hi
  clear hi
  have hE := itP_eats (elP_eats m n)
  have hfirst := hid (toMark_aft (M := 4294893789) hE s)
  go_enter Tryz.func303, Tryz.ntmps303
  go_wp2_with fail
  go_at_call 228
  refine (tag_any w b s h hs).mono ?_
  cases htg0 : tg s with
  | none =>
    rintro e w1 ⟨u1, rfl⟩
    go_wp2
    refine ⟨rfl, Ends.bad ?_ u1 rfl⟩
    rw [hfirst.out, htg0]
  | some p =>
    obtain ⟨t0, r0⟩ := p
    have h0 := tg_len htg0
    rintro e w0 ⟨u0, v, rfl, r0', rfl⟩
    have hfirst2 := hid (hfirst.out.trans (by rw [htg0]))
    clear hfirst
    go_wp2_with fail
    go_loopw [3, 4] (fun v tv wr => ∃ (done : Its n) (t : Nat) (r : By) (xs : List Value) (cs : List Nat), tv = .int .i64 t ∧ Hid (t < 4294967296) ∧ Hid (toMark 4294893789 (itP (elP m n)) s.length s = (aft 4294893789 (itP (elP m n)) t r).map (fun p => (done ++ p.1, p.2))) ∧ Hid (done.length + r.length + 4 ≤ s.length) ∧ Rdr wr b r ∧ Hid (UpB b w wr) ∧
      Hid (wr.ownsRow 0 182 1 v done.length xs) ∧ Hid (Ls 1 (IR n wr) xs done cs) ∧ Hid (New w wr (v.ownBlock.toList ++ cs))) (fun _ _ wr => left b wr)
    case atStart => exact ⟨[], t0, r0, [], [], rfl, h0.2, by unfold Hid; rw [hfirst2.out]; simp, by unfold Hid; simp; omega, r0', u0, World.ownsRow_nil _ _ _ _, ⟨rfl, rfl⟩, New.nil _ _⟩
    case round =>
      obtain ⟨done, t, r, xs, cs, rfl, htl, hspec, hlen, hr, hup, hown, hes, hnew⟩ := hrel
      by_cases htm : t = 4294893789
      · subst htm
        go_wp2_with fail
        go_at_call 270
        refine (zero_any wr b r 4 hr (by have := hlen.out; omega) (by decide)).mono ?_
        cases hze : ze 4 r with
        | none =>
          rintro e w1 ⟨u1, rfl⟩
          go_wp2
          refine ⟨rfl, Ends.bad ?_ (hup.out.trans u1) rfl⟩
          rw [hspec.out, aft, if_pos rfl, hze]; rfl
        | some r1 =>
          rintro e w1 ⟨u1, v, rfl, r1', rfl⟩
          have hold : ∀ j ∈ u3.ownBlock.toList ++ cs, w1.heap[j]? = wr.heap[j]? := u1.old hnew.out h.lt
          have fin : Hid (OwI w1 n u3 done (u3.ownBlock.toList ++ cs)) := by
            unfold Hid
            exact ⟨xs, cs, ownsRow_keep hown.out (fun j hj => hold j (List.mem_append_left _ hj)), hes.out.mono (fun c y b' hb' _ hr => IR.keep _ _ _ _ _ hr (fun j hj => hold j (List.mem_append_right _ (hb' j hj)))), rfl⟩
          clear hold
          go_wp2
          go_ret
          refine Ends.ok (x := done) (r := r1) ?_ (hup.out.trans u1) rfl r1' ⟨_, fin.out, hnew.out.more u1.size⟩
          rw [hspec.out, aft, if_pos rfl, hze]; simp
      · have hne : ((t : Int) == 4294893789) = false := by simp; omega
        have hne2 : ((t : Int) != 4294893789) = true := by simp; omega
        have htm' := hid htm
        clear htm
        go_wp2_with fail
        go_at_call 320
        refine (H wr b r t hr (by have := hlen.out; omega) (by have := hlen.out; omega) htl.out).mono ?_
        cases hel : itP (elP m n) t r with
        | none =>
          rintro e w2 ⟨u2, rfl⟩
          go_wp2
          refine ⟨rfl, Ends.bad ?_ (hup.out.trans u2) rfl⟩
          rw [hspec.out, aft, if_neg htm'.out, hel]; rfl
        | some q =>
          obtain ⟨x, r2⟩ := q
          have h2 := hE _ _ _ _ hel
          rintro e w2 ⟨u2, v, rfl, r2', bl, ⟨a', l', c', rfl, hce⟩, hbl⟩
          have hb : b < w.heap.size := h.lt
          have hold : ∀ j ∈ u3.ownBlock.toList ++ cs, w2.heap[j]? = wr.heap[j]? := u2.old hnew.out hb
          have hown2 := hid (ownsRow_keep hown.out (fun j hj => hold j (List.mem_append_left _ hj)))
          have hes2 := hid (hes.out.mono (R' := IR n w2) (fun c y b' hb' _ hr => IR.keep _ _ _ _ _ hr (fun j hj => hold j (List.mem_append_right _ (hb' j hj)))))
          clear hold
          have hnew2 := hid (New.add hnew.out hbl hup.out.size u2.size)
          go_wp2_with (at_builtin; refine wpList_append_sep _ rfl _ _ 71 rfl 182 i0 _ 1 24 Tryz.underlying71 HI.out hz0 hz1 hz2 rfl (by decide) _ _ _ rfl (hown2.out.alloc _) ⟨w2.heap.size, 0, none⟩ 1 1 [.slice a' l' c'] rfl rfl (one_cell _ _ _) one_one (by unfold maxLen; have := hlen.out; omega) (by have := hlen.out; omega) ?_)
          intro v' w3 hown' hg hv
          have R := hid (Row.push (R := IR n) IR.keep hes2.out rfl hce (Nat.le_trans hup.out.size u2.size) hnew2.out hown' hg hv)
          have hr3 := (r2'.below (Below.alloc (Below.refl _ _) (Nat.le_refl _) (.cells #[.slice a' l' c'] 182)))
          have u3' := hid ((((hup.out.trans u2).alloc (.cells #[.slice a' l' c'] 182)).grown hg (fun k hk => Or.inr ((hnew.out.2 k (List.mem_append_left _ (by rw [hk]; simp))).1))))
          have hr4 : Rdr w3 b r2 := by rw [Rdr, hg.block b hr3.lt (fun e => by have := (hnew.out.2 b (List.mem_append_left _ (by rw [← e]; simp))).1; omega)]; exact hr3
          clear hown' hg hv
          go_wp2_with fail
          go_at_call 228
          refine (tag_any w3 b r2 hr4 (by have := hlen.out; omega)).mono ?_
          cases htg : tg r2 with
          | none =>
            rintro e w4 ⟨u4, rfl⟩
            go_wp2
            refine ⟨rfl, Ends.bad ?_ (u3'.out.trans u4) rfl⟩
            rw [hspec.out, aft, if_neg htm'.out, hel]
            simp only []
            rw [toMark_aft hE, htg]; rfl
          | some q =>
            obtain ⟨t5, r5⟩ := q
            have h5 := tg_len htg
            rintro e w4 ⟨u4, v, rfl, r5', rfl⟩
            have hold : ∀ j ∈ v'.ownBlock.toList ++ (cs ++ bl), w4.heap[j]? = w3.heap[j]? := u4.old R.out.2.2 hb
            have R1 := hid (R.out.1.mono (R' := IR n w4) (fun c y b' hb' _ hr => IR.keep _ _ _ _ _ hr (fun j hj => hold j (List.mem_append_right _ (hb' j hj)))))
            have R2 := hid (ownsRow_keep R.out.2.1 (fun j hj => hold j (List.mem_append_left _ hj)))
            clear hold
            go_wp2
            go_roundw
            case rel =>
              refine ⟨done ++ [x], t5, r5, _, _, rfl, h5.2, ?_, ?_, r5', u3'.out.trans u4, R2.out, R1.out, R.out.2.2.more u4.size⟩
              · unfold Hid
                rw [hspec.out, aft, if_neg htm'.out, hel]
                simp only []
                rw [toMark_aft hE, htg]
                simp only []
                cases aft 4294893789 (itP (elP m n)) t5 r5 <;> simp
              · have := hlen.out
                unfold Hid
                rw [List.length_append, List.length_singleton]
                omega
            case measure =>
              rw [r5'.left, hr.left]
              omega
end Go.Proofs.YtaokifbpakbgdaaGreatDoor

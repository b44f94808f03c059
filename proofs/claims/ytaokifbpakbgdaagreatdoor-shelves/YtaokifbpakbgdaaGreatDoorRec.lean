/-
  Package dataset's reader, its loops and its recursion: what is read, and how deep.
-/
import Derived.Test.YtaokifbpakbgdaaGreatDoorRdr
namespace Go.Proofs.YtaokifbpakbgdaaGreatDoor
open Go.RowKit

/-- How many bytes a reader has left. -/
def left (b : Nat) (w : World) : Nat := match w.cell? ⟨b, 0, none⟩ with
  | some (.string s) => s.size
  | _ => 0
theorem Rdr.left {w : World} {b : Nat} {s : By} (h : Rdr w b s) : left b w = s.length := by
  unfold Go.Proofs.YtaokifbpakbgdaaGreatDoor.left
  rw [h.cell]; rfl
theorem info_el : (Tryz.prog.info? 73).map (fun i => (i.zero, i.size, i.bytes)) = some (some (.agg #[.int .i64 0, .string ByteArray.empty, .string ByteArray.empty, .slice none 0 0]), 4, 64) := by kernel_rfl
theorem info_it : (Tryz.prog.info? 182).map (fun i => (i.zero, i.size, i.bytes)) = some (some (.agg #[.slice none 0 0]), 1, 24) := by kernel_rfl
/-- An element's value. -/
def EV (w : World) (n : Nat) (v : Value) (x : El n) (b : List Nat) : Prop := ∃ t k u a l c, v = .agg #[.int .i64 t, .string k, .string u, .slice a l c] ∧ CE w n [.int .i64 t, .string k, .string u, .slice a l c] x b
/-- Blocks, none twice, that were made on the way from a world to another one. -/
def New (w w' : World) (b : List Nat) : Prop := b.Nodup ∧ ∀ j ∈ b, w.heap.size ≤ j ∧ j < w'.heap.size
theorem four_cells (w : World) (T : TypeId) (c0 c1 c2 c3 : Value) : ∀ j u, [c0, c1, c2, c3][j]? = some u → (w.alloc (.cells #[c0, c1, c2, c3] T)).cell? ((⟨w.heap.size, 0, none⟩ : Addr).add j) = some u := by
  intro j u hj
  rw [Addr.add_lit]
  match j, hj with
  | 0, hj | 1, hj | 2, hj | 3, hj => simp at hj; subst hj; simp
  | j + 4, hj => simp at hj
theorem four_one {t : Int} {k u : ByteArray} {a : Option Addr} {l c : Nat} : ∀ v ∈ [Value.int .i64 t, .string k, .string u, .slice a l c], v.oneCell' = true := by
  intro v hv
  simp at hv
  rcases hv with rfl | rfl | rfl | rfl <;> rfl
/-- What is asked of the method 'element', at a depth. -/
def ElC (m : Nat) : Prop := ∀ (n : Nat) (w : World) (b : Nat) (s : By) (t : Nat), Rdr w b s → s.length ≤ 16384 → s.length < m → t < 4294967296 →
  Calls Tryz.prog 227 #[ptr b, .int .i64 t] w (Ends b w (elP m n t s) fun w' v x => ∃ bl, EV w' n v x bl ∧ New w w' bl)
theorem New.nil (w w' : World) : New w w' [] := ⟨List.nodup_nil, fun j hj => by cases hj⟩
theorem New.more {w0 w w' : World} {l : List Nat} (h : New w0 w l) (hs : w.heap.size ≤ w'.heap.size) : New w0 w' l := ⟨h.1, fun j hj => ⟨(h.2 j hj).1, Nat.lt_of_lt_of_le (h.2 j hj).2 hs⟩⟩
/-- One thing more in a row of one's own. -/
theorem Row.snoc {α : Type} {w0 w w' : World} {T : TypeId} {k : Nat} {R R' : List Value → α → List Nat → Prop} {v v' : Value} {l : List α} {xs c : List Value} {cs b : List Nat} {x : α} (hls : Ls k R xs l cs) (hc : c.length = k) (hx : R c x b)
    (hsz : w0.heap.size ≤ w.heap.size) (hn : New w0 w (v.ownBlock.toList ++ cs ++ b)) (hown' : w'.ownsRow 0 T k v' (l.length + 1) (xs ++ c)) (hg : w.grownBy w' v.ownBlock) (hv : v'.ownBlock = v.ownBlock ∨ ∀ g ∈ v'.ownBlock.toList, w.heap.size ≤ g)
    (hR : ∀ c y b', (∀ j ∈ b', j < w.heap.size ∧ w'.heap[j]? = w.heap[j]?) → R c y b' → R' c y b') :
    Ls k R' (xs ++ c) (l ++ [x]) (cs ++ b) ∧ w'.ownsRow 0 T k v' (l ++ [x]).length (xs ++ c) ∧ New w0 w' (v'.ownBlock.toList ++ (cs ++ b)) := by
  obtain ⟨hn1, hn2⟩ := hn
  rw [List.append_assoc] at hn1 hn2
  have hne : ∀ j ∈ cs ++ b, j < w.heap.size ∧ w'.heap[j]? = w.heap[j]? := fun j hj => by
    have h1 := hn2 j (List.mem_append_right _ hj)
    refine ⟨h1.2, hg.block j h1.2 (fun e => ?_)⟩
    have := (List.nodup_append.1 hn1).2.2 j (by rw [← e]; simp) j hj
    exact this rfl
  refine ⟨(hls.snoc hc hx).mono (fun c y b' hb' _ hr => hR c y b' (fun j hj => hne j (hb' j hj)) hr), by rw [List.length_append]; exact hown', ?_, ?_⟩
  · rcases hv with e | e
    · rw [e]; exact hn1
    · refine List.nodup_append.2 ⟨?_, (List.nodup_append.1 hn1).2.1, fun a ha j hj => ?_⟩
      · cases v'.ownBlock <;> simp
      · have h1 := e a ha
        have h2 := (hne j hj).1
        omega
  · intro j hj
    rcases List.mem_append.1 hj with hj | hj
    · rcases hv with e | e
      · have := hn2 j (List.mem_append_left _ (by rw [← e]; exact hj))
        have := hg.size
        omega
      · have h1 := e j hj
        exact ⟨by omega, ownsRow_lt hown' j hj⟩
    · have := hn2 j (List.mem_append_right _ hj)
      have := hg.size
      omega
/-- Behind 'append(l, x)': x was laid in a block of its own first. -/
theorem Row.push {α : Type} {w0 w w' : World} {o : Obj} {T : TypeId} {k : Nat} {R : World → List Value → α → List Nat → Prop} (hK : ∀ w w' c x b, R w c x b → (∀ j ∈ b, w'.heap[j]? = w.heap[j]?) → R w' c x b) {v v' : Value} {l : List α} {xs c : List Value} {cs b : List Nat} {x : α}
    (hls : Ls k (R w) xs l cs) (hc : c.length = k) (hx : R w c x b) (hsz : w0.heap.size ≤ w.heap.size) (hn : New w0 w (v.ownBlock.toList ++ cs ++ b)) (hown' : w'.ownsRow 0 T k v' (l.length + 1) (xs ++ c)) (hg : (w.alloc o).grownBy w' v.ownBlock)
    (hv : Moved (w.alloc o) v v') :
    Ls k (R w') (xs ++ c) (l ++ [x]) (cs ++ b) ∧ w'.ownsRow 0 T k v' (l ++ [x]).length (xs ++ c) ∧ New w0 w' (v'.ownBlock.toList ++ (cs ++ b)) := by
  have hsa : w.heap.size ≤ (w.alloc o).heap.size := by simp
  have ha : ∀ j, j < w.heap.size → (w.alloc o).heap[j]? = w.heap[j]? := fun j hj => Below.heap_alloc w o j hj
  have hlt : ∀ j ∈ cs ++ b, j < w.heap.size := fun j hj => (hn.2 j (by rw [List.append_assoc]; exact List.mem_append_right _ hj)).2
  refine Row.snoc (w := w.alloc o) (R := R (w.alloc o)) (hls.mono (fun c y b' hb' _ hr => hK _ _ _ _ _ hr (fun j hj => ha j (hlt j (List.mem_append_left _ (hb' j hj)))))) hc (hK _ _ _ _ _ hx (fun j hj => ha j (hlt j (List.mem_append_right _ hj)))) (Nat.le_trans hsz hsa) (hn.more hsa) hown' hg hv
    (fun c y b' hb' hr => hK _ _ _ _ _ hr (fun j hj => (hb' j hj).2))
theorem UpB.old {b : Nat} {w0 w w' : World} (h : UpB b w w') {l : List Nat} (hl : New w0 w l) (hb : b < w0.heap.size) : ∀ j ∈ l, w'.heap[j]? = w.heap[j]? := fun j hj => h.block (hl.2 j hj).2 (by have := (hl.2 j hj).1; omega)
theorem New.add {w0 w w' : World} {l b : List Nat} (h : New w0 w l) (hb : New w w' b) (h0 : w0.heap.size ≤ w.heap.size) (hs : w.heap.size ≤ w'.heap.size) : New w0 w' (l ++ b) :=
  ⟨List.nodup_append.2 ⟨h.1, hb.1, fun i hi j hj => by have := (h.2 i hi).2; have := (hb.2 j hj).1; omega⟩, fun j hj => by
    rcases List.mem_append.1 hj with hj | hj
    · exact (h.more hs).2 j hj
    · exact ⟨Nat.le_trans h0 (hb.2 j hj).1, (hb.2 j hj).2⟩⟩
theorem set_any (m : Nat) (H : ElC m) (n : Nat) (w : World) (b : Nat) (s : By) (h : Rdr w b s) (hs : s.length ≤ 16384) (hm : s.length < m + 4) :
    Calls Tryz.prog 174 #[ptr b] w (Ends b w ((toEnd (elP m n) s.length s).map fun l => (l, [])) fun w' v l => ∃ bl, Ow w' n v l bl ∧ New w w' bl) := by
  obtain ⟨i0, hi, hz0, hz1, hz2⟩ := info_parts info_el
  have HI := hid hi
  clear hi
  have hE := elP_eats m n
  go_enter Tryz.func174, Tryz.ntmps174
  go_wp2_with fail
  go_loopw [3] (fun v wr => ∃ (done : List (El n)) (r : By) (xs : List Value) (cs : List Nat), Hid (toEnd (elP m n) s.length s = (toEnd (elP m n) r.length r).map (done ++ ·)) ∧ Hid (done.length + r.length ≤ s.length) ∧ Rdr wr b r ∧ Hid (UpB b w wr) ∧
      Hid (wr.ownsRow 0 73 4 v done.length xs) ∧ Hid (Ls 4 (CE wr n) xs done cs) ∧ Hid (New w wr (v.ownBlock.toList ++ cs))) (fun _ wr => left b wr)
  case atStart => exact ⟨[], s, [], [], by unfold Hid; simp, by unfold Hid; simp, h, UpB.refl _ _, World.ownsRow_nil _ _ _ _, ⟨rfl, rfl⟩, New.nil _ _⟩
  case round =>
    obtain ⟨done, r, xs, cs, hspec, hlen, hr, hup, hown, hes, hnew⟩ := hrel
    have hc := hr.cell
    have hl := bs_toList r
    by_cases hr0 : r = []
    · subst hr0
      go_wp2_with fail
      go_ret
      have e : toEnd (elP m n) s.length s = some done := by rw [hspec.out]; simp [toEnd]
      refine Ends.ok (x := done) (r := []) (by rw [e]; rfl) hup.out rfl hr ⟨_, ?_, hnew.out⟩
      rw [Ow_eq]
      exact ⟨xs, cs, hown.out, hes.out, rfl⟩
    · have hne : r.isEmpty = false := by cases r with | nil => exact absurd rfl hr0 | cons _ _ => rfl
      have hne2 : (r == []) = false := by cases r with | nil => exact absurd rfl hr0 | cons _ _ => rfl
      have hstep := hid (toEnd_step hE hr0)
      clear hr0
      go_wp2_with fail
      go_at_call 228
      refine (tag_any wr b r hr (by have := hlen.out; omega)).mono ?_
      cases htg : tg r with
      | none =>
        rintro e w1 ⟨u1, rfl⟩
        go_wp2
        refine ⟨rfl, Ends.bad ?_ (hup.out.trans u1) rfl⟩
        rw [hspec.out, hstep.out, htg]; rfl
      | some p =>
        obtain ⟨t, r1⟩ := p
        have h1 := tg_len htg
        rintro e w1 ⟨u1, v, rfl, r1', rfl⟩
        go_wp2_with fail
        go_at_call 227
        refine (H n w1 b r1 t r1' (by have := hlen.out; omega) (by have := hlen.out; omega) h1.2).mono ?_
        cases hel : elP m n t r1 with
        | none =>
          rintro e w2 ⟨u2, rfl⟩
          go_wp2
          refine ⟨rfl, Ends.bad ?_ ((hup.out.trans u1).trans u2) rfl⟩
          rw [hspec.out, hstep.out, htg]
          simp only []
          rw [hel]; rfl
        | some q =>
          obtain ⟨x, r2⟩ := q
          have h2 := hE _ _ _ _ hel
          rintro e w2 ⟨u2, v, rfl, r2', bl, ⟨t', k', u', a', l', c', rfl, hce⟩, hbl⟩
          have hb : b < w.heap.size := h.lt
          have u12 := u1.trans u2
          have hold : ∀ j ∈ u3.ownBlock.toList ++ cs, w2.heap[j]? = wr.heap[j]? := u12.old hnew.out hb
          have hown2 := hid (ownsRow_keep hown.out (fun j hj => hold j (List.mem_append_left _ hj)))
          have hes2 := hid (hes.out.mono (R' := CE w2 n) (fun c y b' hb' _ hr => hr.keep (fun j hj => hold j (List.mem_append_right _ (hb' j hj)))))
          clear hold
          have hnew2 := hid (New.add (hnew.out.more u1.size) hbl (Nat.le_trans hup.out.size u1.size) u2.size)
          go_wp2_with (at_builtin; refine wpList_append_sep _ rfl _ _ 59 rfl 73 i0 _ 4 64 Tryz.underlying59 HI.out hz0 hz1 hz2 rfl (by decide) _ _ _ rfl (hown2.out.alloc _) ⟨w2.heap.size, 0, none⟩ 1 1 [.int .i64 t', .string k', .string u', .slice a' l' c'] rfl rfl (four_cells _ _ _ _ _ _) four_one (by unfold maxLen; have := hlen.out; omega) (by have := hlen.out; omega) ?_)
          intro v' w3 hown' hg hv
          have R := hid (Row.push (R := fun w => CE w n) (fun _ _ _ _ _ h k => h.keep k) hes2.out rfl hce (Nat.le_trans hup.out.size u12.size) hnew2.out hown' hg hv)
          have hr3 := (r2'.below (Below.alloc (Below.refl _ _) (Nat.le_refl _) (.cells #[.int .i64 t', .string k', .string u', .slice a' l' c'] 73)))
          have u3' := hid ((((hup.out.trans u12).alloc (.cells #[.int .i64 t', .string k', .string u', .slice a' l' c'] 73)).grown hg (fun k hk => Or.inr ((hnew.out.2 k (List.mem_append_left _ (by rw [hk]; simp))).1))))
          have hr4 : Rdr w3 b r2 := by rw [Rdr, hg.block b hr3.lt (fun e => by have := (hnew.out.2 b (List.mem_append_left _ (by rw [← e]; simp))).1; omega)]; exact hr3
          clear hown' hg hv
          go_wp2
          go_roundw
          case rel =>
            refine ⟨done ++ [x], r2, _, _, ?_, ?_, hr4, u3', R.out.2.1, R.out.1, R.out.2.2⟩
            · unfold Hid
              rw [hspec.out, hstep.out, htg]
              simp only []
              rw [hel]
              simp only []
              cases toEnd (elP m n) r2.length r2 <;> simp
            · have := hlen.out
              unfold Hid
              rw [List.length_append, List.length_singleton]
              omega
          case measure =>
            rw [hr4.left, hr.left]
            omega
end Go.Proofs.YtaokifbpakbgdaaGreatDoor

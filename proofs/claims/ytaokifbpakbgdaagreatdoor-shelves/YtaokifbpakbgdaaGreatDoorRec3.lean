/-
  Package dataset's reader: an item, a sequence, an element, at every depth; and reading as a whole, where the panic is caught.
-/
import Derived.Test.YtaokifbpakbgdaaGreatDoorRec2
import Derived.Handy
namespace Go.Proofs.YtaokifbpakbgdaaGreatDoor
open Go.RowKit

theorem lg_no {α : Type} {M : Nat} {f : Nat → By → Option (α × By)} {s : By} (h : nu 4 s = none) : lg M f s = none := by rw [lg, h]
theorem lg_mark {α : Type} {M : Nat} {f : Nat → By → Option (α × By)} {s r : By} {k : Nat} (h : nu 4 s = some (k, r)) (hk : k = 4294967295) : lg M f s = toMark M f r.length r := by rw [lg, h]; exact if_pos hk
theorem lg_short {α : Type} {M : Nat} {f : Nat → By → Option (α × By)} {s r : By} {k : Nat} (h : nu 4 s = some (k, r)) (hk : k ≠ 4294967295) (ht : tk k r = none) : lg M f s = none := by
  rw [lg, h]; simp only []; rw [if_neg hk, ht]
theorem lg_whole {α : Type} {M : Nat} {f : Nat → By → Option (α × By)} {s r a r2 : By} {k : Nat} (h : nu 4 s = some (k, r)) (hk : k ≠ 4294967295) (ht : tk k r = some (a, r2)) : lg M f s = (toEnd f a.length a).map (fun l => (l, r2)) := by
  rw [lg, h]; simp only []; rw [if_neg hk, ht]; simp only []; cases toEnd f a.length a <;> rfl
theorem Rdr.new (w : World) (s : By) : Rdr (w.alloc (.cells #[.string (bs s)] 208)) w.heap.size s := by
  rw [Rdr]
  exact heap_alloc_new _ _
/-- A reader of its own leaves the other one alone. -/
theorem UpB.inner {b : Nat} {w w1 w2 : World} {o : Obj} (h : UpB b w w1) (k : UpB w1.heap.size (w1.alloc o) w2) : UpB b w w2 := by
  have ha : (w1.alloc o).heap.size = w1.heap.size + 1 := by simp
  refine ⟨⟨k.1.1.trans h.1.1, k.1.2.1.trans h.1.2.1, k.1.2.2.trans h.1.2.2⟩, ?_, fun j hj hb => ?_⟩
  · have h1 := h.size
    have h2 := k.size
    omega
  · have h1 := h.size
    rw [k.block (by omega) (by omega), Below.heap_alloc w1 o j (by omega)]
    exact h.block hj hb
theorem Rdr.inner {b : Nat} {w1 w2 : World} {o : Obj} {s : By} (h : Rdr w1 b s) (k : UpB w1.heap.size (w1.alloc o) w2) : Rdr w2 b s := by
  have h1 := h.lt
  rw [Rdr, k.block (by simp; omega) (by omega), Below.heap_alloc w1 o b h1]
  exact h
theorem New.inner {w w1 w2 : World} {o : Obj} {l : List Nat} (h : New (w1.alloc o) w2 l) (hs : w.heap.size ≤ w1.heap.size) : New w w2 l :=
  ⟨h.1, fun j hj => ⟨by have := (h.2 j hj).1; simp at this; omega, (h.2 j hj).2⟩⟩
theorem New.from {w w1 w2 : World} {l : List Nat} (h : New w1 w2 l) (hs : w.heap.size ≤ w1.heap.size) : New w w2 l :=
  ⟨h.1, fun j hj => ⟨Nat.le_trans hs (h.2 j hj).1, (h.2 j hj).2⟩⟩
theorem Rdr.other {w : World} {b : Nat} {s : By} (h : Rdr w b s) {p : Addr} (hp : p.block ≠ b) (u : Value) : Rdr (w.setCell p u) b s := by
  rw [Rdr, Below.heap_setCell w p u b (fun e => hp e.symm)]; exact h
theorem Ow.other {w : World} {n : Nat} {v : Value} {l : List (El n)} {bl : List Nat} (h : Ow w n v l bl) {p : Addr} (hp : p.block ∉ bl) (u : Value) : Ow (w.setCell p u) n v l bl :=
  h.keep _ _ _ _ (fun j hj => Below.heap_setCell w p u j (fun e => hp (e ▸ hj)))
theorem UpB.from {b : Nat} {w w' : World} {o : Obj} (h : UpB b (w.alloc o) w') : UpB b w w' := (UpB.refl b w).alloc o |>.trans h
/-- A variable's block stays as it is. -/
theorem UpB.var {b : Nat} {w w' : World} {v : Value} {T : TypeId} (h : UpB b (w.alloc (.cells #[v] T)) w') (hb : b < w.heap.size) : w'.heap[w.heap.size]? = some (.cells #[v] T (0, 0)) := by
  rw [h.block (by simp) (by omega)]
  exact heap_alloc_new _ _
theorem Ow.slice {w : World} {n : Nat} {v : Value} {l : List (El n)} {bl : List Nat} (h : Ow w n v l bl) : ∃ ad cap, v = .slice ad l.length cap := by
  rw [Ow_eq] at h
  obtain ⟨xs, cs, ⟨_, h1⟩, _⟩ := h
  rcases h1 with ⟨rfl, h1⟩ | ⟨g, cap, cur, rfl, _⟩
  · exact ⟨_, _, by rw [h1]⟩
  · exact ⟨_, _, rfl⟩
theorem item_any (m : Nat) (H : ElC m) (n : Nat) : ItC m n := by
  intro w b s t h hs hm ht
  by_cases ht0 : t = 4294893568
  · have hd : ((t : Int) == 4294893568) = true := by simp; omega
    have hspec := hid (show itP (elP m n) t s = lg 4294893581 (elP m n) s by unfold itP; exact if_pos ht0)
    clear ht0
    go_enter Tryz.func320, Tryz.ntmps320
    go_wp2_with fail
    go_at_call 267
    have r0 := h.below (Below.alloc (Below.refl _ _) (Nat.le_refl _) (.cells #[.slice none 0 0] 182))
    refine (need_yes _).mono ?_
    rintro e w0 ⟨rfl, rfl⟩
    go_wp2_with fail
    go_at_call 273
    refine (number_any _ b s 4 r0 hs (by decide)).mono ?_
    cases hn : nu 4 s with
    | none =>
      rintro e w1 ⟨u1, rfl⟩
      go_wp2
      refine ⟨rfl, Ends.bad ?_ u1.from rfl⟩
      rw [hspec.out, lg, hn]
    | some p =>
      obtain ⟨k, r⟩ := p
      have hl := nu_len hn
      have h256 : (256 : Nat) ^ 4 = 4294967296 := rfl
      rintro e w1 ⟨u1, v, rfl, r1, rfl⟩
      by_cases hk : k = 4294967295
      · have hd1 : ((k : Int) == 4294967295) = true := by simp; omega
        have hspec2 := hid (lg_mark (M := 4294893581) (f := elP m n) hn hk)
        clear hk
        go_wp2_with fail
        go_at_call 326
        refine (setToMark_any m H n w1 b r r1 (by omega) (by omega)).mono ?_
        cases hset : toMark 4294893581 (elP m n) r.length r with
        | none =>
          rintro e w2 ⟨u2, rfl⟩
          go_wp2
          refine ⟨rfl, Ends.bad ?_ (u1.trans u2).from rfl⟩
          rw [hspec.out, hspec2.out, hset]
        | some q =>
          obtain ⟨l, r2⟩ := q
          rintro e w2 ⟨u2, v, rfl, r2', bl, how, hbl⟩
          have hvar := (u1.trans u2).var h.lt
          have hvc := cell_of_one hvar
          have hvf := free_of_one hvar
          have hz0 : w.heap.size + 1 ≤ w1.heap.size := by have := u1.size; simpa using this
          have hbn : w.heap.size ∉ bl := fun e => by have := (hbl.2 _ e).1; omega
          have hblt := h.lt
          obtain ⟨ad, cap, rfl⟩ := how.slice
          have hset2 := cell_of_one (one_setCell hvar (u := .slice ad l.length cap))
          go_wp2
          (try simp only [Exit.inBlock, Exit.then])
          refine bodyPost_ret (v := .agg #[.slice ad l.length cap]) (by simp [results, Tryz.results320, go_sem, hset2]) rfl ?_
          refine Ends.ok (x := l) (r := r2) ?_ ((u1.trans u2).from.setCell (Or.inr (Nat.le_refl _)) _) rfl (r2'.other (by simp; omega) _) ⟨bl, IV.of (how.other hbn _), (hbl.from (by omega)).more (by simp)⟩
          rw [hspec.out, hspec2.out, hset]
      · have hd1 : ((k : Int) == 4294967295) = false := by simp; omega
        have hk' := hid hk
        clear hk
        go_wp2_with fail
        go_at_call 269
        refine (take_any w1 b r k r1 (by omega) (by omega)).mono ?_
        cases htk : tk k r with
        | none =>
          rintro e w2 ⟨u2, rfl⟩
          go_wp2
          refine ⟨rfl, Ends.bad ?_ (u1.trans u2).from rfl⟩
          rw [hspec.out, lg_short hn hk'.out htk]
        | some q =>
          obtain ⟨a, r2⟩ := q
          have hla := tk_len htk
          rintro e w2 ⟨u2, v, rfl, r2', rfl⟩
          go_wp2_with fail
          go_at_call 174
          refine (set_any m H n _ w2.heap.size a (Rdr.new w2 a) (by omega) (by omega)).mono ?_
          cases hset : toEnd (elP m n) a.length a with
          | none =>
            rintro e w3 ⟨u3, rfl⟩
            go_wp2
            refine ⟨rfl, Ends.bad ?_ ((u1.trans u2).inner u3).from rfl⟩
            rw [hspec.out, lg_whole hn hk'.out htk, hset]; rfl
          | some l =>
            rintro e w3 ⟨u3, v, rfl, r3', bl, how, hbl⟩
            have hvar := ((u1.trans u2).inner u3).var h.lt
            have hvc := cell_of_one hvar
            have hvf := free_of_one hvar
            have hz0 : w.heap.size + 1 ≤ w2.heap.size := by have := (u1.trans u2).size; simpa using this
            have hbl' := hbl.inner (w := w2) (Nat.le_refl _)
            have hbn : w.heap.size ∉ bl := fun e => by have := (hbl'.2 _ e).1; omega
            have hblt := h.lt
            obtain ⟨ad, cap, rfl⟩ := how.slice
            have hset2 := cell_of_one (one_setCell hvar (u := .slice ad l.length cap))
            go_wp2
            (try simp only [Exit.inBlock, Exit.then])
            refine bodyPost_ret (v := .agg #[.slice ad l.length cap]) (by simp [results, Tryz.results320, go_sem, hset2]) rfl ?_
            refine Ends.ok (x := l) (r := r2) ?_ (((u1.trans u2).inner u3).from.setCell (Or.inr (Nat.le_refl _)) _) rfl ((r2'.inner u3).other (by simp; omega) _) ⟨bl, IV.of (how.other hbn _), (hbl'.from (by omega)).more (by simp)⟩
            rw [hspec.out, lg_whole hn hk'.out htk, hset]; rfl
  · have hd : ((t : Int) == 4294893568) = false := by simp; omega
    have hspec := hid (show itP (elP m n) t s = none by unfold itP; exact if_neg ht0)
    clear ht0
    go_enter Tryz.func320, Tryz.ntmps320
    go_wp2_with fail
    go_at_call 267
    refine (need_no _).mono ?_
    rintro e w0 ⟨rfl, rfl⟩
    go_wp2
    exact ⟨rfl, Ends.bad hspec.out ((UpB.refl _ _).alloc _) rfl⟩
end Go.Proofs.YtaokifbpakbgdaaGreatDoor

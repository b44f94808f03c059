/-
  Package dataset's reader: a sequence, an element, at every depth.
-/
import Derived.Test.YtaokifbpakbgdaaGreatDoorRec3
namespace Go.Proofs.YtaokifbpakbgdaaGreatDoor
open Go.RowKit

theorem sequence_any (m : Nat) (H : ElC m) (n : Nat) (w : World) (b : Nat) (s : By) (h : Rdr w b s) (hs : s.length ≤ 16384) (hm : s.length < m + 8) :
    Calls Tryz.prog 271 #[ptr b] w (Ends b w (lg 4294893789 (itP (elP m n)) s) fun w' v l => ∃ bl, OwI w' n v l bl ∧ New w w' bl) := by
  have HI : ItC m n := item_any m H n
  go_enter Tryz.func271, Tryz.ntmps271
  go_wp2_with fail
  go_at_call 273
  refine (number_any w b s 4 h hs (by decide)).mono ?_
  cases hn : nu 4 s with
  | none =>
    rintro e w1 ⟨u1, rfl⟩
    go_wp2
    exact ⟨rfl, Ends.bad (lg_no hn) u1 rfl⟩
  | some p =>
    obtain ⟨k, r⟩ := p
    have hl := nu_len hn
    have h256 : (256 : Nat) ^ 4 = 4294967296 := rfl
    rintro e w1 ⟨u1, v, rfl, r1, rfl⟩
    by_cases hk : k = 4294967295
    · have hd1 : ((k : Int) == 4294967295) = true := by simp; omega
      have hk' := hid hk
      clear hk
      go_wp2_with fail
      go_at_call 303
      refine (itemsToMark_any m n HI w1 b r r1 (by omega) (by omega)).mono ?_
      cases hset : toMark 4294893789 (itP (elP m n)) r.length r with
      | none =>
        rintro e w2 ⟨u2, rfl⟩
        go_wp2
        exact ⟨rfl, Ends.bad (by rw [lg_mark hn hk'.out, hset]) (u1.trans u2) rfl⟩
      | some q =>
        obtain ⟨l, r2⟩ := q
        rintro e w2 ⟨u2, v, rfl, r2', bl, how, hbl⟩
        go_wp2
        go_ret
        exact Ends.ok (x := l) (r := r2) (by rw [lg_mark hn hk'.out, hset]) (u1.trans u2) rfl r2' ⟨bl, how, hbl.from u1.size⟩
    · have hd1 : ((k : Int) == 4294967295) = false := by simp; omega
      have hk' := hid hk
      clear hk
      go_wp2_with fail
      go_at_call 269
      refine (take_any w1 b r k r1 (by omega) (by omega)).mono ?_
      cases htk : tk k r with
      | none =>
        rintro e w2 ⟨u2, rfl⟩
        go_wp2
        exact ⟨rfl, Ends.bad (lg_short hn hk'.out htk) (u1.trans u2) rfl⟩
      | some q =>
        obtain ⟨a, r2⟩ := q
        have hla := tk_len htk
        rintro e w2 ⟨u2, v, rfl, r2', rfl⟩
        go_wp2_with fail
        go_at_call 304
        refine (items_any m n HI _ w2.heap.size a (Rdr.new w2 a) (by omega) (by omega)).mono ?_
        cases hset : toEnd (itP (elP m n)) a.length a with
        | none =>
          rintro e w3 ⟨u3, rfl⟩
          go_wp2
          exact ⟨rfl, Ends.bad (by rw [lg_whole hn hk'.out htk, hset]; rfl) ((u1.trans u2).inner u3) rfl⟩
        | some l =>
          rintro e w3 ⟨u3, v, rfl, r3', bl, how, hbl⟩
          go_wp2
          go_ret
          exact Ends.ok (x := l) (r := r2) (by rw [lg_whole hn hk'.out htk, hset]; rfl) ((u1.trans u2).inner u3) rfl (r2'.inner u3) ⟨bl, how, hbl.inner (u1.trans u2).size⟩
theorem OwI.slice {w : World} {n : Nat} {v : Value} {l : Its n} {bl : List Nat} (h : OwI w n v l bl) : ∃ ad cap, v = .slice ad l.length cap := by
  obtain ⟨xs, cs, ⟨_, h1⟩, _⟩ := h
  rcases h1 with ⟨rfl, h1⟩ | ⟨g, cap, cur, rfl, _⟩
  · exact ⟨_, _, by rw [h1]⟩
  · exact ⟨_, _, rfl⟩
/-- A variable of four cells. -/
def Four (w : World) (b : Nat) (c0 c1 c2 c3 : Value) : Prop := w.heap[b]? = some (.cells #[c0, c1, c2, c3] 73 (0, 0))
theorem Four.cells {w : World} {b : Nat} {c0 c1 c2 c3 : Value} (h : Four w b c0 c1 c2 c3) :
    (w.cell? ⟨b, 0, none⟩ = some c0 ∧ w.cell? ⟨b, 1, none⟩ = some c1 ∧ w.cell? ⟨b, 2, none⟩ = some c2 ∧ w.cell? ⟨b, 3, none⟩ = some c3) ∧
    (w.frozen? ⟨b, 0, none⟩ = false ∧ w.frozen? ⟨b, 1, none⟩ = false ∧ w.frozen? ⟨b, 2, none⟩ = false ∧ w.frozen? ⟨b, 3, none⟩ = false) := by
  unfold Four at h
  simp [World.cell?, World.frozen?, h]
theorem Four.new (w : World) (c0 c1 c2 c3 : Value) : Four (w.alloc (.cells #[c0, c1, c2, c3] 73)) w.heap.size c0 c1 c2 c3 := heap_alloc_new _ _
theorem Four.keep {w w' : World} {b : Nat} {c0 c1 c2 c3 : Value} (h : Four w b c0 c1 c2 c3) (k : w'.heap[b]? = w.heap[b]?) : Four w' b c0 c1 c2 c3 := k.trans h
theorem Four.lt {w : World} {b : Nat} {c0 c1 c2 c3 : Value} (h : Four w b c0 c1 c2 c3) : b < w.heap.size := lt_of_block h
/-- The world behind 'x.Items = ..; return x'. -/
def after (w : World) (X i R : Nat) (u c0 c1 c2 c3 : Value) : World := ((((w.setCell ⟨X, i, none⟩ u).setCell ⟨R, 0, none⟩ c0).setCell ⟨R, 1, none⟩ c1).setCell ⟨R, 2, none⟩ c2).setCell ⟨R, 3, none⟩ c3
theorem after_keep (w : World) (X i R : Nat) (u c0 c1 c2 c3 : Value) (j : Nat) (h1 : j ≠ X) (h2 : j ≠ R) : (after w X i R u c0 c1 c2 c3).heap[j]? = w.heap[j]? := by
  unfold after
  rw [Below.heap_setCell _ _ _ _ h2, Below.heap_setCell _ _ _ _ h2, Below.heap_setCell _ _ _ _ h2, Below.heap_setCell _ _ _ _ h2, Below.heap_setCell _ _ _ _ h1]
theorem after_size (w : World) (X i R : Nat) (u c0 c1 c2 c3 : Value) : (after w X i R u c0 c1 c2 c3).heap.size = w.heap.size := by
  unfold after
  simp
theorem after_up {b : Nat} {w0 w : World} (h : UpB b w0 w) (X i R : Nat) (u c0 c1 c2 c3 : Value) (h1 : w0.heap.size ≤ X) (h2 : w0.heap.size ≤ R) : UpB b w0 (after w X i R u c0 c1 c2 c3) := by
  unfold after
  exact ((((h.setCell (Or.inr h1) _).setCell (Or.inr h2) _).setCell (Or.inr h2) _).setCell (Or.inr h2) _).setCell (Or.inr h2) _
theorem element_any (m : Nat) (H : ElC m) : ElC (m + 1) := by
  intro n w b s t h hs hm ht
  by_cases hres : t / 65536 = 65534
  · go_enter Tryz.func227, Tryz.ntmps227
    go_wp2_with fail
    go_at_call 241
    refine (reserved_any _ t ht).mono ?_
    rintro e w0 ⟨rfl, rfl⟩
    rw [decide_eq_true hres]
    go_wp2_with fail
    go_at_call 267
    refine (need_no _).mono ?_
    rintro e w0 ⟨rfl, rfl⟩
    go_wp2
    exact ⟨rfl, Ends.bad (by rw [elP, if_pos hres]) ((UpB.refl _ _).alloc _) rfl⟩
  · go_enter Tryz.func227, Tryz.ntmps227
    go_wp2_with fail
    go_at_call 241
    refine (reserved_any _ t ht).mono ?_
    rintro e w0 ⟨rfl, rfl⟩
    rw [decide_eq_false hres]
    go_wp2_with fail
    go_at_call 267
    refine (need_yes _).mono ?_
    rintro e w0 ⟨rfl, rfl⟩
    have r0 := h.below (Below.alloc (Below.refl _ _) (Nat.le_refl _) (.cells #[.int .i64 0, .string ⟨#[]⟩, .string ⟨#[]⟩, .slice none 0 0] 73))
    go_wp2_with fail
    go_at_call 269
    refine (take_any _ b s 2 r0 hs (by decide)).mono ?_
    cases htk : tk 2 s with
    | none =>
      rintro e w1 ⟨u1, rfl⟩
      go_wp2
      exact ⟨rfl, Ends.bad (by rw [elP, if_neg hres, htk]) u1.from rfl⟩
    | some p =>
      obtain ⟨k, r⟩ := p
      have hl := tk_len htk
      have hres' := hid hres
      clear hres
      rintro e w1 ⟨u1, v, rfl, r1, rfl⟩
      go_wp2_with fail
      go_at_call 268
      refine (clone_any w1 k (by omega)).mono ?_
      rintro e w2 ⟨rfl, u2⟩
      have hkl := bs_toList k
      have hbw : b < w.heap.size := h.lt
      have u02 : UpB b (w.alloc (.cells #[.int .i64 0, .string ⟨#[]⟩, .string ⟨#[]⟩, .slice none 0 0] 73)) w2 := u1.trans (UpB.of_below u2)
      have hR2 : Four w2 w.heap.size (.int .i64 0) (.string ⟨#[]⟩) (.string ⟨#[]⟩) (.slice none 0 0) := (Four.new w _ _ _ _).keep (u02.block (Four.new w _ _ _ _).lt (by omega))
      have hRX : w.heap.size < w2.heap.size := hR2.lt
      have r2 := (r1.below u2).below (Below.alloc (Below.refl _ _) (Nat.le_refl _) (.cells #[.int .i64 t, .string (bs k), .string ⟨#[]⟩, .slice none 0 0] 73))
      have hX3 := Four.new w2 (.int .i64 t) (.string (bs k)) (.string ⟨#[]⟩) (.slice none 0 0)
      have hR3 : Four (w2.alloc (.cells #[.int .i64 t, .string (bs k), .string ⟨#[]⟩, .slice none 0 0] 73)) w.heap.size (.int .i64 0) (.string ⟨#[]⟩) (.string ⟨#[]⟩) (.slice none 0 0) := hR2.keep (Below.heap_alloc w2 _ _ hRX)
      have u03 := hid (u02.alloc (.cells #[.int .i64 t, .string (bs k), .string ⟨#[]⟩, .slice none 0 0] 73))
      by_cases hq : (k == [83, 81]) = true
      · go_wp2_with fail
        go_at_call 270
        refine (zero_any _ b r 2 r2 (by omega) (by decide)).mono ?_
        generalize w2.alloc (.cells #[.int .i64 t, .string (bs k), .string ⟨#[]⟩, .slice none 0 0] 73) = w3 at hX3 hR3 u03 r2 ⊢
        cases hze : ze 2 r with
        | none =>
          rintro e w4 ⟨u4, rfl⟩
          go_wp2
          refine ⟨rfl, Ends.bad ?_ (u03.out.trans u4).from rfl⟩
          rw [elP, if_neg hres'.out, htk]
          simp only []
          rw [if_pos (by simpa using hq), hze]
        | some r4 =>
          have hl4 := ze_len hze
          rintro e w4 ⟨u4, v, rfl, r4', rfl⟩
          go_wp2_with fail
          go_at_call 271
          refine (sequence_any m H (n - 1) w4 b r4 r4' (by omega) (by omega)).mono ?_
          cases hsq : lg 4294893789 (itP (elP m (n - 1))) r4 with
          | none =>
            rintro e w5 ⟨u5, rfl⟩
            go_wp2
            refine ⟨rfl, Ends.bad ?_ ((u03.out.trans u4).trans u5).from rfl⟩
            rw [elP, if_neg hres'.out, htk]
            simp only []
            rw [if_pos (by simpa using hq), hze]
            simp only []
            rw [hsq]
          | some q =>
            obtain ⟨its, r5⟩ := q
            rintro e w5 ⟨u5, iv, rfl, r5', bl, how, hbl⟩
            have u35 := u4.trans u5
            have hX5 := (hX3.keep (u35.block hX3.lt (by omega))).cells
            have hR5 := (hR3.keep (u35.block hR3.lt (by omega))).cells
            obtain ⟨⟨x0, x1, x2, x3⟩, y0, y1, y2, y3⟩ := hX5
            obtain ⟨⟨q0, q1, q2, q3⟩, z0, z1, z2, z3⟩ := hR5
            have hne : ¬ w2.heap.size = w.heap.size := by omega
            have hne' : ¬ w.heap.size = w2.heap.size := by omega
            obtain ⟨ad, cap, rfl⟩ := how.slice
            have hz4 := u4.size
            have hz5 := u5.size
            have hXl := hX3.lt
            go_wp2
            (try simp only [Exit.inBlock, Exit.then])
            refine bodyPost_ret (v := .agg #[.int .i64 t, .string (bs k), .string ⟨#[]⟩, .slice ad its.length cap]) (by simp [results, Tryz.results227, go_sem, q0, q1, q2, q3]) rfl ?_
            change Ends b w (elP (m + 1) n t s) _ _ (after w5 w2.heap.size 3 w.heap.size (.slice ad its.length cap) (.int .i64 t) (.string (bs k)) (.string ⟨#[]⟩) (.slice ad its.length cap))
            have how' := how.keep (w' := after w5 w2.heap.size 3 w.heap.size (.slice ad its.length cap) (.int .i64 t) (.string (bs k)) (.string ⟨#[]⟩) (.slice ad its.length cap)) (fun j hj => after_keep _ _ _ _ _ _ _ _ _ j (by have := (hbl.2 j hj).1; omega) (by have := (hbl.2 j hj).1; omega))
            obtain ⟨bl', hb1, hb2, hce⟩ := CE.mk (t := t) (k := k) (v := []) how'
            refine Ends.ok (x := mkE n t k [] its) (r := r5) ?_ (after_up (u03.out.trans u35).from _ _ _ _ _ _ _ _ (by omega) (Nat.le_refl _)) rfl ?_ ⟨bl', ⟨_, _, _, _, _, _, rfl, hce⟩, ?_⟩
            · rw [elP, if_neg hres'.out, htk]
              simp only []
              rw [if_pos (by simpa using hq), hze]
              simp only []
              rw [hsq]
            · rw [Rdr, after_keep _ _ _ _ _ _ _ _ _ b (by omega) (by omega)]; exact r5'
            · exact ⟨hb2 hbl.1, fun j hj => by have := hbl.2 j (hb1 j hj); rw [after_size]; omega⟩
      · go_wp2_with fail
        go_at_call 272
        refine (value_any _ b k r r2 (by omega)).mono ?_
        generalize w2.alloc (.cells #[.int .i64 t, .string (bs k), .string ⟨#[]⟩, .slice none 0 0] 73) = w3 at hX3 hR3 u03 r2 ⊢
        cases hva : va k r with
        | none =>
          rintro e w4 ⟨u4, rfl⟩
          go_wp2
          refine ⟨rfl, Ends.bad ?_ (u03.out.trans u4).from rfl⟩
          rw [elP, if_neg hres'.out, htk]
          simp only []
          rw [if_neg (by simpa using hq), hva]
        | some q =>
          obtain ⟨v5, r5⟩ := q
          rintro e w5 ⟨u35, v, rfl, r5', rfl⟩
          have hX5 := (hX3.keep (u35.block hX3.lt (by omega))).cells
          have hR5 := (hR3.keep (u35.block hR3.lt (by omega))).cells
          obtain ⟨⟨x0, x1, x2, x3⟩, y0, y1, y2, y3⟩ := hX5
          obtain ⟨⟨q0, q1, q2, q3⟩, z0, z1, z2, z3⟩ := hR5
          have hne : ¬ w2.heap.size = w.heap.size := by omega
          have hne' : ¬ w.heap.size = w2.heap.size := by omega
          have hz5 := u35.size
          have hXl := hX3.lt
          go_wp2
          (try simp only [Exit.inBlock, Exit.then])
          refine bodyPost_ret (v := .agg #[.int .i64 t, .string (bs k), .string (bs v5), .slice none 0 0]) (by simp [results, Tryz.results227, go_sem, q0, q1, q2, q3]) rfl ?_
          change Ends b w (elP (m + 1) n t s) _ _ (after w5 w2.heap.size 2 w.heap.size (.string (bs v5)) (.int .i64 t) (.string (bs k)) (.string (bs v5)) (.slice none 0 0))
          obtain ⟨bl', hb1, hb2, hce⟩ := CE.mk (t := t) (k := k) (v := v5) (OwI.nil (after w5 w2.heap.size 2 w.heap.size (.string (bs v5)) (.int .i64 t) (.string (bs k)) (.string (bs v5)) (.slice none 0 0)) (n - 1))
          refine Ends.ok (x := mkE n t k v5 []) (r := r5) ?_ (after_up (u03.out.trans u35).from _ _ _ _ _ _ _ _ (by omega) (Nat.le_refl _)) rfl ?_ ⟨bl', ⟨_, _, _, _, _, _, rfl, hce⟩, hb2 List.nodup_nil, fun j hj => nomatch hb1 j hj⟩
          · rw [elP, if_neg hres'.out, htk]
            simp only []
            rw [if_neg (by simpa using hq), hva]
          · rw [Rdr, after_keep _ _ _ _ _ _ _ _ _ b (by omega) (by omega)]; exact r5'
theorem element_all : ∀ m, ElC m
  | 0 => fun _ _ _ _ _ _ _ h => absurd h (Nat.not_lt_zero _)
  | m + 1 => element_any m (element_all m)
end Go.Proofs.YtaokifbpakbgdaaGreatDoor

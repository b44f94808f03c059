/-
  Package dataset's writer: a data set that is right, as bytes.
-/
import Derived.Test.YtaokifbpakbgdaaGreatDoorChk2
import Derived.Test.YtaokifbpakbgdaaGreatDoorRound
import Derived.Lib.AppendStr
import Derived.Laws.AppendOwnNone
namespace Go.Proofs.YtaokifbpakbgdaaGreatDoor
open Go.RowKit

/-- Bytes as cells. -/
def cs8 (l : By) : List Value := l.map fun c => Value.int .u8 c.toNat
theorem cs8_append (a b : By) : cs8 (a ++ b) = cs8 a ++ cs8 b := List.map_append
theorem cs8_length (a : By) : (cs8 a).length = a.length := List.length_map _
theorem cs8_one (l : By) : ∀ u ∈ cs8 l, u.oneCell' = true := by
  intro u hu
  obtain ⟨c, _, rfl⟩ := List.mem_map.1 hu
  rfl
/-- The slice v is a row of one's own, and holds these bytes. -/
def B8 (w : World) (v : Value) (l : By) : Prop := w.ownsRow 0 5 1 v l.length (cs8 l)
theorem B8.nil (w : World) : B8 w (.slice none 0 0) [] := World.ownsRow_nil _ _ _ _
theorem B8.keep {w w' : World} {v : Value} {l : By} (h : B8 w v l) (k : ∀ j ∈ v.ownBlock.toList, w'.heap[j]? = w.heap[j]?) : B8 w' v l := ownsRow_keep h k
theorem B8.below {w w' : World} {v : Value} {l : By} (h : B8 w v l) (k : Below w.heap.size w w') : B8 w' v l := h.keep (fun j hj => k.block j (ownsRow_lt h j hj))
/-- From v to v': only its own row is written, and it stays there or is a new one. -/
def Gr (w : World) (v : Value) (w' : World) (v' : Value) : Prop := w.grownBy w' v.ownBlock ∧ Moved w v v'
theorem Gr.trans {w w1 w2 : World} {v v1 v2 : Value} (h : Gr w v w1 v1) (k : Gr w1 v1 w2 v2) : Gr w v w2 v2 := by
  obtain ⟨g1, m1⟩ := h
  obtain ⟨g2, m2⟩ := k
  refine ⟨⟨g2.os.trans g1.os, g2.tape.trans g1.tape, g2.output.trans g1.output, Nat.le_trans g1.size g2.size, fun j hj hne => ?_⟩, ?_⟩
  · rw [g2.block j (Nat.lt_of_lt_of_le hj g1.size) (fun e => ?_)]
    · exact g1.block j hj hne
    · rcases m1 with m | m
      · exact hne (e.trans m)
      · have := m j (by rw [← e]; simp)
        omega
  · rcases m2 with m | m
    · rcases m1 with m' | m'
      · exact Or.inl (m.trans m')
      · exact Or.inr (by rw [m]; exact m')
    · exact Or.inr (fun g hg => Nat.le_trans g1.size (m g hg))
theorem Gr.below {w w' : World} {v' : Value} (h : Gr w (.slice none 0 0) w' v') : Below w.heap.size w w' := ⟨h.1.os, h.1.tape, h.1.output, h.1.size, fun j hj => h.1.block j hj (by simp [Value.ownBlock])⟩
theorem Gr.of_below {w w' : World} (v : Value) (h : Below w.heap.size w w') : Gr w v w' v := ⟨⟨h.os, h.tape, h.output, h.size, fun j hj _ => h.block j hj⟩, Or.inl rfl⟩
/-- How a writer ends: it returns these bytes. -/
def W8 (w : World) (v : Value) (l : By) (e : Ending) (w' : World) : Prop := ∃ v', e = .returned v' ∧ B8 w' v' l ∧ Gr w v w' v'
/-- 'append(b, s...)', s a string. -/
theorem wpList_append_str {P : Program} (w : World) {ops : Array Oper} {rest : List Oper} {o : Oper} {a : Act} {Q : Exit → Act → World → Prop} (hgd : o.guard = none) (sl x : Operand) (t u : TypeId)
    (ho : o.op = .call { callee := .builtin .append, args := #[sl, x], argTypes := #[t, u] })
    (e : TypeId) (i : TypeInfo) (ht : P.underlying t = some (.slice e)) (hu : P.underlying u = some .string) (hi : P.info? e = some i) (hz : i.zero = some (.int .u8 0)) (hsize : i.size = 1) (hby : i.bytes = 1)
    (v : Value) (n : Nat) (xs : List Value) (hs : a.eval sl = v) (hown : w.ownsRow 0 e 1 v n xs) (s : ByteArray) (hx : a.eval x = .string s) (h63 : n + s.size ≤ maxLen) (hbytes : n + s.size ≤ 140737488355328)
    (h : ∀ v' w', w'.ownsRow 0 e 1 v' (n + s.size) (xs ++ Lib.strCells s) → w.grownBy w' v.ownBlock → Moved w v v' → wpList P ops Q rest (a.put o.dst v') w') : wpList P ops Q (o :: rest) a w := by
  refine wpList_plain hgd fun K hK => ?_
  have key : ∃ v' w', (Builtin.append_ #[t, u] o.type #[v, .string s]).run P w = .ok v' w' ∧ w'.ownsRow 0 e 1 v' (n + s.size) (xs ++ Lib.strCells s) ∧ w.grownBy w' v.ownBlock ∧ Moved w v v' := by
    have weak : ∀ {w' : World} {v' : Value} {k : Nat} {ys : List Value}, w'.ownsRow w.heap.size e 1 v' k ys → w'.ownsRow 0 e 1 v' k ys ∧ ∀ g ∈ v'.ownBlock.toList, w.heap.size ≤ g := by
      rintro w' v' k ys ⟨q1, q2⟩
      rcases q2 with ⟨rfl, q2⟩ | ⟨g, cap, cur, rfl, q2, q3⟩
      · exact ⟨⟨q1, Or.inl ⟨rfl, q2⟩⟩, fun g hg => by cases hg⟩
      · exact ⟨⟨q1, Or.inr ⟨g, cap, cur, rfl, Nat.zero_le _, q3⟩⟩, fun j hj => by simp [Value.ownBlock] at hj; omega⟩
    obtain ⟨k1, k2⟩ := id hown
    rcases k2 with ⟨rfl, rfl⟩ | ⟨g, cap, cur, rfl, _, hg, hnc, hcm, hcs, htake⟩
    · have : xs = [] := List.eq_nil_of_length_eq_zero (by simpa using k1)
      subst this
      obtain ⟨v', w', r1, r2, r3, _⟩ := Lib.run_append_own_string (P := P) w w.heap.size t u o.type e i ht hu hi hz hsize hby _ 0 [] (World.ownsRow_nil _ _ _ _) s h63 hbytes (Nat.le_refl _)
      exact ⟨v', w', r1, (weak r2).1, r3, Or.inr (weak r2).2⟩
    · obtain ⟨v', w', r1, r2, r3, _⟩ := Lib.run_append_own_string (P := P) w 0 t u o.type e i ht hu hi hz hsize hby _ n xs hown s h63 hbytes (Nat.zero_le _)
      refine ⟨v', w', r1, r2, r3, ?_⟩
      have hxl : xs.length = n := by simpa using k1
      have hsmall : n + s.size ≤ 9223372036854775807 := by simp only [maxLen] at h63; omega
      by_cases hroom : n + s.size ≤ cap
      · have hr := Lib.run_append_room_string (P := P) w t u o.type e i ht hu hi hsize g n cap cur hg s hroom (by omega)
        rw [r1] at hr
        simp only [Result.ok.injEq] at hr
        rw [hr.1]
        exact Or.inl rfl
      · have holds : ∀ j u, xs[j]? = some u → w.cell? ((⟨g, 0, none⟩ : Addr).add j) = some u := hown.cells (g := g) rfl
        have hr := Lib.run_append_grow_string (P := P) w t u o.type e i (.int .u8 0) ht hu hi hz ⟨g, 0, none⟩ n cap xs (by rw [hsize]; simpa using hxl) holds s (by omega) (by omega) (by rw [hby]; exact growslice_fits (by omega) (by omega))
        rw [r1] at hr
        simp only [Result.ok.injEq] at hr
        rw [hr.1]
        exact Or.inr (fun g hg => by simp [Value.ownBlock] at hg; omega)
  obtain ⟨v', w', hr, h2, h3, h4⟩ := key
  unfold Oper.wp execOp
  simp only [ho, resolve, invoke, builtin, Sem.run_bind, Sem.run_pure, Result.andThen_ok, List.map_toArray, List.map_cons, List.map_nil, hs, hx, hr]
  exact hK _ _ (h v' w' h2 h3 h4)
theorem info_8 : (Tryz.prog.info? 5).map (fun i => (i.zero, i.size, i.bytes)) = some (some (.int .u8 0), 1, 1) := by kernel_rfl
theorem ofNat_toNat (n : Nat) : ((UInt8.ofNat (n % 256)).toNat : Int) = ((n : Nat) : Int) % 256 := by
  rw [UInt8.toNat_ofNat']; omega
theorem two_cells (w : World) (T : TypeId) (n : Nat) : ∀ j u, (cs8 (lows 2 n))[j]? = some u → (w.alloc (.cells #[.int .u8 ((n : Int) % 256), .int .u8 ((n : Int) / 256 % 256)] T)).cell? ((⟨w.heap.size, 0, none⟩ : Addr).add j) = some u := by
  have e : cs8 (lows 2 n) = [.int .u8 ((n : Int) % 256), .int .u8 ((n : Int) / 256 % 256)] := by
    simp only [cs8, lows, List.map_cons, List.map_nil, ofNat_toNat]
    rfl
  rw [e]
  intro j u hj
  rw [Addr.add_lit]
  match j, hj with
  | 0, hj | 1, hj => simp at hj; subst hj; simp
  | j + 2, hj => simp at hj
theorem W8.mk {w w0 w' : World} {v v' : Value} {b c : By} (h0 : Below w.heap.size w w0) (hown : w'.ownsRow 0 5 1 v' (b.length + c.length) (cs8 b ++ cs8 c)) (hg : w0.grownBy w' v.ownBlock) (hm : Moved w0 v v') : W8 w v (b ++ c) (.returned v') w' :=
  ⟨v', rfl, by rw [B8, List.length_append, cs8_append]; exact hown, (Gr.of_below v h0).trans ⟨hg, hm⟩⟩
theorem W8.then {w w1 : World} {v v1 : Value} {l : By} {e : Ending} {w2 : World} (g : Gr w v w1 v1) (h : W8 w1 v1 l e w2) : W8 w v l e w2 := by
  obtain ⟨v', he, h1, h2⟩ := h
  exact ⟨v', he, h1, g.trans h2⟩
theorem appendTwo_any (w : World) (v : Value) (b : By) (n : Nat) (hb : B8 w v b) (hl : b.length ≤ 1099511627776) (_hn : n ≤ 1099511627776) :
    Calls Tryz.prog 119 #[v, .int .i64 n] w (W8 w v (b ++ lows 2 n)) := by
  obtain ⟨i0, hi, hz0, hz1, hz2⟩ := info_parts info_8
  have HI := hid hi
  have hb' := hid hb
  clear hi hb
  go_enter Tryz.func119, Tryz.ntmps119
  go_wp2_with (at_builtin; refine wpList_append_sep _ rfl _ _ 49 rfl 5 i0 (.int .u8 0) 1 1 Tryz.underlying49 HI.out hz0 hz1 hz2 rfl (by decide) _ _ _ rfl (hb'.out.alloc _) ⟨w.heap.size, 0, none⟩ 2 2 (cs8 (lows 2 n)) rfl rfl (two_cells _ _ _) (cs8_one _) (by unfold maxLen; omega) (by omega) ?_)
  intro v' w' hown hg hm
  have R := hid (W8.mk (c := lows 2 n) (Below.alloc (Below.refl _ _) (Nat.le_refl _) _) hown hg hm)
  clear hown hg hm
  go_wp2
  go_ret
  exact R.out
theorem lows2_mod (n : Nat) : lows 2 (n % 65536) = lows 2 n := by
  simp only [lows]
  rw [show n % 65536 % 256 = n % 256 by omega, show n % 65536 / 256 % 256 = n / 256 % 256 by omega]
theorem lows4 (n : Nat) : lows 2 n ++ lows 2 (n / 65536) = lows 4 n := by
  simp only [lows, List.cons_append, List.nil_append]
  rw [show n / 65536 % 256 = n / 256 / 256 % 256 by omega, show n / 65536 / 256 % 256 = n / 256 / 256 / 256 % 256 by omega]
theorem appendTag_any (w : World) (v : Value) (b : By) (t : Nat) (hb : B8 w v b) (hl : b.length ≤ 549755813888) (ht : t < 4294967296) :
    Calls Tryz.prog 118 #[v, .int .i64 t] w (W8 w v (b ++ wrT t)) := by
  have e : wrT (t : Int) = lows 2 (t / 65536) ++ lows 2 t := by
    unfold wrT
    rw [show ((t : Int) / 65536).toNat = t / 65536 by omega, show ((t : Int) % 65536).toNat = t % 65536 by omega, lows2_mod]
  rw [e, ← List.append_assoc]
  go_enter Tryz.func118, Tryz.ntmps118
  go_wp2_with fail
  go_at_call 119
  refine (appendTwo_any w v b (t / 65536) hb (by omega) (by omega)).mono ?_
  rintro e w1 ⟨v1, rfl, h1, u1⟩
  go_wp2_with fail
  go_at_call 119
  refine (appendTwo_any w1 v1 _ t h1 (by simp [lows_length]; omega) (by omega)).mono ?_
  rintro e w2 ⟨v2, rfl, h2, u2⟩
  go_wp2
  go_ret
  exact ⟨v2, rfl, h2, u1.trans u2⟩
theorem B8.cells {w : World} {g n cap : Nat} {l : By} (h : B8 w (.slice (some ⟨g, 0, none⟩) n cap) l) : n = l.length ∧ ∀ j u, (cs8 l)[j]? = some u → w.cell? ((⟨g, 0, none⟩ : Addr).add j) = some u := by
  have hn : n = l.length := by
    rcases h.2 with ⟨e, _⟩ | ⟨g', cap', cur, e, _⟩
    · cases e
    · simp only [Value.slice.injEq] at e; exact e.2.1
  subst hn
  refine ⟨rfl, fun j u hj => ?_⟩
  have hlt := (List.getElem?_eq_some_iff.1 hj).1
  rw [cs8_length] at hlt
  rw [Addr.add_lit, Nat.zero_add, World.ownsRow.cellAt h _ (by omega)]
  exact hj
theorem B8.shape {w : World} {v : Value} {l : By} (h : B8 w v l) : (v = .slice none 0 0 ∧ l = []) ∨ ∃ g cap, v = .slice (some ⟨g, 0, none⟩) l.length cap := by
  rcases h.2 with ⟨e, e2⟩ | ⟨g', cap', cur, e, _⟩
  · exact Or.inl ⟨e, List.eq_nil_of_length_eq_zero e2⟩
  · exact Or.inr ⟨g', cap', e⟩
theorem appendLong_any (w : World) (v v2 : Value) (b c : By) (hb : B8 w v b) (hc : B8 w v2 c) (hsep : ∀ k, v2.ownBlock = some k → v.ownBlock ≠ some k) (hl : b.length ≤ 549755813888) (hl2 : c.length ≤ 274877906944) :
    Calls Tryz.prog 120 #[v, v2] w (W8 w v (b ++ (lows 4 c.length ++ c))) := by
  obtain ⟨i0, hi, hz0, hz1, hz2⟩ := info_parts info_8
  have HI := hid hi
  have HC := hid hc
  clear hi
  obtain ⟨ad, cap, hv2⟩ : ∃ ad cap, v2 = .slice ad c.length cap := by
    rcases hc.shape with ⟨e, e2⟩ | ⟨g, cap, e⟩
    · exact ⟨none, 0, by rw [e, e2]; rfl⟩
    · exact ⟨_, _, e⟩
  have hsep' := hid hsep
  clear hc hsep
  subst hv2
  go_enter Tryz.func120, Tryz.ntmps120
  go_wp2_with fail
  go_at_call 119
  refine (appendTwo_any w v b c.length hb (by omega) (by omega)).mono ?_
  rintro e w1 ⟨v1, rfl, h1, u1⟩
  go_wp2_with fail
  go_at_call 119
  refine (appendTwo_any w1 v1 _ (c.length / 65536) h1 (by simp [lows_length]; omega) (by omega)).mono ?_
  rintro e w2 ⟨v2, rfl, h2, u2⟩
  have u12 := hid (u1.trans u2)
  have hc2 : Hid (B8 w2 (.slice ad c.length cap) c) := HC.out.keep (fun j hj => by
    have hj' : (Value.slice ad c.length cap).ownBlock = some j := by simpa using hj
    exact u12.out.1.block j (ownsRow_lt HC.out j hj) (fun e => hsep'.out j hj' e.symm))
  clear u1 u2 h1
  have h2' := hid h2
  clear h2
  have efin := hid (show b ++ lows 2 c.length ++ lows 2 (c.length / 65536) = b ++ lows 4 c.length by rw [List.append_assoc, lows4])
  have elen := hid (show (b ++ lows 2 c.length ++ lows 2 (c.length / 65536)).length = b.length + 4 by simp [lows_length])
  generalize b ++ lows 2 c.length ++ lows 2 (c.length / 65536) = b2 at h2' efin elen
  rcases hc2.out.shape with ⟨e, e2⟩ | ⟨g, cap', e⟩
  · simp only [Value.slice.injEq] at e
    obtain ⟨rfl, _, rfl⟩ := e
    subst e2
    go_wp2_with (at_builtin; refine wpList_append_own_none rfl _ _ 49 rfl 0 5 i0 1 Tryz.underlying49 HI.out _ _ _ rfl h2'.out rfl ?_)
    go_ret
    refine ⟨v2, rfl, ?_, u12.out⟩
    have := h2'.out
    rw [efin.out] at this
    rw [List.append_nil]
    exact this
  · simp only [Value.slice.injEq] at e
    obtain ⟨rfl, _, rfl⟩ := e
    go_wp2_with (at_builtin; refine wpList_append_sep _ rfl _ _ 49 rfl 5 i0 (.int .u8 0) 1 1 Tryz.underlying49 HI.out hz0 hz1 hz2 rfl (by decide) _ _ _ rfl h2'.out ⟨g, 0, none⟩ c.length cap (cs8 c) rfl (by rw [cs8_length, Nat.mul_one]) hc2.out.cells.2 (cs8_one _) (by unfold maxLen; rw [elen.out]; omega) (by rw [elen.out]; omega) ?_)
    intro v' w' hown hg hm
    have R := hid (W8.then u12.out (W8.mk (c := c) (Below.refl _ _) hown hg hm))
    clear hown hg hm
    go_wp2
    go_ret
    have := R.out
    rw [efin.out, List.append_assoc] at this
    exact this
theorem bs_append (a b : By) : bs a ++ bs b = bs (a ++ b) := by
  apply ByteArray.ext
  rw [ByteArray.data_append]
  apply Array.ext'
  simp [bs]
theorem strCells_bs (l : By) : Lib.strCells (bs l) = cs8 l := rfl
theorem appendValue_any (w : World) (v : Value) (b k u : By) (hb : B8 w v b) (hl : b.length ≤ 549755813888) (hu : u.length ≤ 64) :
    Calls Tryz.prog 122 #[v, .string (bs k), .string (bs u)] w (W8 w v (b ++ (lows 2 (wrV 0 k u).length ++ wrV 0 k u))) := by
  obtain ⟨i0, hi, hz0, hz1, hz2⟩ := info_parts info_8
  have HI := hid hi
  clear hi
  have hz := bs_size u
  by_cases hodd : u.length % 2 = 1
  · have d1 : ((u.length : Int) % 2 != 0) = true := by simp; omega
    have d2 : ((u.length : Int) % 2 == 0) = false := by simp; omega
    have e := hid (show wrV 0 k u = u ++ [padB k] by unfold wrV; rw [if_pos hodd]; simp)
    clear hodd
    have hz1' := bs_size [padB k]
    have happ := bs_append u [padB k]
    have hz3 : (bs (u ++ [padB k])).size = u.length + 1 := by rw [bs_size, List.length_append]; rfl
    go_enter Tryz.func122, Tryz.ntmps122
    go_wp2_with fail
    go_at_call 191
    refine (pad_any w k).mono ?_
    rintro e w1 ⟨rfl, rfl⟩
    go_wp2_with fail
    go_at_call 119
    refine (appendTwo_any w1 v b (u.length + 1) hb (by omega) (by omega)).mono ?_
    rintro e w2 ⟨v2, rfl, h2, u2⟩
    have h2' := hid h2
    have elen := hid (show (b ++ lows 2 (u.length + 1)).length = b.length + 2 by simp [lows_length])
    have efin := hid (show b ++ (lows 2 (wrV 0 k u).length ++ wrV 0 k u) = b ++ lows 2 (u.length + 1) ++ (u ++ [padB k]) by rw [‹Hid (wrV 0 k u = u ++ [padB k])›.out, List.length_append, List.append_assoc]; rfl)
    clear h2
    generalize b ++ lows 2 (u.length + 1) = b2 at h2' efin elen
    go_wp2_with (at_builtin; refine wpList_append_str _ rfl _ _ 49 9 rfl 5 i0 Tryz.underlying49 Tryz.underlying9 HI.out hz0 hz1 hz2 _ _ _ rfl h2'.out (bs (u ++ [padB k])) rfl (by unfold maxLen; rw [elen.out, hz3]; omega) (by rw [elen.out, hz3]; omega) ?_)
    intro v' w' hown hg hm
    have R := hid (W8.then u2 (W8.mk (b := b2) (c := u ++ [padB k]) (Below.refl _ _) (by rw [strCells_bs] at hown; rw [List.length_append]; exact hown) hg hm))
    clear hown hg hm
    go_wp2
    go_ret
    rw [efin.out]
    exact R.out
  · have d1 : ((u.length : Int) % 2 != 0) = false := by simp; omega
    have d2 : ((u.length : Int) % 2 == 0) = true := by simp; omega
    have e := hid (show wrV 0 k u = u by unfold wrV; rw [if_neg hodd]; simp)
    clear hodd
    go_enter Tryz.func122, Tryz.ntmps122
    go_wp2_with fail
    go_at_call 119
    refine (appendTwo_any w v b u.length hb (by omega) (by omega)).mono ?_
    rintro e w2 ⟨v2, rfl, h2, u2⟩
    have h2' := hid h2
    have elen := hid (show (b ++ lows 2 u.length).length = b.length + 2 by simp [lows_length])
    have efin := hid (show b ++ (lows 2 (wrV 0 k u).length ++ wrV 0 k u) = b ++ lows 2 u.length ++ u by rw [‹Hid (wrV 0 k u = u)›.out, List.append_assoc])
    clear h2
    generalize b ++ lows 2 u.length = b2 at h2' efin elen
    go_wp2_with (at_builtin; refine wpList_append_str _ rfl _ _ 49 9 rfl 5 i0 Tryz.underlying49 Tryz.underlying9 HI.out hz0 hz1 hz2 _ _ _ rfl h2'.out (bs u) rfl (by unfold maxLen; rw [elen.out, hz]; omega) (by rw [elen.out, hz]; omega) ?_)
    intro v' w' hown hg hm
    have R := hid (W8.then u2 (W8.mk (b := b2) (c := u) (Below.refl _ _) (by rw [strCells_bs] at hown; exact hown) hg hm))
    clear hown hg hm
    go_wp2
    go_ret
    rw [efin.out]
    exact R.out
end Go.Proofs.YtaokifbpakbgdaaGreatDoor

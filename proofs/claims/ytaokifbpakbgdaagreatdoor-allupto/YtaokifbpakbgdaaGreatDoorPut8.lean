/-
  Several texts in one; what each one has stands at its head.
-/
import Derived.Test.YtaokifbpakbgdaaGreatDoorPut7
import Derived.Lib.AppendStr
import Derived.Laws.AppendOwnNone
import Derived.Laws.BytesArg
/- Package dataset's writer: a data set that is right, as bytes. -/
namespace Go.Proofs.YtaokifbpakbgdaaGreatDoor
open Go.RowKit

/-- Bytes as cells. -/
def cs8 (l : By) : List Value := l.map fun c => Value.int .u8 c.toNat
theorem cs8_append (a b : By) : cs8 (a ++ b) = cs8 a ++ cs8 b := List.map_append
theorem cs8_length (a : By) : (cs8 a).length = a.length := List.length_map _
theorem cs8_one (l : By) : ∀ u ∈ cs8 l, u.oneCell' = true := by
  intro u hu
  obtain ⟨c, _, rfl⟩ := List.mem_map.1 hu
  rfl
/-- The slice v is a row of one's own, and holds these bytes. -/
def B8 (w : World) (v : Value) (l : By) : Prop := w.ownsRow 0 5 1 v l.length (cs8 l)
theorem B8.nil (w : World) : B8 w (.slice none 0 0) [] := World.ownsRow_nil _ _ _ _
theorem B8.keep {w w' : World} {v : Value} {l : By} (h : B8 w v l) (k : ∀ j ∈ v.ownBlock.toList, w'.heap[j]? = w.heap[j]?) : B8 w' v l := ownsRow_keep h k
theorem B8.below {w w' : World} {v : Value} {l : By} (h : B8 w v l) (k : Below w.heap.size w w') : B8 w' v l := h.keep (fun j hj => k.block j (ownsRow_lt h j hj))
/-- From v to v': only its own row is written, and it stays there or is a new one. -/
def Gr (w : World) (v : Value) (w' : World) (v' : Value) : Prop := w.grownBy w' v.ownBlock ∧ Moved w v v'
theorem Gr.trans {w w1 w2 : World} {v v1 v2 : Value} (h : Gr w v w1 v1) (k : Gr w1 v1 w2 v2) : Gr w v w2 v2 := by
  obtain ⟨g1, m1⟩ := h
  obtain ⟨g2, m2⟩ := k
  refine ⟨⟨g2.os.trans g1.os, g2.tape.trans g1.tape, g2.output.trans g1.output, Nat.le_trans g1.size g2.size, fun j hj hne => ?_⟩, ?_⟩
  · rw [g2.block j (Nat.lt_of_lt_of_le hj g1.size) (fun e => ?_)]
    · exact g1.block j hj hne
    · rcases m1 with m | m
      · exact hne (e.trans m)
      · have := m j (by rw [← e]; simp)
        omega
  · rcases m2 with m | m
    · rcases m1 with m' | m'
      · exact Or.inl (m.trans m')
      · exact Or.inr (by rw [m]; exact m')
    · exact Or.inr (fun g hg => Nat.le_trans g1.size (m g hg))
theorem Gr.below {w w' : World} {v' : Value} (h : Gr w (.slice none 0 0) w' v') : Below w.heap.size w w' := ⟨h.1.os, h.1.tape, h.1.output, h.1.size, fun j hj => h.1.block j hj (by simp [Value.ownBlock])⟩
theorem Gr.of_below {w w' : World} (v : Value) (h : Below w.heap.size w w') : Gr w v w' v := ⟨⟨h.os, h.tape, h.output, h.size, fun j hj _ => h.block j hj⟩, Or.inl rfl⟩
/-- How a writer ends: it returns these bytes. -/
def W8 (w : World) (v : Value) (l : By) (e : Ending) (w' : World) : Prop := ∃ v', e = .returned v' ∧ B8 w' v' l ∧ Gr w v w' v'
/-- 'append(b, s...)', s a string. -/
theorem wpList_append_str {P : Program} (w : World) {ops : Array Oper} {rest : List Oper} {o : Oper} {a : Act} {Q : Exit → Act → World → Prop} (hgd : o.guard = none) (sl x : Operand) (t u : TypeId)
    (ho : o.op = .call { callee := .builtin .append, args := #[sl, x], argTypes := #[t, u] })
    (e : TypeId) (i : TypeInfo) (ht : P.underlying t = some (.slice e)) (hu : P.underlying u = some .string) (hi : P.info? e = some i) (hz : i.zero = some (.int .u8 0)) (hsize : i.size = 1) (hby : i.bytes = 1)
    (v : Value) (n : Nat) (xs : List Value) (hs : a.eval sl = v) (hown : w.ownsRow 0 e 1 v n xs) (s : ByteArray) (hx : a.eval x = .string s) (h63 : n + s.size ≤ maxLen) (hbytes : n + s.size ≤ 140737488355328)
    (h : ∀ v' w', w'.ownsRow 0 e 1 v' (n + s.size) (xs ++ Lib.strCells s) → w.grownBy w' v.ownBlock → Moved w v v' → wpList P ops Q rest (a.put o.dst v') w') : wpList P ops Q (o :: rest) a w := by
  refine wpList_plain hgd fun K hK => ?_
  have key : ∃ v' w', (Builtin.append_ #[t, u] o.type #[v, .string s]).run P w = .ok v' w' ∧ w'.ownsRow 0 e 1 v' (n + s.size) (xs ++ Lib.strCells s) ∧ w.grownBy w' v.ownBlock ∧ Moved w v v' := by
    have weak : ∀ {w' : World} {v' : Value} {k : Nat} {ys : List Value}, w'.ownsRow w.heap.size e 1 v' k ys → w'.ownsRow 0 e 1 v' k ys ∧ ∀ g ∈ v'.ownBlock.toList, w.heap.size ≤ g := by
      rintro w' v' k ys ⟨q1, q2⟩
      rcases q2 with ⟨rfl, q2⟩ | ⟨g, cap, cur, rfl, q2, q3⟩
      · exact ⟨⟨q1, Or.inl ⟨rfl, q2⟩⟩, fun g hg => by cases hg⟩
      · exact ⟨⟨q1, Or.inr ⟨g, cap, cur, rfl, Nat.zero_le _, q3⟩⟩, fun j hj => by simp [Value.ownBlock] at hj; omega⟩
    obtain ⟨k1, k2⟩ := id hown
    rcases k2 with ⟨rfl, rfl⟩ | ⟨g, cap, cur, rfl, _, hg, hnc, hcm, hcs, htake⟩
    · have : xs = [] := List.eq_nil_of_length_eq_zero (by simpa using k1)
      subst this
      obtain ⟨v', w', r1, r2, r3, _⟩ := Lib.run_append_own_string (P := P) w w.heap.size t u o.type e i ht hu hi hz hsize hby _ 0 [] (World.ownsRow_nil _ _ _ _) s h63 hbytes (Nat.le_refl _)
      exact ⟨v', w', r1, (weak r2).1, r3, Or.inr (weak r2).2⟩
    · obtain ⟨v', w', r1, r2, r3, _⟩ := Lib.run_append_own_string (P := P) w 0 t u o.type e i ht hu hi hz hsize hby _ n xs hown s h63 hbytes (Nat.zero_le _)
      refine ⟨v', w', r1, r2, r3, ?_⟩
      have hxl : xs.length = n := by simpa using k1
      have hsmall : n + s.size ≤ 9223372036854775807 := by simp only [maxLen] at h63; omega
      by_cases hroom : n + s.size ≤ cap
      · have hr := Lib.run_append_room_string (P := P) w t u o.type e i ht hu hi hsize g n cap cur hg s hroom (by omega)
        rw [r1] at hr
        simp only [Result.ok.injEq] at hr
        rw [hr.1]
        exact Or.inl rfl
      · have holds : ∀ j u, xs[j]? = some u → w.cell? ((⟨g, 0, none⟩ : Addr).add j) = some u := hown.cells (g := g) rfl
        have hr := Lib.run_append_grow_string (P := P) w t u o.type e i (.int .u8 0) ht hu hi hz ⟨g, 0, none⟩ n cap xs (by rw [hsize]; simpa using hxl) holds s (by omega) (by omega) (by rw [hby]; exact growslice_fits (by omega) (by omega))
        rw [r1] at hr
        simp only [Result.ok.injEq] at hr
        rw [hr.1]
        exact Or.inr (fun g hg => by simp [Value.ownBlock] at hg; omega)
  obtain ⟨v', w', hr, h2, h3, h4⟩ := key
  unfold Oper.wp execOp
  simp only [ho, resolve, invoke, builtin, Sem.run_bind, Sem.run_pure, Result.andThen_ok, List.map_toArray, List.map_cons, List.map_nil, hs, hx, hr]
  exact hK _ _ (h v' w' h2 h3 h4)
theorem info_8 : (Tryz.prog.info? 5).map (fun i => (i.zero, i.size, i.bytes)) = some (some (.int .u8 0), 1, 1) := by kernel_rfl
theorem ofNat_toNat (n : Nat) : ((UInt8.ofNat (n % 256)).toNat : Int) = ((n : Nat) : Int) % 256 := by
  rw [UInt8.toNat_ofNat']; omega
theorem two_cells (w : World) (T : TypeId) (n : Nat) : ∀ j u, (cs8 (lows 2 n))[j]? = some u → (w.alloc (.cells #[.int .u8 ((n : Int) % 256), .int .u8 ((n : Int) / 256 % 256)] T)).cell? ((⟨w.heap.size, 0, none⟩ : Addr).add j) = some u := by
  have e : cs8 (lows 2 n) = [.int .u8 ((n : Int) % 256), .int .u8 ((n : Int) / 256 % 256)] := by
    simp only [cs8, lows, List.map_cons, List.map_nil, ofNat_toNat]
    rfl
  rw [e]
  intro j u hj
  rw [Addr.add_lit]
  match j, hj with
  | 0, hj | 1, hj => simp at hj; subst hj; simp
  | j + 2, hj => simp at hj
theorem W8.mk {w w0 w' : World} {v v' : Value} {b c : By} (h0 : Below w.heap.size w w0) (hown : w'.ownsRow 0 5 1 v' (b.length + c.length) (cs8 b ++ cs8 c)) (hg : w0.grownBy w' v.ownBlock) (hm : Moved w0 v v') : W8 w v (b ++ c) (.returned v') w' :=
  ⟨v', rfl, by rw [B8, List.length_append, cs8_append]; exact hown, (Gr.of_below v h0).trans ⟨hg, hm⟩⟩
theorem W8.then {w w1 : World} {v v1 : Value} {l : By} {e : Ending} {w2 : World} (g : Gr w v w1 v1) (h : W8 w1 v1 l e w2) : W8 w v l e w2 := by
  obtain ⟨v', he, h1, h2⟩ := h
  exact ⟨v', he, h1, g.trans h2⟩
theorem appendTwo_any (w : World) (v : Value) (b : By) (n : Nat) (hb : B8 w v b) (hl : b.length ≤ 1099511627776) (_hn : n ≤ 1099511627776) :
    Calls Tryz.prog 119 #[v, .int .i64 n] w (W8 w v (b ++ lows 2 n)) := by
  obtain ⟨i0, hi, hz0, hz1, hz2⟩ := info_parts info_8
  have HI := hid hi
  have hb' := hid hb
  clear hi hb
  go_enter Tryz.func119, Tryz.ntmps119
  go_wp2_with (at_builtin; refine wpList_append_sep _ rfl _ _ 49 rfl 5 i0 (.int .u8 0) 1 1 Tryz.underlying49 HI.out hz0 hz1 hz2 rfl (by decide) _ _ _ rfl (hb'.out.alloc _) ⟨w.heap.size, 0, none⟩ 2 2 (cs8 (lows 2 n)) rfl rfl (two_cells _ _ _) (cs8_one _) (by unfold maxLen; omega) (by omega) ?_)
  intro v' w' hown hg hm
  have R := hid (W8.mk (c := lows 2 n) (Below.alloc (Below.refl _ _) (Nat.le_refl _) _) hown hg hm)
  clear hown hg hm
  go_wp2
  go_ret
  exact R.out
theorem lows2_mod (n : Nat) : lows 2 (n % 65536) = lows 2 n := by
  simp only [lows]
  rw [show n % 65536 % 256 = n % 256 by omega, show n % 65536 / 256 % 256 = n / 256 % 256 by omega]
theorem lows4 (n : Nat) : lows 2 n ++ lows 2 (n / 65536) = lows 4 n := by
  simp only [lows, List.cons_append, List.nil_append]
  rw [show n / 65536 % 256 = n / 256 / 256 % 256 by omega, show n / 65536 / 256 % 256 = n / 256 / 256 / 256 % 256 by omega]
theorem appendTag_any (w : World) (v : Value) (b : By) (t : Nat) (hb : B8 w v b) (hl : b.length ≤ 549755813888) (ht : t < 4294967296) :
    Calls Tryz.prog 118 #[v, .int .i64 t] w (W8 w v (b ++ wrT t)) := by
  have e : wrT (t : Int) = lows 2 (t / 65536) ++ lows 2 t := by
    unfold wrT
    rw [show ((t : Int) / 65536).toNat = t / 65536 by omega, show ((t : Int) % 65536).toNat = t % 65536 by omega, lows2_mod]
  rw [e, ← List.append_assoc]
  go_enter Tryz.func118, Tryz.ntmps118
  go_wp2_with fail
  go_at_call 119
  refine (appendTwo_any w v b (t / 65536) hb (by omega) (by omega)).mono ?_
  rintro e w1 ⟨v1, rfl, h1, u1⟩
  go_wp2_with fail
  go_at_call 119
  refine (appendTwo_any w1 v1 _ t h1 (by simp [lows_length]; omega) (by omega)).mono ?_
  rintro e w2 ⟨v2, rfl, h2, u2⟩
  go_wp2
  go_ret
  exact ⟨v2, rfl, h2, u1.trans u2⟩
theorem B8.cells {w : World} {g n cap : Nat} {l : By} (h : B8 w (.slice (some ⟨g, 0, none⟩) n cap) l) : n = l.length ∧ ∀ j u, (cs8 l)[j]? = some u → w.cell? ((⟨g, 0, none⟩ : Addr).add j) = some u := by
  have hn : n = l.length := by
    rcases h.2 with ⟨e, _⟩ | ⟨g', cap', cur, e, _⟩
    · cases e
    · simp only [Value.slice.injEq] at e; exact e.2.1
  subst hn
  refine ⟨rfl, fun j u hj => ?_⟩
  have hlt := (List.getElem?_eq_some_iff.1 hj).1
  rw [cs8_length] at hlt
  rw [Addr.add_lit, Nat.zero_add, World.ownsRow.cellAt h _ (by omega)]
  exact hj
theorem B8.shape {w : World} {v : Value} {l : By} (h : B8 w v l) : (v = .slice none 0 0 ∧ l = []) ∨ ∃ g cap, v = .slice (some ⟨g, 0, none⟩) l.length cap := by
  rcases h.2 with ⟨e, e2⟩ | ⟨g', cap', cur, e, _⟩
  · exact Or.inl ⟨e, List.eq_nil_of_length_eq_zero e2⟩
  · exact Or.inr ⟨g', cap', e⟩
theorem appendLong_any (w : World) (v v2 : Value) (b c : By) (hb : B8 w v b) (hc : B8 w v2 c) (hsep : ∀ k, v2.ownBlock = some k → v.ownBlock ≠ some k) (hl : b.length ≤ 549755813888) (hl2 : c.length ≤ 274877906944) :
    Calls Tryz.prog 120 #[v, v2] w (W8 w v (b ++ (lows 4 c.length ++ c))) := by
  obtain ⟨i0, hi, hz0, hz1, hz2⟩ := info_parts info_8
  have HI := hid hi
  have HC := hid hc
  clear hi
  obtain ⟨ad, cap, hv2⟩ : ∃ ad cap, v2 = .slice ad c.length cap := by
    rcases hc.shape with ⟨e, e2⟩ | ⟨g, cap, e⟩
    · exact ⟨none, 0, by rw [e, e2]; rfl⟩
    · exact ⟨_, _, e⟩
  have hsep' := hid hsep
  clear hc hsep
  subst hv2
  go_enter Tryz.func120, Tryz.ntmps120
  go_wp2_with fail
  go_at_call 119
  refine (appendTwo_any w v b c.length hb (by omega) (by omega)).mono ?_
  rintro e w1 ⟨v1, rfl, h1, u1⟩
  go_wp2_with fail
  go_at_call 119
  refine (appendTwo_any w1 v1 _ (c.length / 65536) h1 (by simp [lows_length]; omega) (by omega)).mono ?_
  rintro e w2 ⟨v2, rfl, h2, u2⟩
  have u12 := hid (u1.trans u2)
  have hc2 : Hid (B8 w2 (.slice ad c.length cap) c) := HC.out.keep (fun j hj => by
    have hj' : (Value.slice ad c.length cap).ownBlock = some j := by simpa using hj
    exact u12.out.1.block j (ownsRow_lt HC.out j hj) (fun e => hsep'.out j hj' e.symm))
  clear u1 u2 h1
  have h2' := hid h2
  clear h2
  have efin := hid (show b ++ lows 2 c.length ++ lows 2 (c.length / 65536) = b ++ lows 4 c.length by rw [List.append_assoc, lows4])
  have elen := hid (show (b ++ lows 2 c.length ++ lows 2 (c.length / 65536)).length = b.length + 4 by simp [lows_length])
  generalize b ++ lows 2 c.length ++ lows 2 (c.length / 65536) = b2 at h2' efin elen
  rcases hc2.out.shape with ⟨e, e2⟩ | ⟨g, cap', e⟩
  · simp only [Value.slice.injEq] at e
    obtain ⟨rfl, _, rfl⟩ := e
    subst e2
    go_wp2_with (at_builtin; refine wpList_append_own_none rfl _ _ 49 rfl 0 5 i0 1 Tryz.underlying49 HI.out _ _ _ rfl h2'.out rfl ?_)
    go_ret
    refine ⟨v2, rfl, ?_, u12.out⟩
    have := h2'.out
    rw [efin.out] at this
    rw [List.append_nil]
    exact this
  · simp only [Value.slice.injEq] at e
    obtain ⟨rfl, _, rfl⟩ := e
    go_wp2_with (at_builtin; refine wpList_append_sep _ rfl _ _ 49 rfl 5 i0 (.int .u8 0) 1 1 Tryz.underlying49 HI.out hz0 hz1 hz2 rfl (by decide) _ _ _ rfl h2'.out ⟨g, 0, none⟩ c.length cap (cs8 c) rfl (by rw [cs8_length, Nat.mul_one]) hc2.out.cells.2 (cs8_one _) (by unfold maxLen; rw [elen.out]; omega) (by rw [elen.out]; omega) ?_)
    intro v' w' hown hg hm
    have R := hid (W8.then u12.out (W8.mk (c := c) (Below.refl _ _) hown hg hm))
    clear hown hg hm
    go_wp2
    go_ret
    have := R.out
    rw [efin.out, List.append_assoc] at this
    exact this
theorem bs_append (a b : By) : bs a ++ bs b = bs (a ++ b) := by
  apply ByteArray.ext
  rw [ByteArray.data_append]
  apply Array.ext'
  simp [bs]
theorem strCells_bs (l : By) : Lib.strCells (bs l) = cs8 l := rfl
theorem appendValue_any (w : World) (v : Value) (b k u : By) (hb : B8 w v b) (hl : b.length ≤ 549755813888) (hu : u.length ≤ 64) :
    Calls Tryz.prog 122 #[v, .string (bs k), .string (bs u)] w (W8 w v (b ++ (lows 2 (wrV 0 k u).length ++ wrV 0 k u))) := by
  obtain ⟨i0, hi, hz0, hz1, hz2⟩ := info_parts info_8
  have HI := hid hi
  clear hi
  have hz := bs_size u
  by_cases hodd : u.length % 2 = 1
  · have d1 : ((u.length : Int) % 2 != 0) = true := by simp; omega
    have d2 : ((u.length : Int) % 2 == 0) = false := by simp; omega
    have e := hid (show wrV 0 k u = u ++ [padB k] by unfold wrV; rw [if_pos hodd]; simp)
    clear hodd
    have hz1' := bs_size [padB k]
    have happ := bs_append u [padB k]
    have hz3 : (bs (u ++ [padB k])).size = u.length + 1 := by rw [bs_size, List.length_append]; rfl
    go_enter Tryz.func122, Tryz.ntmps122
    go_wp2_with fail
    go_at_call 191
    refine (pad_any w k).mono ?_
    rintro e w1 ⟨rfl, rfl⟩
    go_wp2_with fail
    go_at_call 119
    refine (appendTwo_any w1 v b (u.length + 1) hb (by omega) (by omega)).mono ?_
    rintro e w2 ⟨v2, rfl, h2, u2⟩
    have h2' := hid h2
    have elen := hid (show (b ++ lows 2 (u.length + 1)).length = b.length + 2 by simp [lows_length])
    have efin := hid (show b ++ (lows 2 (wrV 0 k u).length ++ wrV 0 k u) = b ++ lows 2 (u.length + 1) ++ (u ++ [padB k]) by rw [‹Hid (wrV 0 k u = u ++ [padB k])›.out, List.length_append, List.append_assoc]; rfl)
    clear h2
    generalize b ++ lows 2 (u.length + 1) = b2 at h2' efin elen
    go_wp2_with (at_builtin; refine wpList_append_str _ rfl _ _ 49 9 rfl 5 i0 Tryz.underlying49 Tryz.underlying9 HI.out hz0 hz1 hz2 _ _ _ rfl h2'.out (bs (u ++ [padB k])) rfl (by unfold maxLen; rw [elen.out, hz3]; omega) (by rw [elen.out, hz3]; omega) ?_)
    intro v' w' hown hg hm
    have R := hid (W8.then u2 (W8.mk (b := b2) (c := u ++ [padB k]) (Below.refl _ _) (by rw [strCells_bs] at hown; rw [List.length_append]; exact hown) hg hm))
    clear hown hg hm
    go_wp2
    go_ret
    rw [efin.out]
    exact R.out
  · have d1 : ((u.length : Int) % 2 != 0) = false := by simp; omega
    have d2 : ((u.length : Int) % 2 == 0) = true := by simp; omega
    have e := hid (show wrV 0 k u = u by unfold wrV; rw [if_neg hodd]; simp)
    clear hodd
    go_enter Tryz.func122, Tryz.ntmps122
    go_wp2_with fail
    go_at_call 119
    refine (appendTwo_any w v b u.length hb (by omega) (by omega)).mono ?_
    rintro e w2 ⟨v2, rfl, h2, u2⟩
    have h2' := hid h2
    have elen := hid (show (b ++ lows 2 u.length).length = b.length + 2 by simp [lows_length])
    have efin := hid (show b ++ (lows 2 (wrV 0 k u).length ++ wrV 0 k u) = b ++ lows 2 u.length ++ u by rw [‹Hid (wrV 0 k u = u)›.out, List.append_assoc])
    clear h2
    generalize b ++ lows 2 u.length = b2 at h2' efin elen
    go_wp2_with (at_builtin; refine wpList_append_str _ rfl _ _ 49 9 rfl 5 i0 Tryz.underlying49 Tryz.underlying9 HI.out hz0 hz1 hz2 _ _ _ rfl h2'.out (bs u) rfl (by unfold maxLen; rw [elen.out, hz]; omega) (by rw [elen.out, hz]; omega) ?_)
    intro v' w' hown hg hm
    have R := hid (W8.then u2 (W8.mk (b := b2) (c := u) (Below.refl _ _) (by rw [strCells_bs] at hown; exact hown) hg hm))
    clear hown hg hm
    go_wp2
    go_ret
    rw [efin.out]
    exact R.out
end Go.Proofs.YtaokifbpakbgdaaGreatDoor

/- Package dataset's appendSet, appendItems and Encode. -/
namespace Go.Proofs.YtaokifbpakbgdaaGreatDoor
open Go.RowKit

/-- What is asked of appendSet, at a depth. -/
def SetW (n : Nat) : Prop := ∀ (F : Nat → Prop) (w : World) (v sv : Value) (b : By) (l : List (El n)) (d : Nat), (∀ j, F j → j < w.heap.size) → (∀ j ∈ v.ownBlock.toList, ¬ F j) → Rd w F n sv l → errS n d l = 0 → d ≤ 2 → 3 ≤ d + n → B8 w v b →
  b.length + (wrS false 0 n l).length ≤ 274877906944 → Calls Tryz.prog 64 #[v, sv] w (W8 w v (b ++ wrS false 0 n l))
/-- While bytes are written the data set stays. -/
theorem Gr.rd {w w' : World} {v v' : Value} {F : Nat → Prop} (g : Gr w v w' v') (h1 : ∀ j, F j → j < w.heap.size) (h2 : ∀ j ∈ v.ownBlock.toList, ¬ F j) :
    (∀ j, F j → j < w.heap.size → w'.heap[j]? = w.heap[j]?) ∧ (∀ j ∈ v'.ownBlock.toList, ¬ F j) ∧ (∀ j, F j → j < w'.heap.size) := by
  refine ⟨fun j hj hlt => g.1.block j hlt (fun e => h2 j (by rw [← e]; simp) hj), fun j hj hF => ?_, fun j hj => Nat.lt_of_lt_of_le (h1 j hj) g.1.size⟩
  rcases g.2 with m | m
  · exact h2 j (by rw [← m]; exact hj) hF
  · have := m j hj
    have := h1 j hF
    omega
theorem RdI.at {w : World} {F : Nat → Prop} {n : Nat} {ad : Option Addr} {len cap : Nat} {l : List (List (El n))} (h : RdI w F n (.slice ad len cap) l) {i : Nat} {x : List (El n)} (hx : l[i]? = some x) :
    ∃ a ad2 cap2, ad = some a ∧ F a.block ∧ w.cell? (a.add i) = some (.slice ad2 x.length cap2) ∧ Rd w F n (.slice ad2 x.length cap2) x := by
  obtain ⟨ad', cap', e, hc⟩ := h
  obtain ⟨a, rfl, hF, sv, h0, h1⟩ := hc i x hx
  obtain ⟨ad2, cap2, rfl⟩ := h1.slice
  simp only [Value.slice.injEq] at e
  rw [Nat.one_mul] at h0
  exact ⟨a, ad2, cap2, e.1, hF, h0, h1⟩
theorem flat_take {α : Type} (f : α → By) (l : List α) (k : Nat) (hk : k < l.length) : ((l.take (k + 1)).map f).flatten = ((l.take k).map f).flatten ++ f l[k] := by
  rw [List.take_succ_eq_append_getElem hk, List.map_append, List.flatten_append]
  simp
theorem flat_take_le {α : Type} (f : α → By) (l : List α) (k : Nat) : (((l.take k).map f).flatten).length ≤ ((l.map f).flatten).length := by
  conv => rhs; rw [← List.take_append_drop k l, List.map_append, List.flatten_append, List.length_append]
  omega
theorem appendItems_any (n : Nat) (H : SetW n) (F : Nat → Prop) (w : World) (v iv : Value) (b : By) (l : Its n) (d : Nat) (h1 : ∀ j, F j → j < w.heap.size) (h2 : ∀ j ∈ v.ownBlock.toList, ¬ F j) (h : RdI w F n iv l) (he : errI (errS n d) l = 0) (hd : d ≤ 2) (hn : 3 ≤ d + n)
    (hb : B8 w v b) (hl : b.length + ((l.map (wrI (wrS false 0 n) false)).flatten).length ≤ 274877906944) (hl8 : l.length ≤ 8) :
    Calls Tryz.prog 121 #[v, iv] w (W8 w v (b ++ (l.map (wrI (wrS false 0 n) false)).flatten)) := by
  obtain ⟨ad, cap, rfl⟩ := h.slice
  have hsets := errI_mem he
  go_enter Tryz.func121, Tryz.ntmps121
  go_wp2_with fail
  go_loopw [0, 9] (fun bv i wr => ∃ k : Nat, k ≤ l.length ∧ i = .int .i64 k ∧ Hid (B8 wr bv (b ++ ((l.take k).map (wrI (wrS false 0 n) false)).flatten)) ∧ Hid (Gr w v wr bv)) (fun _ i _ => l.length - (intOf i).toNat)
  case atStart => exact ⟨0, Nat.zero_le _, rfl, by unfold Hid; simpa using hb, Gr.of_below v (Below.refl _ _)⟩
  case round =>
    obtain ⟨k, hk, rfl, hbk, hgr⟩ := hrel
    by_cases hkl : k < l.length
    · obtain ⟨q1, q2, q3⟩ := hgr.out.rd h1 h2
      obtain ⟨a, ad2, cap2, rfl, hF, c0, hrd⟩ := (h.keep (fun _ h => h) q1).at (List.getElem?_eq_getElem hkl)
      have hgood := hsets l[k] (List.getElem_mem hkl)
      have hflat := hid (flat_take (wrI (wrS false 0 n) false) l k hkl)
      have hfl := flat_take_le (wrI (wrS false 0 n) false) l (k + 1)
      rw [hflat.out, List.length_append] at hfl
      generalize l[k] = x at hrd hgood c0 hflat hfl
      have hwl : (wrI (wrS false 0 n) false x).length = 8 + (wrS false 0 n x).length := by
        unfold wrI sizeB
        simp [lows_length]
        omega
      have hrd' := hid hrd
      have Q := hid (And.intro q2 q3)
      clear q1 q2 q3 hrd
      generalize hbb : b ++ ((l.take k).map (wrI (wrS false 0 n) false)).flatten = bb at hbk
      have hbbl : bb.length = b.length + (((l.take k).map (wrI (wrS false 0 n) false)).flatten).length := by rw [← hbb, List.length_append]
      have hbb' := hid hbb
      clear hbb
      have hal := Below.alloc (Below.refl wr.heap.size wr) (Nat.le_refl _) (.cells #[.slice ad2 x.length cap2] 182)
      have hX : (wr.alloc (.cells #[.slice ad2 x.length cap2] 182)).heap[wr.heap.size]? = some (.cells #[.slice ad2 x.length cap2] 182 (0, 0)) := heap_alloc_new _ _
      have hrdA := hid (hrd'.out.up hal)
      have hbkA := hid (hbk.out.below hal)
      have hgrA := hid (hgr.out.trans (Gr.of_below u0 hal))
      have hown0 := hid (ownsRow_lt hbk.out)
      clear hrd' hal
      go_wp2_with fail
      go_at_call 118
      refine (appendTag_any _ u0 bb 4294893568 hbkA.out (by omega) (by omega)).mono ?_
      generalize wr.alloc (.cells #[.slice ad2 x.length cap2] 182) = wA at hX hrdA hbkA hgrA ⊢
      rintro e w1 ⟨v1, rfl, hb1, g1⟩
      have hX1 : w1.heap[wr.heap.size]? = some (.cells #[.slice ad2 x.length cap2] 182 (0, 0)) := (g1.1.block _ (lt_of_block hX) (fun e => by have := hown0.out wr.heap.size (by rw [← e]; simp); omega)).trans hX
      have cX := cell_of_one hX1
      obtain ⟨p1, p2, p3⟩ := (hgrA.out.trans g1).rd h1 h2
      have hrd1 := hid (hrdA.out.keep (w' := w1) (F' := F) (fun _ h => h) (fun j hj hlt => g1.1.block j hlt (fun e => by
        have hq := hgrA.out.rd h1 h2
        exact hq.2.1 j (by rw [← e]; simp) hj)))
      have hP := hid p3
      clear p1 p2 p3 hX1 hX
      go_wp2_with fail
      go_at_call 64
      refine (H F w1 _ _ [] x d hP.out (fun j hj => by cases hj) hrd1.out hgood hd hn (B8.nil w1) (by simp; omega)).mono ?_
      rintro e w2 ⟨v2, rfl, hb2, g2⟩
      rw [List.nil_append] at hb2
      have hb2' := hid hb2
      have hb1' := hid (hb1.below g2.below)
      have hlt1 := hid (ownsRow_lt hb1)
      have g12 := hid ((hgrA.out.trans g1).trans (Gr.of_below v1 g2.below))
      have hsep : Hid (∀ k, v2.ownBlock = some k → v1.ownBlock ≠ some k) := fun j hj e => by
        have h1 := hlt1.out j (by rw [e]; simp)
        rcases g2.2 with m | m
        · rw [m] at hj; simp [Value.ownBlock] at hj
        · have := m j (by rw [hj]; simp); omega
      clear hb1 hb2 g1 g2
      have hl1 : (bb ++ wrT (4294893568 : Nat)).length = bb.length + 4 := by simp [wrT, lows_length]
      have heq := hid (show b ++ ((l.take (k + 1)).map (wrI (wrS false 0 n) false)).flatten = bb ++ wrT (4294893568 : Nat) ++ (lows 4 (wrS false 0 n x).length ++ wrS false 0 n x) by
        rw [hflat.out, ← List.append_assoc, hbb'.out, wrI, show wrT ((4294893568 : Nat) : Int) = [254, 255, 0, 224] by decide +kernel]
        simp [sizeB])
      generalize bb ++ wrT (4294893568 : Nat) = b4 at hb1' hl1 heq
      generalize wrS false 0 n x = xb at hb2' heq hwl
      go_wp2_with fail
      go_at_call 120
      refine (appendLong_any w2 v1 v2 b4 xb hb1'.out hb2'.out hsep.out (by omega) (by omega)).mono ?_
      rintro e w3 ⟨v3, rfl, hb3, g3⟩
      have R1 := hid hb3
      have R2 := hid (g12.out.trans g3)
      clear hb3 g3
      go_wp2
      go_roundw
      case rel => exact ⟨k + 1, by omega, by go_num, by unfold Hid; rw [heq.out]; exact R1.out, R2⟩
      case measure => simp [intOf]; omega
    · go_wp2
      go_ret
      refine ⟨u0, rfl, ?_, hgr.out⟩
      have := hbk.out
      rw [List.take_of_length_le (by omega)] at this
      exact this
theorem wrE_eq {n : Nat} (f : List (El n) → By) (o : Bool) (p : Nat) (t : Int) (k u : By) (its : Its n) : wrE f o p ((t, k, u, its) : El (n + 1)) = wrT t ++ k ++ (if k = SQ then wrQ o (List.map (wrI f o) its).flatten else lows 2 (wrV p k u).length ++ wrV p k u) := rfl
theorem appendSet_succ (n : Nat) (H : SetW n) : SetW (n + 1) := by
  intro F w v sv b l d h1 h2 h he hd hn hb hl
  obtain ⟨ad, cap, rfl⟩ := h.slice
  rw [errS] at he
  by_cases h24 : 24 < l.length
  · rw [if_pos h24] at he; cases he
  rw [if_neg h24] at he
  have hels := errL_mem he
  clear he
  rw [wrS_succ] at hl ⊢
  obtain ⟨i0, hi, hz0, hz1, hz2⟩ := info_parts info_8
  have HI := hid hi
  clear hi
  go_enter Tryz.func64, Tryz.ntmps64
  go_wp2_with fail
  go_loopw [0, 9] (fun bv i wr => ∃ k : Nat, k ≤ l.length ∧ i = .int .i64 k ∧ Hid (B8 wr bv (b ++ ((l.take k).map (wrE (wrS false 0 n) false 0)).flatten)) ∧ Hid (Gr w v wr bv)) (fun _ i _ => l.length - (intOf i).toNat)
  case atStart => exact ⟨0, Nat.zero_le _, rfl, by unfold Hid; simpa using hb, Gr.of_below v (Below.refl _ _)⟩
  case round =>
    obtain ⟨k, hk, rfl, hbk, hgr⟩ := hrel
    by_cases hkl : k < l.length
    · obtain ⟨q1, q2, q3⟩ := hgr.out.rd h1 h2
      obtain ⟨a, ad2, cap2, rfl, hF, c0, c1, c2, c3, hrd⟩ := (h.keep (fun _ h => h) q1).at (List.getElem?_eq_getElem hkl)
      obtain ⟨before, hbef⟩ := hels l[k] (List.getElem_mem hkl)
      have hflat := hid (flat_take (wrE (wrS false 0 n) false 0) l k hkl)
      have hfl := flat_take_le (wrE (wrS false 0 n) false 0) l (k + 1)
      rw [hflat.out, List.length_append] at hfl
      generalize l[k] = x at hrd hbef c0 c1 c2 c3 hflat hfl
      obtain ⟨t, kd, u, its⟩ := x
      obtain ⟨e1, e2, e3, e4, e5, e6, e7, e8, e9, e10, e11, e12⟩ := errE_ok hbef
      simp only at e1 e2 e3 e4 e5 e6 e7 e8 e9 e10 e11 e12 c0 c1 c2 c3 hrd
      obtain ⟨t, rfl⟩ := Int.eq_ofNat_of_zero_le e2
      have hkl2 := hid (isK_length e1)
      have hrd' := hid hrd
      have E := hid (And.intro e8 (And.intro e9 (And.intro e11 e12)))
      clear q1 hrd hbef e1 e2 e4 e5 e7 e8 e9 e11 e12
      generalize hbb : b ++ ((l.take k).map (wrE (wrS false 0 n) false 0)).flatten = bb at hbk
      have hbbl := hid (show bb.length = b.length + (((l.take k).map (wrE (wrS false 0 n) false 0)).flatten).length by rw [← hbb, List.length_append])
      have hbb' := hid hbb
      clear hbb
      have hal := Below.alloc (Below.refl wr.heap.size wr) (Nat.le_refl _) (.cells #[.int .i64 t, .string (bs kd), .string (bs u), .slice ad2 its.length cap2] 73)
      have hX := Four.new wr (.int .i64 t) (.string (bs kd)) (.string (bs u)) (.slice ad2 its.length cap2)
      have hrdA := hid (hrd'.out.up hal)
      have hbkA := hid (hbk.out.below hal)
      have hgrA := hid (hgr.out.trans (Gr.of_below u0 hal))
      have hXne : Hid (some wr.heap.size ≠ u0.ownBlock) := fun e => by have := ownsRow_lt hbk.out wr.heap.size (by rw [← e]; simp); omega
      clear hrd' hal q2 q3
      have hkdl := bs_toList kd
      have hkds := bs_size kd
      go_wp2_with fail
      go_at_call 118
      refine (appendTag_any _ u0 bb t hbkA.out (by have := hbbl.out; omega) (by omega)).mono ?_
      generalize wr.alloc (.cells #[.int .i64 t, .string (bs kd), .string (bs u), .slice ad2 its.length cap2] 73) = wA at hX hrdA hbkA hgrA ⊢
      have hQ := hid (hgrA.out.rd h1 h2)
      have hXlt := hX.lt
      rintro e w1 ⟨v1, rfl, hb1, g1⟩
      have hX1 := (hX.keep (g1.1.block _ hXlt hXne.out)).cells
      obtain ⟨⟨_, x1, x2, x3⟩, _⟩ := hX1
      have hb1' := hid hb1
      have g1' := hid g1
      clear hb1 g1
      have hl1 := hid (show (bb ++ wrT t).length = bb.length + 4 by simp [wrT, lows_length])
      have hbb4 := hid (rfl : bb ++ wrT t = bb ++ wrT t)
      generalize hb4 : bb ++ wrT t = b4 at hb1' hl1
      have hb4' := hid hb4
      clear hb4 hbb4
      go_wp2_with (at_builtin; refine wpList_append_str _ rfl _ _ 49 9 rfl 5 i0 Tryz.underlying49 Tryz.underlying9 HI.out hz0 hz1 hz2 _ _ _ rfl hb1'.out (bs kd) rfl (by unfold maxLen; rw [hkds, hkl2.out, hl1.out, hbbl.out]; omega) (by rw [hkds, hkl2.out, hl1.out, hbbl.out]; omega) ?_)
      intro v2 w2 hown hg hm
      have R2 := hid (W8.then g1'.out (W8.mk (b := b4) (c := kd) (Below.refl _ _) (by rw [strCells_bs] at hown; exact hown) hg hm))
      clear hown hg hm
      obtain ⟨_, e2, hb2, g2⟩ := R2.out
      simp only [Ending.returned.injEq] at e2
      subst e2
      have hX2 := (hX.keep (g2.1.block _ hXlt hXne.out)).cells
      obtain ⟨⟨_, y1, y2, y3⟩, _⟩ := hX2
      have hb2' := hid hb2
      have g2' := hid g2
      clear hb2 g2 R2
      have hl2 := hid (show (b4 ++ kd).length = bb.length + 6 by rw [List.length_append, hl1.out, hkl2.out])
      have hwrE := hid (show b ++ ((l.take (k + 1)).map (wrE (wrS false 0 n) false 0)).flatten = (b4 ++ kd) ++ (if kd = SQ then wrQ false (its.map (wrI (wrS false 0 n) false)).flatten else lows 2 (wrV 0 kd u).length ++ wrV 0 kd u) by
        rw [hflat.out, ← List.append_assoc, hbb'.out, wrE_eq, ← hb4'.out]
        simp only [List.append_assoc])
      have hwrL := hid (show (((l.take k).map (wrE (wrS false 0 n) false 0)).flatten).length + (6 + (if kd = SQ then wrQ false (its.map (wrI (wrS false 0 n) false)).flatten else lows 2 (wrV 0 kd u).length ++ wrV 0 kd u).length) ≤ ((l.map (wrE (wrS false 0 n) false 0)).flatten).length by
        have h6 : (wrE (wrS false 0 n) false 0 ((t : Int), kd, u, its)).length = 6 + (if kd = SQ then wrQ false (its.map (wrI (wrS false 0 n) false)).flatten else lows 2 (wrV 0 kd u).length ++ wrV 0 kd u).length := by
          unfold wrE
          simp only [List.length_append, wrT, lows_length, hkl2.out]
        have := hfl
        rw [h6] at this
        exact this)
      clear hfl hflat hb4' hl1
      generalize b4 ++ kd = b6 at hb2' hl2 hwrE
      by_cases hq : (kd == [83, 81]) = true
      · have hq' := hid (show kd = SQ by simpa using hq)
        rw [if_pos hq'.out] at hwrE hwrL
        have hdq := hid (E.out.2.2.1 hq'.out)
        have hgood := hid E.out.2.2.2
        have hwq := hid (show wrQ false (its.map (wrI (wrS false 0 n) false)).flatten = lows 2 0 ++ (lows 4 ((its.map (wrI (wrS false 0 n) false)).flatten).length ++ (its.map (wrI (wrS false 0 n) false)).flatten) by
          unfold wrQ sizeB
          simp only [List.append_assoc]
          simp [lows])
        rw [hwq.out] at hwrE hwrL
        clear hwq
        have hwrL2 := hid (show (((l.take k).map (wrE (wrS false 0 n) false 0)).flatten).length + (12 + ((its.map (wrI (wrS false 0 n) false)).flatten).length) ≤ ((l.map (wrE (wrS false 0 n) false 0)).flatten).length by
          have := hwrL.out
          simp only [List.length_append, lows_length] at this
          omega)
        clear hwrL
        go_wp2_with fail
        go_at_call 119
        refine (appendTwo_any w2 v2 b6 0 hb2'.out (by have h1 := hl2.out; have h2 := hbbl.out; have h3 := hwrL2.out; omega) (by omega)).mono ?_
        rintro e w3 ⟨v3, rfl, hb3, g3⟩
        have g3' := hid (g2'.out.trans g3)
        have hb3' := hid hb3
        clear hb3 g3
        have hX3 := (hX.keep (g3'.out.1.block _ hXlt hXne.out)).cells
        obtain ⟨⟨_, z1, z2, z3⟩, _⟩ := hX3
        have hl3 := hid (show (b6 ++ lows 2 0).length = bb.length + 8 by rw [List.length_append, hl2.out]; rfl)
        have hrd3 := hid (hrdA.out.keep (w' := w3) (F' := F) (fun _ h => h) (g3'.out.rd hQ.out.2.2 hQ.out.2.1).1)
        have hF3 := hid (g3'.out.rd hQ.out.2.2 hQ.out.2.1).2.2
        have hwrE2 := hid (show b ++ ((l.take (k + 1)).map (wrE (wrS false 0 n) false 0)).flatten = (b6 ++ lows 2 0) ++ (lows 4 ((its.map (wrI (wrS false 0 n) false)).flatten).length ++ (its.map (wrI (wrS false 0 n) false)).flatten) by rw [hwrE.out]; simp only [List.append_assoc])
        clear hwrE
        generalize b6 ++ lows 2 0 = b8 at hb3' hl3 hwrE2
        go_wp2_with fail
        go_at_call 121
        refine (appendItems_any n H F w3 _ _ [] its (d + 1) hF3.out (fun j hj => by cases hj) hrd3.out hgood.out (by have := hdq.out; omega) (by omega) (B8.nil w3) (by have := hwrL2.out; simp only [List.length_nil]; omega) e10).mono ?_
        rintro e w4 ⟨v4, rfl, hb4, g4⟩
        rw [List.nil_append] at hb4
        have hb4' := hid hb4
        have hb3A := hid (hb3'.out.below g4.below)
        have hlt3 := hid (ownsRow_lt hb3'.out)
        have g4' := hid (g3'.out.trans (Gr.of_below v3 g4.below))
        have hsep : Hid (∀ k, v4.ownBlock = some k → v3.ownBlock ≠ some k) := fun j hj e => by
          have h1 := hlt3.out j (by rw [e]; simp)
          rcases g4.2 with m | m
          · rw [m] at hj; simp [Value.ownBlock] at hj
          · have := m j (by rw [hj]; simp); omega
        clear hb4 g4
        generalize ((its.map (wrI (wrS false 0 n) false)).flatten) = xb at hb4' hwrE2 hwrL2
        go_wp2_with fail
        go_at_call 120
        refine (appendLong_any w4 v3 v4 b8 xb hb3A.out hb4'.out hsep.out (by have h1 := hl3.out; have h2 := hbbl.out; have h3 := hwrL2.out; omega) (by have h1 := hwrL2.out; omega)).mono ?_
        rintro e w5 ⟨v5, rfl, hb5, g5⟩
        have R1 := hid hb5
        have R2 := hid (hgrA.out.trans (g4'.out.trans g5))
        clear hb5 g5
        go_wp2
        go_roundw
        case rel => exact ⟨k + 1, by omega, by go_num, by unfold Hid; rw [hwrE2.out]; exact R1.out, R2⟩
        case measure => simp [intOf]; omega
      · have hq2 : (kd == [83, 81]) = false := by simpa using hq
        have hq' := hid (show ¬ kd = SQ by simpa using hq)
        rw [if_neg hq'.out] at hwrE hwrL
        clear hq
        go_wp2_with fail
        go_at_call 122
        refine (appendValue_any w2 v2 b6 kd u hb2'.out (by have h1 := hl2.out; have h2 := hbbl.out; have h3 := hwrL.out; omega) e6).mono ?_
        rintro e w3 ⟨v3, rfl, hb3, g3⟩
        have R1 := hid hb3
        have R2 := hid (hgrA.out.trans (g2'.out.trans g3))
        clear hb3 g3
        go_wp2
        go_roundw
        case rel => exact ⟨k + 1, by omega, by go_num, by unfold Hid; rw [hwrE.out]; exact R1.out, R2⟩
        case measure => simp [intOf]; omega
    · go_wp2
      go_ret
      refine ⟨u0, rfl, ?_, hgr.out⟩
      have := hbk.out
      rw [List.take_of_length_le (by omega)] at this
      exact this
theorem appendSet_any : ∀ n, SetW n
  | 0 => fun _ _ _ _ _ _ _ _ _ _ _ h1 h2 _ _ => absurd h2 (by omega)
  | n + 1 => appendSet_succ n (appendSet_any n)
theorem B8.str {w : World} {v : Value} {l : By} (h : B8 w v l) : (convert 49 9 v).run Tryz.prog w = .ok (.string (bs l)) w := by
  rcases h.shape with ⟨rfl, rfl⟩ | ⟨g, cap, rfl⟩
  · rw [run_convert_bytes_string w 49 9 5 none 0 0 Tryz.underlying49 Tryz.underlying5 Tryz.underlying9]
    simp [Conv.bytesToString]
    rfl
  · exact run_convert_bytes_back (P := Tryz.prog) w 49 9 5 ⟨g, 0, none⟩ cap l Tryz.underlying49 Tryz.underlying5 Tryz.underlying9 (fun j hj => h.cells.2 j _ (by
      rw [cs8, List.getElem?_map, List.getElem?_eq_getElem hj]; rfl))
/-- How Encode ends. -/
def EncEnd (n : Nat) (w : World) (l : List (El n)) (e : Ending) (w' : World) : Prop := Below w.heap.size w w' ∧
  ((errS n 0 l ≠ 0 ∧ e = .returned (.tuple #[.string (bs []), .int .i64 (errS n 0 l)])) ∨ (errS n 0 l = 0 ∧ e = .returned (.tuple #[.string (bs (wrS false 0 n l)), .int .i64 0])))
theorem Encode_any (n : Nat) (hn : 3 ≤ n) (F : Nat → Prop) (w : World) (sv : Value) (l : List (El n)) (h1 : ∀ j, F j → j < w.heap.size) (h : Rd w F n sv l) (hl : errS n 0 l = 0 → (wrS false 0 n l).length ≤ 274877906944) :
    Calls Tryz.prog 37 #[sv] w (EncEnd n w l) := by
  obtain ⟨ad, cap, rfl⟩ := h.slice
  go_enter Tryz.func37, Tryz.ntmps37
  go_wp2_with fail
  go_at_call 63
  refine (checkSet_any n F w _ l 0 (by omega) (by omega) h).mono ?_
  rintro e w1 ⟨rfl, u1⟩
  have u1' := hid u1
  have hrd1 := hid (h.up u1)
  clear u1
  have hl' := hid hl
  clear hl
  generalize hee : errS n 0 l = ee
  have hee' := hid hee
  clear hee
  by_cases he : ee = 0
  · subst he
    go_wp2_with fail
    go_at_call 64
    refine (appendSet_any n F w1 _ _ [] l 0 (fun j hj => Nat.lt_of_lt_of_le (h1 j hj) u1'.out.size) (fun j hj => by cases hj) hrd1.out hee'.out (by omega) (by omega) (B8.nil w1) (by have := hl'.out hee'.out; simp only [List.length_nil]; omega)).mono ?_
    rintro e w2 ⟨v2, rfl, hb2, g2⟩
    rw [List.nil_append] at hb2
    have u2 := hid (u1'.out.trans (g2.below.mono u1'.out.size))
    clear g2
    have hcv := hb2.str
    generalize hwb : wrS false 0 n l = wb at hb2 hcv
    have hwb' := hid hwb
    clear hwb
    go_wp2
    go_ret2
    exact ⟨u2.out, Or.inr ⟨hee'.out, by rw [hwb'.out]; rfl⟩⟩
  · have he2 : (ee != 0) = true := by simpa using he
    have he3 := hid he
    clear he
    go_wp2
    go_ret2
    exact ⟨u1'.out, Or.inl ⟨by rw [hee'.out]; exact he3.out, by rw [hee'.out]; rfl⟩⟩
end Go.Proofs.YtaokifbpakbgdaaGreatDoor

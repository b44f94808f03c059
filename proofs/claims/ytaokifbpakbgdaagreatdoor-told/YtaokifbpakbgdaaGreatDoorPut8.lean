/-
  Several texts in one; what each one has stands at its head.
-/
import Derived.Test.YtaokifbpakbgdaaGreatDoorPut7
import Derived.Laws.AppendOwnNone
import Derived.Test.YtaokifbpakbgdaaGreatDoorPut3
import Derived.Test.YtaokifbpakbgdaaGreatDoorPut2
/- Package archive: what is demanded of the elements: demandsInParts, demands. -/
namespace Go.Proofs.YtaokifbpakbgdaaGreatDoor
open Go.RowKit

/-- A demand: the kind, the value, the kind that is asked. -/
abbrev Dm := By × By × By
def dmY {n : Nat} (y : El (n + 1)) : Dm := (y.2.1, y.2.2.1, LO)
def dmI {n : Nat} (its : Its (n + 1)) : List Dm := (its.map (fun s => (wordsL s).map dmY)).flatten
def dmE {n : Nat} (x : El (n + 2)) : List Dm := (if kindT x.1 = [] then [] else [(x.2.1, x.2.2.1, kindT x.1)]) ++ (if x.1 = 533016 then dmI x.2.2.2 else [])
def dms {n : Nat} (l : List (El (n + 2))) : List Dm := (l.map dmE).flatten
/-- The five cells of a demand. -/
def CpD (c : List Value) (d : Dm) (b : List Nat) : Prop := b = [] ∧ ∃ t ad len cap, c = [.int .i64 t, .string (bs d.1), .string (bs d.2.1), .slice ad len cap, .string (bs d.2.2)]
theorem info_demand : (Tryz.prog.info? 187).map (fun i => (i.zero, i.size, i.bytes)) = some (some (.agg #[.int .i64 0, .string ⟨#[]⟩, .string ⟨#[]⟩, .slice none 0 0, .string ⟨#[]⟩]), 5, 80) := by kernel_rfl
theorem five_cells (w : World) (T : TypeId) (c0 c1 c2 c3 c4 : Value) (b : Nat) (hb : b = w.heap.size) : ∀ j u, [c0, c1, c2, c3, c4][j]? = some u → (w.alloc (.cells #[c0, c1, c2, c3, c4] T)).cell? ((⟨b, 0, none⟩ : Addr).add j) = some u := by
  subst hb
  intro j u hj
  rw [Addr.add_lit]
  match j, hj with
  | 0, hj | 1, hj | 2, hj | 3, hj | 4, hj => simp at hj; subst hj; simp
  | j + 5, hj => simp at hj
theorem five_one {t : Int} {k u s : ByteArray} {a : Option Addr} {l c : Nat} : ∀ v ∈ [Value.int .i64 t, .string k, .string u, .slice a l c, .string s], v.oneCell' = true := by
  intro v hv
  simp at hv
  rcases hv with rfl | rfl | rfl | rfl | rfl <;> rfl
/-- The row o, from the row o2 on: what lay there and was not that row is as it was. -/
def Apart (w2 : World) (o2 : Value) (w : World) (o : Value) : Prop := w2.heap.size ≤ w.heap.size ∧ (∀ j, j < w2.heap.size → j ∉ o2.ownBlock.toList → w.heap[j]? = w2.heap[j]?) ∧ (o.ownBlock = o2.ownBlock ∨ ∀ g ∈ o.ownBlock.toList, w2.heap.size ≤ g)
theorem Apart.refl (w : World) (o : Value) : Apart w o w o := ⟨Nat.le_refl _, fun _ _ _ => rfl, Or.inl rfl⟩
theorem Apart.below {w2 w w' : World} {o2 o : Value} (h : Apart w2 o2 w o) (k : Below w.heap.size w w') : Apart w2 o2 w' o :=
  ⟨Nat.le_trans h.1 k.size, fun j hj hn => (k.block j (Nat.lt_of_lt_of_le hj h.1)).trans (h.2.1 j hj hn), h.2.2⟩
theorem Apart.grown {w2 w w' : World} {o2 o o' : Value} (h : Apart w2 o2 w o) (hg : w.grownBy w' o.ownBlock) (hm : Moved w o o') : Apart w2 o2 w' o' := by
  refine ⟨Nat.le_trans h.1 hg.size, fun j hj hn => ?_, ?_⟩
  · refine (hg.block j (Nat.lt_of_lt_of_le hj h.1) (fun e => ?_)).trans (h.2.1 j hj hn)
    rcases h.2.2 with h3 | h3
    · rw [h3] at e; exact hn (by rw [← e]; simp)
    · have := h3 j (by rw [← e]; simp); omega
  · rcases hm with hm | hm
    · rw [hm]; exact h.2.2
    · exact Or.inr (fun g hg' => Nat.le_trans h.1 (hm g hg'))
theorem ownsRow_from {w : World} {base : Nat} {e : TypeId} {k : Nat} {v : Value} {n : Nat} {xs : List Value} (h : w.ownsRow 0 e k v n xs) (hb : ∀ j ∈ v.ownBlock.toList, base ≤ j) : w.ownsRow base e k v n xs := by
  obtain ⟨q1, q2⟩ := h
  rcases q2 with ⟨rfl, q2⟩ | ⟨g, cap, cur, rfl, q2, q3⟩
  · exact ⟨q1, Or.inl ⟨rfl, q2⟩⟩
  · exact ⟨q1, Or.inr ⟨g, cap, cur, rfl, hb g (by simp [Value.ownBlock]), q3⟩⟩
theorem dmI_take {n : Nat} {its : Its (n + 1)} {k : Nat} (h : k < its.length) : dmI (its.take (k + 1)) = dmI (its.take k) ++ (wordsL its[k]).map dmY := by
  unfold dmI
  rw [List.take_succ_eq_append_getElem h, List.map_append, List.flatten_append]
  simp
theorem dmI_len {n : Nat} : ∀ (its : Its (n + 1)), (∀ s ∈ its, s.length ≤ 24) → (dmI its).length ≤ 24 * its.length
  | [], _ => by simp [dmI]
  | s :: l, h => by
    have h1 : (wordsL s).length ≤ s.length := List.length_filter_le _ _
    have h2 := h s List.mem_cons_self
    have h3 := dmI_len l (fun t ht => h t (List.mem_cons_of_mem _ ht))
    unfold dmI at h3 ⊢
    rw [List.map_cons, List.flatten_cons, List.length_append, List.length_map, List.length_cons]
    omega
set_option maxRecDepth 20000 in
set_option maxHeartbeats 2000000 in
theorem demandsInParts_any (n : Nat) (F : Nat → Prop) (w : World) (v : Value) (its : Its (n + 1)) (h : RdI w F (n + 1) v its) (hF : ∀ j, F j → j < w.heap.size) (hl : its.length ≤ 8) (hs : ∀ s ∈ its, s.length ≤ 24) :
    Calls Tryz.prog 214 #[v] w fun e w' => ∃ v' xs, e = .returned v' ∧ Below w.heap.size w w' ∧ w'.ownsRow w.heap.size 187 5 v' (dmI its).length xs ∧ Ls 5 CpD xs (dmI its) [] := by
  obtain ⟨ad, cap, rfl⟩ := h.slice
  obtain ⟨i0, hi0, hz0, hz1, hz2⟩ := info_parts info_demand
  have HI := hid hi0
  have H := hid h
  have HF := hid hF
  have HS := hid hs
  clear hi0 h hF hs
  go_enter Tryz.func214, Tryz.ntmps214
  go_wp2_with fail
  go_loopw [3, 10] (fun o i wr => ∃ (k : Nat) (xs : List Value), k ≤ its.length ∧ i = .int .i64 k ∧ Hid (wr.ownsRow w.heap.size 187 5 o (dmI (its.take k)).length xs) ∧ Hid (Ls 5 CpD xs (dmI (its.take k)) []) ∧ Hid (Below w.heap.size w wr)) (fun _ i _ => its.length - (intOf i).toNat)
  case atStart => exact ⟨0, [], Nat.zero_le _, rfl, World.ownsRow_nil _ _ _ _, ⟨rfl, rfl⟩, Below.refl _ _⟩
  case round =>
    obtain ⟨k, xs, hk, rfl, hown, hls, hU⟩ := hrel
    by_cases hkl : k < its.length
    · have hat := hid ((H.out.up hU.out).at (List.getElem?_eq_getElem hkl))
      obtain ⟨a, ad2, cap2, rfl, _, c0, hrd⟩ := hat.out
      have hsl := HS.out _ (List.getElem_mem hkl)
      have hst := hid (dmI_take hkl)
      have hrd2 := hid hrd
      have hlen := hid (show (dmI (its.take k)).length ≤ 192 from Nat.le_trans (dmI_len _ (fun s hs => HS.out s (List.mem_of_mem_take hs))) (by rw [List.length_take]; omega))
      clear hrd hat
      generalize its[k] = s at c0 hrd2 hst hsl
      generalize dmI (its.take k) = done at hown hls hst hlen
      have u0 : Below wr.heap.size wr (wr.alloc (.cells #[.slice ad2 s.length cap2] 182)) := Below.alloc (Below.refl _ _) (Nat.le_refl _) _
      go_wp2_with fail
      go_at_call 216
      refine (wordsOf_any n F _ _ s (hrd2.out.up u0) hsl).mono ?_
      rintro e w2 ⟨v2, rfl, u2, r2, n2⟩
      obtain ⟨ad3, cap3, rfl⟩ := r2.slice
      have u02 := u0.trans (u2.mono u0.size)
      have U2 := hid (hU.out.trans (u02.mono hU.out.size))
      have O2 := hid (ownsRow_keep hown.out (w' := w2) (fun j hj => u02.block j (ownsRow_lt hown.out j hj)))
      have hO := hid (fun j (hj : j ∈ (Value.ownBlock u3).toList) => (hown.out.lt j (by simpa using hj)).1)
      have hO2 := hid (fun j (hj : j ∈ (Value.ownBlock u3).toList) => ownsRow_lt hown.out j hj)
      have hb0 := hid (fun j (hj : j ∈ (Value.slice ad3 (wordsL s).length cap3).ownBlock.toList) => (n2.2 j hj).1)
      have hRW := hid (rd_cp (F' := fun j => F j ∨ j ∈ (Value.slice ad3 (wordsL s).length cap3).ownBlock.toList) r2 u2 (fun j hj => Or.inl hj) (fun j hj => Or.inr hj))
      have hwl : (wordsL s).length ≤ 24 := Nat.le_trans (List.length_filter_le _ _) hsl
      have hno : Hid (∀ j, (F j ∨ j ∈ (Value.slice ad3 (wordsL s).length cap3).ownBlock.toList) → j ∉ (Value.ownBlock u3).toList) := fun j hj hn => by
        rcases hj with hj | hj
        · have := HF.out j hj
          have := hO.out j hn
          omega
        · have h1 := hb0.out j hj
          have := hO2.out j hn
          simp at h1
          omega
      have L2 := hls
      clear u0 u2 u02 r2 n2 hown hls c0 hrd2 hO2 hb0
      generalize wordsL s = ws at hst hRW hwl hno
      go_wp2_with fail
      go_loopw [3, 18] (fun o i wq => ∃ (q : Nat) (ys : List Value), q ≤ ws.length ∧ i = .int .i64 q ∧ Hid (wq.ownsRow 0 187 5 o (done ++ (ws.take q).map dmY).length ys) ∧ Hid (Ls 5 CpD ys (done ++ (ws.take q).map dmY) []) ∧ Hid (∀ j ∈ o.ownBlock.toList, w.heap.size ≤ j) ∧ Hid (Apart w2 u3 wq o) ∧ Hid (Below w.heap.size w wq)) (fun _ i _ => ws.length - (intOf i).toNat)
      case atStart =>
        refine ⟨0, xs, Nat.zero_le _, rfl, ?_, ?_, hO, Apart.refl _ _, U2⟩
        · unfold Hid
          rw [List.take_zero, List.map_nil, List.append_nil]
          exact ownsRow_low O2.out
        · unfold Hid
          rw [List.take_zero, List.map_nil, List.append_nil]
          exact L2.out
      case round =>
        obtain ⟨q, ys, hq, rfl, hown, hls, hOq, hA, hV⟩ := hrel
        by_cases hql : q < ws.length
        · have hat := hid ((hRW.out.keep (w' := wr) (fun _ h => h) (fun j hj hlt => hA.out.2.1 j hlt (hno.out j hj))).at (List.getElem?_eq_getElem hql))
          obtain ⟨a4, ad4, cap4, e4, _, g0, g1, g2, g3, _⟩ := hat.out
          subst e4
          have hsq := hid (show done ++ (ws.take (q + 1)).map dmY = (done ++ (ws.take q).map dmY) ++ [dmY ws[q]] by rw [List.take_succ_eq_append_getElem hql, List.map_append, List.append_assoc]; rfl)
          have hlq := hid (show (done ++ (ws.take q).map dmY).length ≤ 216 by rw [List.length_append, List.length_map, List.length_take]; have := hlen.out; omega)
          clear hat
          generalize ws[q] = y at g0 g1 g2 g3 hsq
          generalize done ++ (ws.take q).map dmY = dq at hown hls hsq hlq
          have hXc := (Four.new wr (.int .i64 y.1) (.string (bs y.2.1)) (.string (bs y.2.2.1)) (.slice ad4 y.2.2.2.length cap4)).cells
          obtain ⟨⟨x0, x1, x2, x3⟩, _⟩ := hXc
          have V1 := hid (Below.alloc hV.out hV.out.size (.cells #[.int .i64 y.1, .string (bs y.2.1), .string (bs y.2.2.1), .slice ad4 y.2.2.2.length cap4] 73))
          have O1 := hid (hown.out.alloc (.cells #[.int .i64 y.1, .string (bs y.2.1), .string (bs y.2.2.1), .slice ad4 y.2.2.2.length cap4] 73))
          have A1 := hid ((hA.out.below (Below.alloc (Below.refl _ wr) (Nat.le_refl _) (.cells #[.int .i64 y.1, .string (bs y.2.1), .string (bs y.2.2.1), .slice ad4 y.2.2.2.length cap4] 73))).below (Below.alloc (Below.refl _ _) (Nat.le_refl _) (.cells #[.int .i64 y.1, .string (bs y.2.1), .string (bs y.2.2.1), .slice ad4 y.2.2.2.length cap4, .string ⟨#[76, 79]⟩] 187)))
          go_wp2_with (at_builtin; refine wpList_append_sep _ rfl _ _ 183 rfl 187 i0 _ 5 80 Tryz.underlying183 HI.out hz0 hz1 hz2 rfl (by decide) _ _ _ rfl (O1.out.alloc _) ⟨wr.heap.size + 1, 0, none⟩ 1 1 [.int .i64 y.1, .string (bs y.2.1), .string (bs y.2.2.1), .slice ad4 y.2.2.2.length cap4, .string ⟨#[76, 79]⟩] rfl rfl (five_cells _ _ _ _ _ _ _ _ (by simp)) five_one (by have := hlq.out; unfold maxLen; omega) (by have := hlq.out; omega) ?_)
          intro v' w3 hown' hg hv
          have A3 := hid (A1.out.grown hg hv)
          have O3 := hid hown'
          have B3 : Hid (∀ j ∈ v'.ownBlock.toList, w.heap.size ≤ j) := fun j hj => by
            rcases hv with hv | hv
            · exact hOq.out j (by rw [← hv]; exact hj)
            · have h1 := hv j hj
              have h2 := V1.out.size
              simp only [World.size_alloc] at h1 h2
              omega
          have V3 := hid (Below.grown (Below.alloc V1.out V1.out.size _) hg (Nat.le_trans V1.out.size (by simp)) (fun k hk => hOq.out k (by rw [hk]; simp)))
          clear hown' hg hv
          go_wp2
          go_roundw
          case rel =>
            refine ⟨q + 1, ys ++ [.int .i64 y.1, .string (bs y.2.1), .string (bs y.2.2.1), .slice ad4 y.2.2.2.length cap4, .string ⟨#[76, 79]⟩], by omega, by go_num, ?_, ?_, B3, A3, V3⟩
            · unfold Hid
              rw [hsq.out, List.length_append]
              exact O3.out
            · unfold Hid
              rw [hsq.out]
              exact Ls.snoc (k := 5) (R := CpD) (c := [.int .i64 y.1, .string (bs y.2.1), .string (bs y.2.2.1), .slice ad4 y.2.2.2.length cap4, .string ⟨#[76, 79]⟩]) (b := []) rfl ⟨rfl, _, _, _, _, rfl⟩ hls.out
          case measure => simp [intOf]; omega
        · have hall : done ++ (ws.take q).map dmY = dmI (its.take (k + 1)) := by rw [hst.out, List.take_of_length_le (by omega)]
          have O := hid hown.out
          have L := hid hls.out
          rw [hall] at O L
          clear hown hls hall
          go_wp2
          go_roundw
          case rel => exact ⟨k + 1, ys, by omega, by go_num, ownsRow_from O.out hOq.out, L, hV⟩
          case measure => simp [intOf]; omega
    · have hall : dmI (its.take k) = dmI its := by rw [List.take_of_length_le (by omega)]
      have O := hid hown.out
      have L := hid hls.out
      rw [hall] at O L
      clear hown hls hall
      go_wp2
      go_ret
      exact ⟨_, xs, rfl, hU.out, O.out, L.out⟩
theorem cpd_one : ∀ {xs : List Value} {l : List Dm} {b : List Nat}, Ls 5 CpD xs l b → ∀ u ∈ xs, u.oneCell' = true
  | xs, [], b, h, u, hu => by obtain ⟨rfl, _⟩ := h; cases hu
  | xs, d :: l, b, h, u, hu => by
    obtain ⟨c, ys, b', cs, rfl, _, ⟨_, t, ad, len, cap, rfl⟩, h2, _⟩ := h
    rcases List.mem_append.1 hu with hu | hu
    · exact five_one u hu
    · exact cpd_one h2 u hu
theorem Ls.app {α : Type} {k : Nat} {R : List Value → α → List Nat → Prop} {ys : List Value} {m : List α} {cs : List Nat} (h2 : Ls k R ys m cs) : ∀ {l : List α} {xs : List Value} {b : List Nat}, Ls k R xs l b → Ls k R (xs ++ ys) (l ++ m) (b ++ cs)
  | [], xs, b, h => by
    obtain ⟨rfl, rfl⟩ := h
    simpa using h2
  | x :: l, xs, b, h => by
    obtain ⟨c, zs, b', ds, rfl, e2, h1, h3, rfl⟩ := h
    exact ⟨c, zs ++ ys, b', ds ++ cs, by simp, e2, h1, Ls.app h2 h3, by simp⟩
/-- 'append' of all of a row of one's own. -/
theorem wpList_append_row {P : Program} (w : World) {ops : Array Oper} {rest : List Oper} {o : Oper} {a : Act} {Q : Exit → Act → World → Prop}
    (hg : o.guard = none) (s x : Operand) (t : TypeId) (hop : o.op = Op.call { callee := Callee.builtin Builtin.append, args := #[s, x], argTypes := #[t, t] })
    (base : Nat) (e : TypeId) (i : TypeInfo) (z : Value) (size bytes : Nat) (h1 : P.underlying t = some (.slice e)) (h2 : P.info? e = some i) (h3 : i.zero = some z) (h4 : i.size = size) (h5 : i.bytes = bytes) (h6 : z.cells.size = size) (h7 : 0 < size)
    (v : Value) (n : Nat) (xs : List Value) (hs : a.eval s = v) (hown : w.ownsRow base e size v n xs)
    (v2 : Value) (m b2 : Nat) (ys : List Value) (hx : a.eval x = v2) (hown2 : w.ownsRow b2 e size v2 m ys) (h1c : ∀ u ∈ ys, u.oneCell' = true)
    (k1 : n + m ≤ maxLen) (k2 : (n + m) * bytes ≤ 140737488355328) (hbase : base ≤ w.heap.size)
    (hK : ∀ v' w', w'.ownsRow base e size v' (n + m) (xs ++ ys) → w.grownBy w' v.ownBlock → wpList P ops Q rest (a.put o.dst v') w') :
    wpList P ops Q (o :: rest) a w := by
  obtain ⟨q1, q2⟩ := id hown2
  rcases q2 with ⟨rfl, rfl⟩ | ⟨g, cap, cur, rfl, _⟩
  · obtain rfl : ys = [] := List.eq_nil_of_length_eq_zero (by simpa using q1)
    exact wpList_append_own_none hg s x t hop base e i size h1 h2 v n xs hs hown hx (hK v w (by simpa using hown) (World.grownBy.refl _ _))
  · refine wpList_append_own w hg s x t hop base e i z size bytes h1 h2 h3 h4 h5 h6 h7 v n xs hs hown ⟨g, 0, none⟩ m cap ys hx q1 (fun j u hu => ?_) h1c k1 k2 hbase (fun v' w' r1 r2 _ => hK v' w' r1 r2)
    have hj := (List.getElem?_eq_some_iff.1 hu).1
    rw [Addr.add_lit, Nat.zero_add, hown2.cellAt j (by omega)]
    exact hu
theorem dms_take {n : Nat} {l : List (El (n + 2))} {k : Nat} (h : k < l.length) : dms (l.take (k + 1)) = dms (l.take k) ++ dmE l[k] := by
  unfold dms
  rw [List.take_succ_eq_append_getElem h, List.map_append, List.flatten_append]
  simp
theorem dmE_len {n : Nat} (x : El (n + 2)) (h1 : x.2.2.2.length ≤ 8) (h2 : ∀ s ∈ x.2.2.2, s.length ≤ 24) : (dmE x).length ≤ 193 := by
  have h3 := dmI_len _ h2
  unfold dmE
  rw [List.length_append]
  have a1 : (if kindT x.1 = [] then [] else [(x.2.1, x.2.2.1, kindT x.1)] : List Dm).length ≤ 1 := by split <;> simp
  have a2 : (if x.1 = 533016 then dmI x.2.2.2 else []).length ≤ 192 := by
    split
    · omega
    · simp
  omega
theorem dms_len {n : Nat} : ∀ (l : List (El (n + 2))), (∀ x ∈ l, x.2.2.2.length ≤ 8 ∧ ∀ s ∈ x.2.2.2, s.length ≤ 24) → (dms l).length ≤ 193 * l.length
  | [], _ => by simp [dms]
  | x :: l, h => by
    have h1 := dmE_len x (h x List.mem_cons_self).1 (h x List.mem_cons_self).2
    have h3 := dms_len l (fun t ht => h t (List.mem_cons_of_mem _ ht))
    unfold dms at h3 ⊢
    rw [List.map_cons, List.flatten_cons, List.length_append, List.length_cons]
    omega
set_option maxRecDepth 20000 in
set_option maxHeartbeats 2000000 in
theorem demands_any (n : Nat) (F : Nat → Prop) (w : World) (v : Value) (l : List (El (n + 2))) (h : Rd w F (n + 2) v l) (hF : ∀ j, F j → j < w.heap.size) (hl : l.length ≤ 24) (hx : ∀ x ∈ l, x.2.2.2.length ≤ 8 ∧ ∀ s ∈ x.2.2.2, s.length ≤ 24) :
    Calls Tryz.prog 151 #[v] w fun e w' => ∃ v' xs, e = .returned v' ∧ Below w.heap.size w w' ∧ w'.ownsRow w.heap.size 187 5 v' (dms l).length xs ∧ Ls 5 CpD xs (dms l) [] := by
  obtain ⟨ad, cap, rfl⟩ := h.slice
  obtain ⟨i0, hi0, hz0, hz1, hz2⟩ := info_parts info_demand
  have HI := hid hi0
  have H := hid h
  have HF := hid hF
  have HX := hid hx
  clear hi0 h hF hx
  go_enter Tryz.func151, Tryz.ntmps151
  go_wp2_with fail
  go_loopw [3, 9] (fun o i wr => ∃ (k : Nat) (xs : List Value), k ≤ l.length ∧ i = .int .i64 k ∧ Hid (wr.ownsRow w.heap.size 187 5 o (dms (l.take k)).length xs) ∧ Hid (Ls 5 CpD xs (dms (l.take k)) []) ∧ Hid (Below w.heap.size w wr)) (fun _ i _ => l.length - (intOf i).toNat)
  case atStart => exact ⟨0, [], Nat.zero_le _, rfl, World.ownsRow_nil _ _ _ _, ⟨rfl, rfl⟩, Below.refl _ _⟩
  case round =>
    obtain ⟨k, xs, hk, rfl, hown, hls, hU⟩ := hrel
    by_cases hkl : k < l.length
    · have hat := hid (H.out.at (List.getElem?_eq_getElem hkl))
      obtain ⟨a, ad2, cap2, rfl, _, d0, d1, d2, d3, hrd⟩ := hat.out
      have c0 := hU.out.cell (World.block_lt_of_cell? _ _ d0) |>.trans d0
      have c1 := hU.out.cell (World.block_lt_of_cell? _ _ d1) |>.trans d1
      have c2 := hU.out.cell (World.block_lt_of_cell? _ _ d2) |>.trans d2
      have c3 := hU.out.cell (World.block_lt_of_cell? _ _ d3) |>.trans d3
      have hrd2 := hid hrd
      have hst := hid (dms_take hkl)
      have hxk := hid (HX.out _ (List.getElem_mem hkl))
      have hlen := hid (show (dms (l.take k)).length ≤ 4632 from Nat.le_trans (dms_len _ (fun s hs => HX.out s (List.mem_of_mem_take hs))) (by rw [List.length_take]; omega))
      clear hrd hat d0 d1 d2 d3
      generalize l[k] = x at c0 c1 c2 c3 hrd2 hst hxk
      generalize dms (l.take k) = done at hown hls hst hlen
      have hX := Four.new wr (.int .i64 x.1) (.string (bs x.2.1)) (.string (bs x.2.2.1)) (.slice ad2 x.2.2.2.length cap2)
      obtain ⟨⟨x0, x1, x2, x3⟩, _⟩ := hX.cells
      have HX4 := hid hX
      have U1 := hid (Below.alloc hU.out hU.out.size (.cells #[.int .i64 x.1, .string (bs x.2.1), .string (bs x.2.2.1), .slice ad2 x.2.2.2.length cap2] 73))
      have O1 := hid (hown.out.alloc (.cells #[.int .i64 x.1, .string (bs x.2.1), .string (bs x.2.2.1), .slice ad2 x.2.2.2.length cap2] 73))
      have hOl := hid (ownsRow_lt hown.out)
      clear hX
      go_wp2_with fail
      go_at_call 178
      refine (kindOf_any _ x.1).mono ?_
      rintro e w1 ⟨rfl, rfl⟩
      have e1 := bs_toList (kindT x.1)
      by_cases hkd : kindT x.1 = []
      · have ht : x.1 ≠ 533016 := fun e => by rw [e] at hkd; exact absurd hkd (by decide)
        have htb : (x.1 == 533016) = false := by simpa using ht
        have hst2 := hid (show dms (l.take (k + 1)) = done by rw [hst.out, dmE, if_pos hkd, if_neg ht]; simp)
        rw [hkd] at e1 ⊢
        clear hst hkd ht
        go_wp2
        go_roundw
        case rel =>
          refine ⟨k + 1, xs, by omega, by go_num, ?_, ?_, U1⟩
          · unfold Hid; rw [hst2.out]; exact O1.out
          · unfold Hid; rw [hst2.out]; exact hls.out
        case measure => simp [intOf]; omega
      · have hkb : (kindT x.1 == []) = false := by simpa using hkd
        have hke : (kindT x.1).isEmpty = false := by cases hc : kindT x.1 with | nil => exact absurd hc hkd | cons _ _ => rfl
        have hst2 := hid (show dms (l.take (k + 1)) = (done ++ [(x.2.1, x.2.2.1, kindT x.1)]) ++ (if x.1 = 533016 then dmI x.2.2.2 else []) by rw [hst.out, dmE, if_neg hkd, List.append_assoc])
        clear hst hkd
        generalize kindT x.1 = kk at e1 hkb hke hst2
        go_wp2_with (at_builtin; refine wpList_append_own _ rfl _ _ 183 rfl w.heap.size 187 i0 _ 5 80 Tryz.underlying183 HI.out hz0 hz1 hz2 rfl (by decide) _ _ _ rfl (O1.out.alloc _) ⟨wr.heap.size + 1, 0, none⟩ 1 1 [.int .i64 x.1, .string (bs x.2.1), .string (bs x.2.2.1), .slice ad2 x.2.2.2.length cap2, .string (bs kk)] rfl rfl (five_cells _ _ _ _ _ _ _ _ (by simp)) five_one (by have := hlen.out; unfold maxLen; omega) (by have := hlen.out; omega) (by have := U1.out.size; simp only [World.size_alloc] at this ⊢; omega) ?_)
        intro v3 w3 hown3 hg3 _
        have U3 := hid (up_grow U1.out O1.out _ hg3)
        have O3 := hid hown3
        have L3 := hid (Ls.snoc (k := 5) (R := CpD) (c := [.int .i64 x.1, .string (bs x.2.1), .string (bs x.2.2.1), .slice ad2 x.2.2.2.length cap2, .string (bs kk)]) (b := []) (x := (x.2.1, x.2.2.1, kk)) rfl ⟨rfl, _, _, _, _, rfl⟩ hls.out)
        have X3 := HX4.out.keep ((hg3.block _ (by simp; omega) (fun e => by have := hOl.out wr.heap.size (by rw [← e]; simp); omega)).trans (Below.heap_alloc _ _ _ (by simp)))
        obtain ⟨⟨y0, y1, y2, y3⟩, _⟩ := X3.cells
        clear hown3 hg3 X3 x0 x1 x2 x3 c0 c1 c2 c3 HX4 hOl
        have hl3 : (done ++ [(x.2.1, x.2.2.1, kk)]).length = done.length + 1 := by simp
        have hlt : wr.heap.size < w3.heap.size := World.block_lt_of_cell? _ _ y0
        by_cases ht : x.1 = 533016
        · have htb : (x.1 == 533016) = true := by simpa using ht
          have hst3 := hid (hst2.out.trans (by rw [if_pos ht]))
          have hdl := dmI_len _ hxk.out.2
          have hd8 := hxk.out.1
          clear hst2 ht
          go_wp2_with fail
          go_at_call 214
          refine (demandsInParts_any n F w3 _ x.2.2.2 (hrd2.out.up U3.out) (fun j hj => Nat.lt_of_lt_of_le (HF.out j hj) U3.out.size) hxk.out.1 hxk.out.2).mono ?_
          rintro e w4 ⟨v4, ys, rfl, u4, o4, l4⟩
          have O4 := hid (ownsRow_keep O3.out (w' := w4) (fun j hj => u4.block j (ownsRow_lt O3.out j hj)))
          have U4 := hid (U3.out.trans (u4.mono U3.out.size))
          have P4 := hid o4
          have L4 := hid l4
          clear u4 o4 l4
          generalize dmI x.2.2.2 = di at hst3 hdl P4 L4
          go_wp2_with (at_builtin; refine wpList_append_row _ rfl _ _ 183 rfl w.heap.size 187 i0 _ 5 80 Tryz.underlying183 HI.out hz0 hz1 hz2 rfl (by decide) _ _ _ rfl O4.out _ di.length w3.heap.size ys rfl P4.out (cpd_one L4.out) (by have := hlen.out; unfold maxLen; omega) (by have := hlen.out; omega) (by have := U4.out.size; omega) ?_)
          intro v5 w5 hown5 hg5
          have U5 := hid (up_append4 U4.out O4.out hg5)
          have O5 := hid hown5
          clear hown5 hg5
          go_wp2
          go_roundw
          case rel =>
            refine ⟨k + 1, (xs ++ [.int .i64 x.1, .string (bs x.2.1), .string (bs x.2.2.1), .slice ad2 x.2.2.2.length cap2, .string (bs kk)]) ++ ys, by omega, by go_num, ?_, ?_, U5⟩
            · unfold Hid; rw [hst3.out, List.length_append, hl3, List.append_assoc]; exact O5.out
            · unfold Hid; rw [hst3.out]; exact Ls.app L4.out L3.out
          case measure => simp [intOf]; omega
        · have htb : (x.1 == 533016) = false := by simpa using ht
          have hst3 := hid (hst2.out.trans (by rw [if_neg ht, List.append_nil]))
          clear hst2 ht
          go_wp2
          go_roundw
          case rel =>
            refine ⟨k + 1, xs ++ [.int .i64 x.1, .string (bs x.2.1), .string (bs x.2.2.1), .slice ad2 x.2.2.2.length cap2, .string (bs kk)], by omega, by go_num, ?_, ?_, U3⟩
            · unfold Hid; rw [hst3.out, hl3]; exact O3.out
            · unfold Hid; rw [hst3.out]; exact L3.out
          case measure => simp [intOf]; omega
    · have hall : dms (l.take k) = dms l := by rw [List.take_of_length_le (by omega)]
      have O := hid hown.out
      have L := hid hls.out
      rw [hall] at O L
      clear hown hls hall
      go_wp2
      go_ret
      exact ⟨_, xs, rfl, hU.out, O.out, L.out⟩
end Go.Proofs.YtaokifbpakbgdaaGreatDoor

/- What follows for a data set in which nothing is wrong (no program). -/
namespace Go.Proofs.YtaokifbpakbgdaaGreatDoor

theorem errE_props {n : Nat} {g : Its n → Int} {d : Nat} {b : Int} {x : El (n + 1)} (h : errE g d b x = 0) :
    isK x.2.1 = true ∧ (0 ≤ x.1 ∧ x.1 ≤ 4294967295 ∧ b < x.1) ∧ x.2.2.1.length ≤ 64 ∧ (x.2.1 ≠ SQ → x.2.2.2 = []) ∧ (x.2.1 = SQ → x.2.2.1 = []) ∧ x.2.2.2.length ≤ 8 ∧ g x.2.2.2 = 0 := by
  unfold errE at h
  by_cases h1 : isK x.2.1 = false
  · rw [if_pos h1] at h; cases h
  rw [if_neg h1] at h
  by_cases h2 : x.1 < 0 ∨ 4294967295 < x.1 ∨ x.1 / 65536 = 65534 ∨ x.1 ≤ b
  · rw [if_pos h2] at h; cases h
  rw [if_neg h2] at h
  by_cases h3 : 64 < x.2.2.1.length ∨ x.2.2.1.getLast? = some (padB x.2.1)
  · rw [if_pos h3] at h; cases h
  rw [if_neg h3] at h
  by_cases h4 : (x.2.1 = SQ ∧ x.2.2.1 ≠ []) ∨ (x.2.1 ≠ SQ ∧ x.2.2.2 ≠ [])
  · rw [if_pos h4] at h; cases h
  rw [if_neg h4] at h
  by_cases h5 : 8 < x.2.2.2.length
  · rw [if_pos h5] at h; cases h
  rw [if_neg h5] at h
  by_cases h6 : x.2.1 = SQ ∧ 2 ≤ d
  · rw [if_pos h6] at h; cases h
  rw [if_neg h6] at h
  refine ⟨by simpa using h1, ⟨by omega, by omega, by omega⟩, ?_, fun e => ?_, fun e => ?_, by omega, h⟩
  · have : ¬ 64 < x.2.2.1.length := fun h => h3 (Or.inl h)
    omega
  · exact Decidable.byContradiction fun c => h4 (Or.inr ⟨e, c⟩)
  · exact Decidable.byContradiction fun c => h4 (Or.inl ⟨e, c⟩)
theorem errL_props {n : Nat} {g : Its n → Int} {d : Nat} : ∀ {l : List (El (n + 1))} {b : Int}, errL (errE g d) (fun x => x.1) b l = 0 → (∀ x ∈ l, b < x.1 ∧ ∃ b', errE g d b' x = 0) ∧ l.Pairwise (fun x y => x.1 < y.1)
  | [], _, _ => ⟨(fun x hx => nomatch hx), List.Pairwise.nil⟩
  | x :: l, b, h => by
    rw [errL] at h
    by_cases he : errE g d b x = 0
    · rw [if_pos he] at h
      obtain ⟨h1, h2⟩ := errL_props h
      have h3 := (errE_props he).2.1.2.2
      refine ⟨fun y hy => ?_, List.pairwise_cons.2 ⟨fun y hy => (h1 y hy).1, h2⟩⟩
      rcases List.mem_cons.1 hy with rfl | hy
      · exact ⟨h3, b, he⟩
      · exact ⟨by have := (h1 y hy).1; omega, (h1 y hy).2⟩
    · rw [if_neg he] at h
      exact absurd h he
theorem errI_props {α : Type} {f : List α → Int} : ∀ {l : List (List α)}, errI f l = 0 → ∀ s ∈ l, f s = 0
  | [], _, s, hs => nomatch hs
  | t :: l, h, s, hs => by
    rw [errI] at h
    by_cases he : f t = 0
    · rw [if_pos he] at h
      rcases List.mem_cons.1 hs with rfl | hs
      · exact he
      · exact errI_props h s hs
    · rw [if_neg he] at h
      exact absurd h he
theorem errS_props {n d : Nat} {l : List (El (n + 1))} (h : errS (n + 1) d l = 0) : l.length ≤ 24 ∧ l.Pairwise (fun x y => x.1 < y.1) ∧ ∀ x ∈ l, isK x.2.1 = true ∧ (0 ≤ x.1 ∧ x.1 ≤ 4294967295) ∧ x.2.2.1.length ≤ 64 ∧ (x.2.1 ≠ SQ → x.2.2.2 = []) ∧ (x.2.1 = SQ → x.2.2.1 = []) ∧ x.2.2.2.length ≤ 8 ∧ ∀ s ∈ x.2.2.2, errS n (d + 1) s = 0 := by
  rw [errS] at h
  by_cases h1 : 24 < l.length
  · rw [if_pos h1] at h; cases h
  rw [if_neg h1] at h
  obtain ⟨h2, h3⟩ := errL_props h
  refine ⟨by omega, h3, fun x hx => ?_⟩
  obtain ⟨_, b', he⟩ := h2 x hx
  obtain ⟨p1, p2, p3, p4, p5, p6, p7⟩ := errE_props he
  exact ⟨p1, ⟨p2.1, p2.2.1⟩, p3, p4, p5, p6, errI_props p7⟩
/-- What is asked of a data set that is looked at as a description. -/
def Sane {n : Nat} (l : List (El (n + 2))) : Prop := l.length ≤ 24 ∧ ∀ x ∈ l, x.2.2.1.length ≤ 64 ∧ x.2.2.2.length ≤ 8 ∧ ∀ s ∈ x.2.2.2, s.length ≤ 24 ∧ ∀ y ∈ s, y.2.2.1.length ≤ 64
theorem sane_of {n d : Nat} {l : List (El (n + 2))} (h : errS (n + 2) d l = 0) : Sane l := by
  obtain ⟨h1, _, h2⟩ := errS_props (n := n + 1) h
  refine ⟨h1, fun x hx => ?_⟩
  obtain ⟨_, _, p3, _, _, p6, p7⟩ := h2 x hx
  refine ⟨p3, p6, fun s hs => ?_⟩
  obtain ⟨q1, _, q2⟩ := errS_props (n := n) (p7 s hs)
  exact ⟨q1, fun y hy => (q2 y hy).2.2.1⟩
end Go.Proofs.YtaokifbpakbgdaaGreatDoor

/- Package archive: the elements are held against what is demanded of them: isOfOtherKind, isNoValue, slices.IndexFunc and slices.ContainsFunc over them, checkElements. -/
namespace Go.Proofs.YtaokifbpakbgdaaGreatDoor
open Go.RowKit

def kindBad (d : Dm) : Bool := !(d.1 == d.2.2)
def valBad (d : Dm) : Bool := !(d.2.2 == SQ) && decide (chk d.2.2 d.2.1 ≠ 0)
/-- The value of a demand. -/
def dmV (d : Dm) (t : Int) (ad : Option Addr) (len cap : Nat) : Value := .agg #[.int .i64 t, .string (bs d.1), .string (bs d.2.1), .slice ad len cap, .string (bs d.2.2)]
theorem isOfOtherKind_any (w : World) (d : Dm) (t : Int) (ad : Option Addr) (len cap : Nat) :
    Calls Tryz.prog 153 #[dmV d t ad len cap] w fun e w' => e = .returned (.bool (kindBad d)) ∧ Below w.heap.size w w' := by
  have e1 := bs_toList d.1
  have e2 := bs_toList d.2.2
  unfold dmV
  go_enter Tryz.func153, Tryz.ntmps153
  go_wp2
  go_ret
  exact ⟨rfl, Below.alloc (Below.refl _ _) (Nat.le_refl _) _⟩
set_option maxRecDepth 20000 in
theorem isNoValue_any (w : World) (d : Dm) (t : Int) (ad : Option Addr) (len cap : Nat) (hd : d.2.1.length ≤ 64) (hv : Vars w) :
    Calls Tryz.prog 154 #[dmV d t ad len cap] w fun e w' => e = .returned (.bool (valBad d)) ∧ Below w.heap.size w w' := by
  have e2 := bs_toList d.2.2
  have C := hid (fun (W : World) (h : Vars W) => Check_any (bs d.2.2) (bs d.2.1) W (by rw [bs_size]; omega) h)
  have U0 := hid (Below.alloc (Below.refl w.heap.size w) (Nat.le_refl _) (.cells #[.int .i64 t, .string (bs d.1), .string (bs d.2.1), .slice ad len cap, .string (bs d.2.2)] 187))
  have HV := hid hv
  clear hv
  unfold dmV valBad
  by_cases hs : d.2.2 = [83, 81]
  · have hb : (d.2.2 == [83, 81]) = true := by simpa using hs
    clear hs
    go_enter Tryz.func154, Tryz.ntmps154
    go_wp2
    go_ret
    exact ⟨ret_bool (by rw [hb]; rfl), U0.out⟩
  · have hb : (d.2.2 == [83, 81]) = false := by simpa using hs
    clear hs
    go_enter Tryz.func154, Tryz.ntmps154
    go_wp2_with fail
    go_at_call 13
    refine (C.out _ (HV.out.up U0.out)).mono ?_
    rintro e w2 ⟨rfl, u2⟩
    have U2 := hid (U0.out.trans (Below.mono u2 U0.out.size))
    clear u2 C
    change _ at U2
    go_wp2
    go_ret
    refine ⟨ret_bool ?_, U2.out⟩
    rw [hb, Bool.not_false, Bool.true_and]
    show (chk (bs d.2.2).data.toList (bs d.2.1).data.toList != 0) = decide (chk (bs d.2.2).data.toList (bs d.2.1).data.toList ≠ 0)
    by_cases h0 : chk (bs d.2.2).data.toList (bs d.2.1).data.toList = 0
    · rw [h0]; rfl
    · rw [decide_eq_true h0]; simpa using h0
theorem row_sl {w : World} {base : Nat} {e : TypeId} {k : Nat} {v : Value} {n : Nat} {xs : List Value} (h : w.ownsRow base e k v n xs) : ∃ ad cap, v = .slice ad n cap := by
  rcases h.2 with ⟨rfl, h1⟩ | ⟨g, cap, cur, rfl, _⟩
  · exact ⟨_, _, by rw [h1]⟩
  · exact ⟨_, _, rfl⟩
theorem demand_at {w : World} {base : Nat} {v : Value} {D : List Dm} {xs : List Value} (h : w.ownsRow base 187 5 v D.length xs) (hL : Ls 5 CpD xs D []) {k : Nat} (hk : k < D.length) :
    ∃ g cap t ad len cp, v = .slice (some ⟨g, 0, none⟩) D.length cap ∧ w.cell? ⟨g, k * 5, none⟩ = some (.int .i64 t) ∧ w.cell? ⟨g, k * 5 + 1, none⟩ = some (.string (bs D[k].1)) ∧ w.cell? ⟨g, k * 5 + 2, none⟩ = some (.string (bs D[k].2.1)) ∧
      w.cell? ⟨g, k * 5 + 3, none⟩ = some (.slice ad len cp) ∧ w.cell? ⟨g, k * 5 + 4, none⟩ = some (.string (bs D[k].2.2)) := by
  rcases id h.2 with ⟨_, h1⟩ | ⟨g, cap, cur, rfl, _⟩
  · omega
  · obtain ⟨c, b, ⟨_, t, ad, len, cp, rfl⟩, _, _, h4⟩ := hL.at k D[k] (List.getElem?_eq_getElem hk)
    have hb : k * 5 + 5 ≤ D.length * 5 := by omega
    have cc : ∀ j u, j < 5 → [Value.int .i64 t, .string (bs D[k].1), .string (bs D[k].2.1), .slice ad len cp, .string (bs D[k].2.2)][j]? = some u → w.cell? ⟨g, k * 5 + j, none⟩ = some u := fun j u hj hu => by
      rw [h.cellAt _ (by omega), Nat.mul_comm]
      exact h4 j u hu
    exact ⟨g, cap, t, ad, len, cp, rfl, cc 0 _ (by omega) rfl, cc 1 _ (by omega) rfl, cc 2 _ (by omega) rfl, cc 3 _ (by omega) rfl, cc 4 _ (by omega) rfl⟩
set_option maxRecDepth 20000 in
set_option maxHeartbeats 1000000 in
theorem indexK_any (w : World) (base : Nat) (v : Value) (D : List Dm) (xs : List Value) (ho : w.ownsRow base 187 5 v D.length xs) (hL : Ls 5 CpD xs D []) (hD : D.length ≤ 100000) :
    Calls Tryz.prog 215 #[v, .func (.func 153) #[] #[]] w fun e w' => (∃ i : Int, e = .returned (.int .i64 i) ∧ decide (0 ≤ i) = D.any kindBad) ∧ Below w.heap.size w w' := by
  obtain ⟨ad, cap, rfl⟩ := row_sl ho
  have HO := hid ho
  have HL := hid hL
  skip
  clear ho hL
  go_enter Tryz.func215, Tryz.ntmps215
  go_wp2_with fail
  go_loopw [8] (fun i wr => ∃ k : Nat, k ≤ D.length ∧ i = .int .i64 k ∧ Hid (D.any kindBad = (D.drop k).any kindBad) ∧ Hid (Below w.heap.size w wr)) (fun i _ => D.length - (intOf i).toNat)
  case atStart => exact ⟨0, Nat.zero_le _, rfl, rfl, Below.refl _ _⟩
  case round =>
    obtain ⟨k, hk, rfl, hsp, hU⟩ := hrel
    by_cases hkl : k < D.length
    · obtain ⟨g, cap2, t, ad2, len, cp, hv, c0, c1, c2, c3, c4⟩ := demand_at (ownsRow_keep HO.out (w' := wr) (fun j hj => hU.out.block j (ownsRow_lt HO.out j hj))) HL.out hkl
      obtain ⟨rfl, _, rfl⟩ := Value.slice.inj hv
      have hst := hid (show (D.drop k).any kindBad = (kindBad D[k] || (D.drop (k + 1)).any kindBad) by rw [List.drop_eq_getElem_cons hkl, List.any_cons])
      have hmem := hid (List.getElem_mem hkl)
      clear hv
      generalize D[k] = d at c1 c2 c4 hst hmem
      go_wp2_with fail
      go_at_call 153
      refine (isOfOtherKind_any wr d t ad2 len cp).mono ?_
      rintro e w2 ⟨rfl, u2⟩
      have U2 := hid (hU.out.trans (u2.mono hU.out.size))
      clear u2
      generalize hbb : kindBad d = bb at hst
      clear hbb
      cases bb
      · have hst2 := hid (hsp.out.trans (hst.out.trans (Bool.false_or _)))
        clear hst
        go_wp2
        go_roundw
        case rel => exact ⟨k + 1, by omega, by go_num, hst2, U2⟩
        case measure => simp [intOf]; omega
      · have hF := hid (show D.any kindBad = true by rw [hsp.out, hst.out, Bool.true_or])
        clear hst
        go_wp2
        go_ret
        exact ⟨⟨_, rfl, by rw [hF.out]; simp⟩, U2.out⟩
    · have hF := hid (show D.any kindBad = false by rw [hsp.out, List.drop_eq_nil_of_le (by omega)]; rfl)
      go_wp2
      go_ret
      exact ⟨⟨-1, rfl, by rw [hF.out]; rfl⟩, hU.out⟩
theorem containsK_any (w : World) (base : Nat) (v : Value) (D : List Dm) (xs : List Value) (ho : w.ownsRow base 187 5 v D.length xs) (hL : Ls 5 CpD xs D []) (hD : D.length ≤ 100000) :
    Calls Tryz.prog 152 #[v, .func (.func 153) #[] #[]] w fun e w' => e = .returned (.bool (D.any kindBad)) ∧ Below w.heap.size w w' := by
  have c1 := hid (indexK_any w base v D xs ho hL hD)
  clear ho hL
  go_enter Tryz.func152, Tryz.ntmps152
  go_wp2_with fail
  go_at_call 215
  refine c1.out.mono ?_
  rintro e w2 ⟨⟨i, rfl, hi⟩, u2⟩
  have U2 := hid u2
  have HI := hid hi
  clear u2 c1 hi
  go_wp2
  go_ret
  exact ⟨ret_bool HI.out, U2.out⟩
set_option maxRecDepth 20000 in
set_option maxHeartbeats 1000000 in
theorem indexV_any (w : World) (base : Nat) (v : Value) (D : List Dm) (xs : List Value) (ho : w.ownsRow base 187 5 v D.length xs) (hL : Ls 5 CpD xs D []) (hD : D.length ≤ 100000) (hv : ∀ d ∈ D, d.2.1.length ≤ 64) (hV : Vars w) :
    Calls Tryz.prog 215 #[v, .func (.func 154) #[] #[]] w fun e w' => (∃ i : Int, e = .returned (.int .i64 i) ∧ decide (0 ≤ i) = D.any valBad) ∧ Below w.heap.size w w' := by
  obtain ⟨ad, cap, rfl⟩ := row_sl ho
  have HO := hid ho
  have HL := hid hL
  have HV := hid hv
  have HW := hid hV
  clear hv hV
  clear ho hL
  go_enter Tryz.func215, Tryz.ntmps215
  go_wp2_with fail
  go_loopw [8] (fun i wr => ∃ k : Nat, k ≤ D.length ∧ i = .int .i64 k ∧ Hid (D.any valBad = (D.drop k).any valBad) ∧ Hid (Below w.heap.size w wr)) (fun i _ => D.length - (intOf i).toNat)
  case atStart => exact ⟨0, Nat.zero_le _, rfl, rfl, Below.refl _ _⟩
  case round =>
    obtain ⟨k, hk, rfl, hsp, hU⟩ := hrel
    by_cases hkl : k < D.length
    · obtain ⟨g, cap2, t, ad2, len, cp, hv, c0, c1, c2, c3, c4⟩ := demand_at (ownsRow_keep HO.out (w' := wr) (fun j hj => hU.out.block j (ownsRow_lt HO.out j hj))) HL.out hkl
      obtain ⟨rfl, _, rfl⟩ := Value.slice.inj hv
      have hst := hid (show (D.drop k).any valBad = (valBad D[k] || (D.drop (k + 1)).any valBad) by rw [List.drop_eq_getElem_cons hkl, List.any_cons])
      have hmem := hid (List.getElem_mem hkl)
      clear hv
      generalize D[k] = d at c1 c2 c4 hst hmem
      go_wp2_with fail
      go_at_call 154
      refine (isNoValue_any wr d t ad2 len cp (HV.out d hmem.out) (HW.out.up hU.out)).mono ?_
      rintro e w2 ⟨rfl, u2⟩
      have U2 := hid (hU.out.trans (u2.mono hU.out.size))
      clear u2
      generalize hbb : valBad d = bb at hst
      clear hbb
      cases bb
      · have hst2 := hid (hsp.out.trans (hst.out.trans (Bool.false_or _)))
        clear hst
        go_wp2
        go_roundw
        case rel => exact ⟨k + 1, by omega, by go_num, hst2, U2⟩
        case measure => simp [intOf]; omega
      · have hF := hid (show D.any valBad = true by rw [hsp.out, hst.out, Bool.true_or])
        clear hst
        go_wp2
        go_ret
        exact ⟨⟨_, rfl, by rw [hF.out]; simp⟩, U2.out⟩
    · have hF := hid (show D.any valBad = false by rw [hsp.out, List.drop_eq_nil_of_le (by omega)]; rfl)
      go_wp2
      go_ret
      exact ⟨⟨-1, rfl, by rw [hF.out]; rfl⟩, hU.out⟩
theorem containsV_any (w : World) (base : Nat) (v : Value) (D : List Dm) (xs : List Value) (ho : w.ownsRow base 187 5 v D.length xs) (hL : Ls 5 CpD xs D []) (hD : D.length ≤ 100000) (hv : ∀ d ∈ D, d.2.1.length ≤ 64) (hV : Vars w) :
    Calls Tryz.prog 152 #[v, .func (.func 154) #[] #[]] w fun e w' => e = .returned (.bool (D.any valBad)) ∧ Below w.heap.size w w' := by
  have c1 := hid (indexV_any w base v D xs ho hL hD hv hV)
  clear ho hL
  go_enter Tryz.func152, Tryz.ntmps152
  go_wp2_with fail
  go_at_call 215
  refine c1.out.mono ?_
  rintro e w2 ⟨⟨i, rfl, hi⟩, u2⟩
  have U2 := hid u2
  have HI := hid hi
  clear u2 c1 hi
  go_wp2
  go_ret
  exact ⟨ret_bool HI.out, U2.out⟩
end Go.Proofs.YtaokifbpakbgdaaGreatDoor

/- Package archive: checkElements. -/
namespace Go.Proofs.YtaokifbpakbgdaaGreatDoor
open Go.RowKit

theorem kindT_sq (t : Int) : kindT t = SQ ↔ t = 533016 := by
  constructor
  · intro h
    unfold kindT at h
    repeat' (split at h; (first | (exact absurd h (by decide)) | assumption))
    all_goals first | assumption | exact absurd h (by decide)
  · rintro rfl; decide
/-- What checkElements answers. -/
def celE {n : Nat} (l : List (El (n + 2))) : Int := if l.any bad1 = true then 2 else if l.any bad2 = true then 6 else 0
theorem any_flat {α β : Type} (f : α → List β) (p : β → Bool) : ∀ l : List α, ((l.map f).flatten).any p = l.any (fun x => (f x).any p)
  | [] => rfl
  | x :: l => by rw [List.map_cons, List.flatten_cons, List.any_append, List.any_cons, any_flat f p l]
theorem any_words {n : Nat} (p : Dm → Bool) (s : List (El (n + 1))) : ((wordsL s).map dmY).any p = s.any (fun y => isWord y.1 && p (dmY y)) := by
  unfold wordsL
  induction s with
  | nil => rfl
  | cons y s ih =>
    rw [List.any_cons]
    by_cases h : isWord y.1 = true
    · rw [List.filter_cons_of_pos (p := fun x : El (n + 1) => isWord x.1) h, List.map_cons, List.any_cons, ih, h, Bool.true_and]
    · rw [List.filter_cons_of_neg (p := fun x : El (n + 1) => isWord x.1) h, ih, show isWord y.1 = false by simpa using h, Bool.false_and, Bool.false_or]
theorem any_congr' {α : Type} {p q : α → Bool} : ∀ {l : List α}, (∀ x ∈ l, p x = q x) → l.any p = l.any q
  | [], _ => rfl
  | x :: l, h => by rw [List.any_cons, List.any_cons, h x List.mem_cons_self, any_congr' (fun y hy => h y (List.mem_cons_of_mem _ hy))]
theorem dmI_kind {n : Nat} (its : Its (n + 1)) : (dmI its).any kindBad = badI false its := by
  unfold dmI badI
  rw [any_flat]
  refine any_congr' (fun s _ => ?_)
  rw [any_words]
  refine any_congr' (fun y _ => ?_)
  unfold badY kindBad dmY
  by_cases h : y.2.1 = LO <;> simp [h]
theorem dmI_val {n : Nat} (its : Its (n + 1)) (h : badI false its = false) : (dmI its).any valBad = badI true its := by
  unfold dmI badI at *
  rw [any_flat]
  rw [List.any_eq_false] at h
  refine any_congr' (fun s hs => ?_)
  have h1 := h s hs
  rw [Bool.not_eq_true, List.any_eq_false] at h1
  rw [any_words]
  refine any_congr' (fun y hy => ?_)
  have h2 := h1 y hy
  unfold badY at h2 ⊢
  unfold valBad dmY
  by_cases hw : isWord y.1 = true
  · rw [hw] at h2 ⊢
    have h3 : y.2.1 = LO := by
      by_cases e : y.2.1 = LO
      · exact e
      · simp [e] at h2
    simp [h3]
  · rw [show isWord y.1 = false by simpa using hw]; rfl
theorem dmE_kind {n : Nat} (x : El (n + 2)) (h : x.2.1 ≠ SQ → x.2.2.2 = []) : (dmE x).any kindBad = bad1 x := by
  unfold dmE bad1
  rw [List.any_append]
  by_cases hk : kindT x.1 = []
  · have ht : x.1 ≠ 533016 := fun e => by rw [e] at hk; exact absurd hk (by decide)
    rw [if_pos hk, if_neg ht, decide_eq_false (fun h => h hk)]; rfl
  · rw [if_neg hk, decide_eq_true hk, Bool.true_and]
    have h1 : ([(x.2.1, x.2.2.1, kindT x.1)] : List Dm).any kindBad = decide (x.2.1 ≠ kindT x.1) := by
      simp only [List.any_cons, List.any_nil, Bool.or_false, kindBad]
      by_cases e : x.2.1 = kindT x.1
      · rw [e]; simp
      · rw [decide_eq_true e]; simpa using e
    rw [h1]
    by_cases ht : x.1 = 533016
    · rw [if_pos ht, dmI_kind]
    · rw [if_neg ht, List.any_nil]
      by_cases e : x.2.1 = kindT x.1
      · have hn : x.2.1 ≠ SQ := fun e2 => ht ((kindT_sq _).1 (e ▸ e2))
        rw [h hn]; rfl
      · rw [decide_eq_true e, Bool.true_or, Bool.true_or]
theorem dmE_val {n : Nat} (x : El (n + 2)) (hb : bad1 x = false) : (dmE x).any valBad = bad2 x := by
  unfold dmE bad2
  unfold bad1 at hb
  rw [List.any_append]
  by_cases hk : kindT x.1 = []
  · have ht : x.1 ≠ 533016 := fun e => by rw [e] at hk; exact absurd hk (by decide)
    rw [if_pos hk, if_neg ht, decide_eq_false (fun h => h hk)]; rfl
  · rw [decide_eq_true hk, Bool.true_and, Bool.or_eq_false_iff] at hb
    rw [if_neg hk, decide_eq_true hk, Bool.true_and]
    by_cases ht : x.1 = 533016
    · have hq : kindT x.1 = SQ := (kindT_sq _).2 ht
      rw [if_pos ht, if_pos hq, dmI_val _ hb.2, hq]
      simp [valBad]
    · have hq : ¬ kindT x.1 = SQ := fun e => ht ((kindT_sq _).1 e)
      rw [if_neg ht, if_neg hq]
      simp only [List.any_cons, List.any_nil, Bool.or_false, valBad]
      have : (kindT x.1 == SQ) = false := by simpa using hq
      rw [this]; rfl
theorem dms_kind {n : Nat} {l : List (El (n + 2))} (h : ∀ x ∈ l, x.2.1 ≠ SQ → x.2.2.2 = []) : (dms l).any kindBad = l.any bad1 := by
  unfold dms
  rw [any_flat]
  exact any_congr' (fun x hx => dmE_kind x (h x hx))
theorem dms_val {n : Nat} {l : List (El (n + 2))} (h : l.any bad1 = false) : (dms l).any valBad = l.any bad2 := by
  unfold dms
  rw [any_flat]
  rw [List.any_eq_false] at h
  exact any_congr' (fun x hx => dmE_val x (by simpa using h x hx))
theorem dms_short {n : Nat} {l : List (El (n + 2))} (h : Sane l) : ∀ d ∈ dms l, d.2.1.length ≤ 64 := by
  intro d hd
  unfold dms at hd
  obtain ⟨m, hm, hd⟩ := List.mem_flatten.1 hd
  obtain ⟨x, hx, rfl⟩ := List.mem_map.1 hm
  obtain ⟨p1, _, p3⟩ := h.2 x hx
  unfold dmE at hd
  rcases List.mem_append.1 hd with hd | hd
  · split at hd
    · cases hd
    · rw [List.mem_singleton] at hd; rw [hd]; exact p1
  · split at hd
    · unfold dmI at hd
      obtain ⟨m, hm, hd⟩ := List.mem_flatten.1 hd
      obtain ⟨s, hs, rfl⟩ := List.mem_map.1 hm
      obtain ⟨y, hy, rfl⟩ := List.mem_map.1 hd
      exact (p3 s hs).2 y (List.mem_filter.1 hy).1
    · cases hd
set_option maxRecDepth 20000 in
theorem checkElements_any (n : Nat) (F : Nat → Prop) (w : World) (v : Value) (l : List (El (n + 2))) (h : Rd w F (n + 2) v l) (hF : ∀ j, F j → j < w.heap.size) (hS : Sane l) (hq : ∀ x ∈ l, x.2.1 ≠ SQ → x.2.2.2 = []) (hV : Vars w) :
    Calls Tryz.prog 94 #[v] w fun e w' => e = .returned (.int .i64 (celE l)) ∧ Below w.heap.size w w' := by
  have hx : ∀ x ∈ l, x.2.2.2.length ≤ 8 ∧ ∀ s ∈ x.2.2.2, s.length ≤ 24 := fun x hx => ⟨(hS.2 x hx).2.1, fun s hs => ((hS.2 x hx).2.2 s hs).1⟩
  have hlen := dms_len l hx
  have hl := hS.1
  have c1 := hid (demands_any n F w v l h hF hS.1 hx)
  have e1 := hid (dms_kind hq)
  have e2 := hid (fun h => dms_val (l := l) h)
  have e3 := hid (dms_short hS)
  have HV := hid hV
  clear h hF hS hq hx hV
  go_enter Tryz.func94, Tryz.ntmps94
  go_wp2_with fail
  go_at_call 151
  refine c1.out.mono ?_
  rintro e w1 ⟨v1, xs, rfl, u1, o1, l1⟩
  have U1 := hid u1
  have O1 := hid o1
  have L1 := hid l1
  clear u1 o1 l1 c1
  generalize dms l = D at hlen O1 L1 e1 e2 e3
  go_wp2_with fail
  go_at_call 152
  refine (containsK_any w1 _ v1 D xs O1.out L1.out (by omega)).mono ?_
  rintro e w2 ⟨rfl, u2⟩
  have U2 := hid (U1.out.trans (u2.mono U1.out.size))
  have O2 := hid (ownsRow_keep O1.out (w' := w2) (fun j hj => u2.block j (ownsRow_lt O1.out j hj)))
  clear u2
  rw [e1.out]
  by_cases hb : l.any bad1 = true
  · have hF := hid (show celE l = 2 by rw [celE, if_pos hb])
    rw [hb]
    clear hb
    go_wp2
    go_ret
    exact ⟨ret_int hF.out.symm, U2.out⟩
  · have hb2 : l.any bad1 = false := by simpa using hb
    have e4 := hid (e2.out hb2)
    have hF := hid (show celE l = if l.any bad2 = true then 6 else 0 by rw [celE, if_neg hb])
    rw [hb2]
    clear hb hb2 e2
    go_wp2_with fail
    go_at_call 152
    refine (containsV_any w2 _ v1 D xs O2.out L1.out (by omega) e3.out (HV.out.up U2.out)).mono ?_
    rintro e w3 ⟨rfl, u3⟩
    have U3 := hid (U2.out.trans (u3.mono U2.out.size))
    clear u3
    rw [e4.out]
    cases hc : l.any bad2
    · have hF2 := hid (hF.out.trans (if_neg (by rw [hc]; decide)))
      clear hF hc
      go_wp2
      go_ret
      exact ⟨ret_int hF2.out.symm, U3.out⟩
    · have hF2 := hid (hF.out.trans (if_pos hc))
      clear hF hc
      go_wp2
      go_ret
      exact ⟨ret_int hF2.out.symm, U3.out⟩
end Go.Proofs.YtaokifbpakbgdaaGreatDoor

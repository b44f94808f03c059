/-
  Package foliokeep: the data sets that numbers speak of.
-/
import Derived.Test.YtaokifbpakbgdaaDoorSame
import Derived.Deep.RegionLaw
namespace Go.Proofs.YtaokifbpakbgdaaDoor
open Go.RowKit

/-- A slice of numbers. -/
def Ns (w : World) (v : Value) (L : List Int) : Prop := Sl (fun _ => True) 1 (fun a z => w.cell? a = some (.int .i64 z)) v L ∧ ∃ ad cap, v = .slice ad L.length cap ∧ L.length ≤ cap
theorem Ns.up {w w' : World} {v : Value} {L : List Int} (h : Ns w v L) (k : Below w.heap.size w w') : Ns w' v L :=
  ⟨Sl.mono h.1 (fun _ h => h) (fun _ _ _ _ hc => cell_keep (k.block _ (World.block_lt_of_cell? _ _ hc)) hc), h.2⟩
theorem Ns.slice {w : World} {v : Value} {L : List Int} (h : Ns w v L) : ∃ ad cap, v = .slice ad L.length cap ∧ L.length ≤ cap := h.2
theorem Ns.at {w : World} {ad : Option Addr} {n cap : Nat} {L : List Int} (h : Ns w (.slice ad n cap) L) {i : Nat} {z : Int} (hz : L[i]? = some z) : ∃ a, ad = some a ∧ w.cell? (a.add i) = some (.int .i64 z) := by
  obtain ⟨⟨ad', cap', e, hc⟩, _⟩ := h
  obtain ⟨a, rfl, _, h0⟩ := hc i z hz
  simp only [Value.slice.injEq] at e
  rw [Nat.one_mul] at h0
  exact ⟨a, e.1, h0⟩
/-- What is left of it from a place on. -/
theorem Ns.from {w : World} {a : Addr} {cap : Nat} {L : List Int} (h : Ns w (.slice (some a) L.length cap) L) (k : Nat) (hk : k ≤ L.length) (ao : Option Addr) (hao : ¬ cap = k → ao = some (a.add k)) : Ns w (.slice ao (L.length - k) (cap - k)) (L.drop k) := by
  obtain ⟨ad0, cap0, e0, hc0⟩ := h.2
  simp only [Value.slice.injEq] at e0
  obtain ⟨_, _, rfl⟩ := e0
  refine ⟨⟨ao, cap - k, by rw [List.length_drop], fun i z hz => ?_⟩, ao, cap - k, by rw [List.length_drop], by rw [List.length_drop]; omega⟩
  rw [List.getElem?_drop] at hz
  obtain ⟨a', ea, hcell⟩ := h.at hz
  obtain rfl := Option.some.inj ea
  have hlt := (List.getElem?_eq_some_iff.1 hz).1
  refine ⟨_, hao (by omega), trivial, ?_⟩
  rw [Nat.one_mul, Addr.add_add]
  exact hcell
theorem info_st : (Tryd.prog.info? 9).map (fun i => (i.zero, i.size, i.bytes)) = some (some (.string ByteArray.empty), 1, 16) := by kernel_rfl
/-- How some ends. -/
def SmEnd (D : Nat) (w : World) (L : List Int) (e : Ending) (w' : World) : Prop := ∃ v' bl, e = .returned v' ∧ Ow w' (D + 1) v' (sm D L) bl ∧ New w w' bl ∧ Below w.heap.size w w'
theorem SmEnd.mk {D : Nat} {w w' : World} {L : List Int} {v' : Value} {bl : List Nat} (h1 : Ow w' (D + 1) v' (sm D L) bl) (h2 : New w w' bl) (h3 : Below w.heap.size w w') : SmEnd D w L (.returned v') w' := ⟨v', bl, rfl, h1, h2, h3⟩
/-- What is asked of some, at a depth. -/
def SmC (D : Nat) : Prop := ∀ (w : World) (v : Value) (L : List Int), Ns w v L → (∀ z ∈ L, -9223372036854775808 ≤ z ∧ z ≤ 9223372036854775807) → L.length ≤ 17592186044416 →
  Calls Tryd.prog 16 #[v, .int .i64 D] w (SmEnd D w L)
/-- What is read behind an element of depth. -/
def smf : (D : Nat) → List Int → Its D
  | 0 => fun _ => []
  | D + 1 => fun r => [sm D r]
theorem sm_eq (D : Nat) (L : List Int) : sm D L = smL D (smf D) 10 1 L := by cases D <;> rfl
theorem smL_step (D : Nat) (f : List Int → Its D) (k : Nat) (t : Int) (a b c : Int) (r : List Int) : smL D f (k + 1) t (a :: b :: c :: r) = smE D (t + 1 + pk a 70000) b c (f r) :: smL D f k (t + 1 + pk a 70000) (if kd b = SQ ∧ D ≠ 0 then r.drop (3 * (pk c 4).toNat) else r) := rfl
theorem smL_short (D : Nat) (f : List Int → Its D) (k : Nat) (t : Int) (l : List Int) (h : k = 0 ∨ l.length < 3) : smL D f k t l = [] := by
  cases k with
  | zero => rfl
  | succ k =>
    match l, h with
    | [], _ => rfl
    | [_], _ => rfl
    | [_, _], _ => rfl
    | _ :: _ :: _ :: _, h => simp at h; omega
theorem kd_cases (b : Int) (j : Nat) (hj : pk b 5 = j) : j < 5 ∧ kd b = ([[76, 79], [85, 73], [67, 83], [83, 81], [80, 78]] : List By).getD j [] := by
  have hb := pk_bd b 5 (by decide)
  unfold kd
  rw [hj] at hb ⊢
  have : j = 0 ∨ j = 1 ∨ j = 2 ∨ j = 3 ∨ j = 4 := by omega
  rcases this with rfl | rfl | rfl | rfl | rfl <;> decide
/-- The row of the kinds. -/
def Kinds (w : World) (K : Nat) : Prop := w.heap[K]? = some (.cells #[.string ⟨#[76, 79]⟩, .string ⟨#[85, 73]⟩, .string ⟨#[67, 83]⟩, .string ⟨#[83, 81]⟩, .string ⟨#[80, 78]⟩] 9 (0, 0))
theorem Kinds.at {w : World} {K : Nat} (h : Kinds w K) (b : Int) (j : Nat) (hj : pk b 5 = j) : w.cell? ⟨K, j, none⟩ = some (.string (bs (kd b))) := by
  obtain ⟨h1, h2⟩ := kd_cases b j hj
  rw [h2]
  unfold Kinds at h
  have : j = 0 ∨ j = 1 ∨ j = 2 ∨ j = 3 ∨ j = 4 := by omega
  rcases this with rfl | rfl | rfl | rfl | rfl <;> simp [World.cell?, h, bs]
theorem drop3 (L : List Int) (i : Nat) (h : i + 2 < L.length) : L.drop i = L[i] :: L[i + 1] :: L[i + 2] :: L.drop (i + 3) := by
  rw [List.drop_eq_getElem_cons (by omega), List.drop_eq_getElem_cons (by omega), List.drop_eq_getElem_cons (by omega)]
theorem Four.set1 {w : World} {b : Nat} {c0 c1 c2 c3 : Value} (h : Four w b c0 c1 c2 c3) (u : Value) : Four (w.setCell ⟨b, 1, none⟩ u) b c0 u c2 c3 := by
  have hlt := h.lt
  have h' : w.heap[b] = .cells #[c0, c1, c2, c3] 37 (0, 0) := by have := h; rw [Four, Array.getElem?_eq_getElem hlt] at this; exact Option.some.inj this
  show (w.heap.modify b _)[b]? = _
  rw [Array.getElem?_eq_getElem (by simpa using hlt), Array.getElem_modify_self, h']
  rfl
theorem Four.set2 {w : World} {b : Nat} {c0 c1 c2 c3 : Value} (h : Four w b c0 c1 c2 c3) (u : Value) : Four (w.setCell ⟨b, 2, none⟩ u) b c0 c1 u c3 := by
  have hlt := h.lt
  have h' : w.heap[b] = .cells #[c0, c1, c2, c3] 37 (0, 0) := by have := h; rw [Four, Array.getElem?_eq_getElem hlt] at this; exact Option.some.inj this
  show (w.heap.modify b _)[b]? = _
  rw [Array.getElem?_eq_getElem (by simpa using hlt), Array.getElem_modify_self, h']
  rfl
theorem Four.set3 {w : World} {b : Nat} {c0 c1 c2 c3 : Value} (h : Four w b c0 c1 c2 c3) (u : Value) : Four (w.setCell ⟨b, 3, none⟩ u) b c0 c1 c2 u := by
  have hlt := h.lt
  have h' : w.heap[b] = .cells #[c0, c1, c2, c3] 37 (0, 0) := by have := h; rw [Four, Array.getElem?_eq_getElem hlt] at this; exact Option.some.inj this
  show (w.heap.modify b _)[b]? = _
  rw [Array.getElem?_eq_getElem (by simpa using hlt), Array.getElem_modify_self, h']
  rfl
/-- 'append' to a row of one's own, as one step of a region that draws its order. -/
theorem step_append_sep {P : Program} {ops : Array Oper} {o : Oper} {a : Act} {w : World} {K : Act → World → Prop} {Q : Exit → Act → World → Prop} {E : Prop}
    (hg : o.guard = none) (s x : Operand) (t : TypeId) (hop : o.op = Op.call { callee := Callee.builtin Builtin.append, args := #[s, x], argTypes := #[t, t] })
    (e : TypeId) (i : TypeInfo) (z : Value) (size bytes : Nat) (h1 : P.underlying t = some (.slice e)) (h2 : P.info? e = some i) (h3 : i.zero = some z) (h4 : i.size = size) (h5 : i.bytes = bytes) (h6 : z.cells.size = size) (h7 : 0 < size)
    (v : Value) (n : Nat) (xs : List Value) (hs : a.eval s = v) (hown : w.ownsRow 0 e size v n xs)
    (ad : Addr) (m c : Nat) (news : List Value) (hx : a.eval x = .slice (some ad) m c) (hn : news.length = m * size) (hc : ∀ j u, news[j]? = some u → w.cell? (ad.add j) = some u) (h1c : ∀ u ∈ news, u.oneCell' = true)
    (b1 : n + m ≤ maxLen) (b2 : (n + m) * bytes ≤ 140737488355328)
    (hK : ∀ v' w', w'.ownsRow 0 e size v' (n + m) (xs ++ news) → w.grownBy w' v.ownBlock → Moved w v v' → K (a.put o.dst v') w') :
    if Region.wanted o (yielded ops a.tmps) = true then Oper.wp P o a w K Q else E := by
  have hw : Region.wanted o (yielded ops a.tmps) = true := by simp [Region.wanted, hg]
  rw [if_pos hw]
  obtain ⟨v', w', hrun, q1, q2, q3⟩ : ∃ v' w', (Builtin.append_ #[t, t] o.type #[v, .slice (some ad) m c]).run P w = .ok v' w' ∧ w'.ownsRow 0 e size v' (n + m) (xs ++ news) ∧ w.grownBy w' v.ownBlock ∧ Moved w v v' := by
    have weak : ∀ {w' : World} {v' : Value} {k : Nat} {ys : List Value}, w'.ownsRow w.heap.size e size v' k ys → w'.ownsRow 0 e size v' k ys ∧ ∀ g ∈ v'.ownBlock.toList, w.heap.size ≤ g := by
      rintro w' v' k ys ⟨q1, q2⟩
      rcases q2 with ⟨rfl, q2⟩ | ⟨g, cap, cur, rfl, q2, q3⟩
      · exact ⟨⟨q1, Or.inl ⟨rfl, q2⟩⟩, fun g hg => by cases hg⟩
      · exact ⟨⟨q1, Or.inr ⟨g, cap, cur, rfl, Nat.zero_le _, q3⟩⟩, fun j hj => by simp [Value.ownBlock] at hj; omega⟩
    obtain ⟨k1, k2⟩ := id hown
    rcases k2 with ⟨rfl, rfl⟩ | ⟨g, cap, cur, rfl, _⟩
    · have : xs = [] := List.eq_nil_of_length_eq_zero (by simpa using k1)
      subst this
      obtain ⟨v', w', hrun, r1, r2, _⟩ := run_append_own (P := P) w w.heap.size t o.type e i z size bytes h1 h2 h3 h4 h5 h6 h7 (.slice none 0 0) 0 [] (World.ownsRow_nil w _ e size) ad m c news hn hc h1c b1 b2 (Nat.le_refl _)
      exact ⟨v', w', hrun, (weak r1).1, r2, Or.inr (weak r1).2⟩
    · by_cases hf : n + m ≤ cap
      · obtain ⟨w', hrun, r1, r2⟩ := run_append_fits (P := P) w 0 t o.type e i size h1 h2 h4 g n cap xs hown ad m c news hn hc h1c hf
        exact ⟨_, w', hrun, r1, r2, Or.inl rfl⟩
      · obtain ⟨v', w', hrun, r1, r2⟩ := run_append_arg_grows (P := P) w t o.type e i z size bytes h1 h2 h3 h4 h5 h6 h7 ⟨g, 0, none⟩ n cap xs k1 (fun j u hu => by
          have hj := (List.getElem?_eq_some_iff.1 hu).1
          rw [Addr.add_lit, Nat.zero_add, hown.cellAt _ (by omega)]
          exact hu) ad m c news hn hc (by omega) b1 b2
        exact ⟨v', w', hrun, (weak r1).1, ⟨r2.os, r2.tape, r2.output, r2.size, fun k hk _ => r2.block k hk (by simp)⟩, Or.inr (weak r1).2⟩
  unfold Oper.wp
  simp [execOp, hop, resolve, invoke, builtin, hs, hx, hrun, Result.andThen]
  exact hK v' w' q1 q2 q3
theorem own_slice {w : World} {base : Nat} {e : TypeId} {size : Nat} {v : Value} {n : Nat} {xs : List Value} (h : w.ownsRow base e size v n xs) : ∃ ad cap, v = .slice ad n cap := by
  rcases h.2 with ⟨e, e2⟩ | ⟨g, cap, cur, e, _⟩
  · exact ⟨none, 0, by rw [e, e2]⟩
  · exact ⟨_, _, e⟩
theorem below_drew (w : World) : Below w.heap.size w w.drew := Below.drew (Below.refl _ _)
/-- One item more, laid into the element's own variable. -/
theorem some_round {D X : Nat} {wX wr w5 w6 : World} {o5 : Obj} {iv v6 sv : Value} {ys : List Value} {ds bl5 : List Nat} {l : Its D} {s0 : List (El D)} {c0 c1 c2 : Value} (hX : X < wX.heap.size) (hUi : UpB X wX wr) (hni : New wX wr (iv.ownBlock.toList ++ ds)) (hli : Ls 1 (IR D wr) ys l ds)
    (hF : Four w5 X c0 c1 c2 iv) (how : Ow w5 D sv s0 bl5) (hnew : New wr w5 bl5) (hbel : Below wr.heap.size wr w5) (hown6 : w6.ownsRow 0 52 1 v6 (l.length + 1) (ys ++ [sv])) (hg : (w5.alloc o5).grownBy w6 iv.ownBlock) (hm : Moved (w5.alloc o5) iv v6) :
    Hid (Four (w6.setCell ⟨X, 3, none⟩ v6) X c0 c1 c2 v6) ∧ Hid (UpB X wX (w6.setCell ⟨X, 3, none⟩ v6)) ∧ Hid ((w6.setCell ⟨X, 3, none⟩ v6).ownsRow 0 52 1 v6 (l ++ [s0]).length (ys ++ [sv])) ∧
      Hid (Ls 1 (IR D (w6.setCell ⟨X, 3, none⟩ v6)) (ys ++ [sv]) (l ++ [s0]) (ds ++ bl5)) ∧ Hid (New wX (w6.setCell ⟨X, 3, none⟩ v6) (v6.ownBlock.toList ++ (ds ++ bl5))) := by
  have hXne : some X ≠ iv.ownBlock := fun e => by have := (hni.2 X (by rw [← e]; simp)).1; omega
  have hli5 := hli.mono (R' := IR D w5) (fun c y b' hb' _ hr => IR.keep _ _ _ _ _ hr (fun j hj => hbel.block j (hni.2 j (List.mem_append_right _ (hb' j hj))).2))
  have hn := New.add hni hnew hUi.size hbel.size
  obtain ⟨R1, R2, R3⟩ := Row.push (R := IR D) IR.keep hli5 rfl ⟨sv, rfl, how⟩ (Nat.le_trans hUi.size hbel.size) hn hown6 hg hm
  have hsz : X < w5.heap.size := hF.lt
  have hF6 : Four w6 X c0 c1 c2 iv := hF.keep ((hg.block _ (by simp; omega) hXne).trans (Below.heap_alloc w5 _ _ hsz))
  have hge : ∀ j ∈ v6.ownBlock.toList ++ (ds ++ bl5), j ≠ X := fun j hj e => by have := (R3.2 j hj).1; omega
  refine ⟨hF6.set3 v6, ?_, ownsRow_keep R2 (fun j hj => Below.heap_setCell _ _ _ _ (hge j (List.mem_append_left _ hj))), R1.mono (fun c y b' hb' _ hr => IR.keep _ _ _ _ _ hr (fun j hj => Below.heap_setCell _ _ _ _ (hge j (List.mem_append_right _ (hb' j hj))))), ?_⟩
  · exact (((hUi.trans (UpB.of_below hbel)).alloc o5).grown hg (fun k hk => Or.inr ((hni.2 k (by rw [hk]; simp)).1))).setCell (Or.inl rfl) _
  · exact R3.more (by simp)
/-- What was gathered stays, while a variable of its own is written. -/
theorem some_pre {D X : Nat} {w wr wT : World} {o : Obj} {v : Value} {k : Nat} {xs : List Value} {done : List (El (D + 1))} {cs bl : List Nat} (hX : X = wr.heap.size) (hup : Below w.heap.size w wr) (hu : UpB X (wr.alloc o) wT) (hown : wr.ownsRow 0 37 4 v k xs)
    (hes : Ls 4 (CE wr (D + 1)) xs done cs) (hnew : New w wr (v.ownBlock.toList ++ cs)) (hbl : New (wr.alloc o) wT bl) :
    wT.ownsRow 0 37 4 v k xs ∧ Ls 4 (CE wT (D + 1)) xs done cs ∧ New w wT (v.ownBlock.toList ++ cs ++ bl) ∧ w.heap.size ≤ wT.heap.size := by
  have hz := hu.size
  have hz' : (wr.alloc o).heap.size = wr.heap.size + 1 := by simp
  have hold : ∀ j ∈ v.ownBlock.toList ++ cs, wT.heap[j]? = wr.heap[j]? := fun j hj => by
    have := (hnew.2 j hj).2
    rw [hu.block (by omega) (by omega), Below.heap_alloc wr o j this]
  have hs := hup.size
  refine ⟨ownsRow_keep hown (fun j hj => hold j (List.mem_append_left _ hj)), hes.mono (fun c y b' hb' _ hr => hr.keep (fun j hj => hold j (List.mem_append_right _ (hb' j hj)))), ?_, by omega⟩
  exact New.add (hnew.more (by omega)) hbl (by omega) hz
theorem some_post {D X : Nat} {w wr wT w3 : World} {o o2 : Obj} {v v' : Value} {xs c : List Value} {done : List (El (D + 1))} {x : El (D + 1)} {cs bl : List Nat} (hX : X = wr.heap.size) (hup : Below w.heap.size w wr) (hu : UpB X (wr.alloc o) wT) (hK : Kinds wr w.heap.size) (hvK : v.ownBlock ≠ some w.heap.size)
    (hes : Ls 4 (CE wT (D + 1)) xs done cs) (hn : New w wT (v.ownBlock.toList ++ cs ++ bl)) (hs : w.heap.size ≤ wT.heap.size) (hc : c.length = 4) (hce : CE wT (D + 1) c x bl) (hown' : w3.ownsRow 0 37 4 v' (done.length + 1) (xs ++ c)) (hg : (wT.alloc o2).grownBy w3 v.ownBlock) (hm : Moved (wT.alloc o2) v v') :
    Hid (Below w.heap.size w w3) ∧ Kinds w3 w.heap.size ∧ v'.ownBlock ≠ some w.heap.size ∧ Hid (w3.ownsRow 0 37 4 v' (done ++ [x]).length (xs ++ c)) ∧ Hid (Ls 4 (CE w3 (D + 1)) (xs ++ c) (done ++ [x]) (cs ++ bl)) ∧ Hid (New w w3 (v'.ownBlock.toList ++ (cs ++ bl))) := by
  have R := Row.push (R := fun w => CE w (D + 1)) (fun _ _ _ _ _ h k => h.keep k) hes hc hce hs hn hown' hg hm
  have hz := hu.size
  have hz' : (wr.alloc o).heap.size = wr.heap.size + 1 := by simp
  have hs2 := hup.size
  have hKlt : w.heap.size < wr.heap.size := lt_of_block hK
  have hKT : Kinds wT w.heap.size := by rw [Kinds, hu.block (by omega) (by omega), Below.heap_alloc wr o _ hKlt]; exact hK
  have hKA : Kinds (wT.alloc o2) w.heap.size := by rw [Kinds, Below.heap_alloc wT o2 _ (by omega)]; exact hKT
  refine ⟨?_, ?_, ?_, R.2.1, R.1, R.2.2⟩
  · have h1 : Below w.heap.size w wT := (Below.alloc hup hs2 o).trans (hu.below (by omega) (by omega))
    exact (Below.alloc h1 (by omega) o2).grown hg (by simp; omega) (fun k hk => (hn.2 k (by rw [hk]; simp)).1)
  · rw [Kinds, hg.block _ (lt_of_block hKA) (fun e => hvK e.symm)]; exact hKA
  · intro e
    rcases hm with m | m
    · exact hvK (by rw [← m]; exact e)
    · have := m w.heap.size (by rw [e]; simp)
      simp at this
      omega
set_option maxHeartbeats 8000000 in
set_option maxRecDepth 20000 in
theorem some_any (D : Nat) (hD : D ≤ 2) (H : ∀ E, D = E + 1 → SmC E) : SmC D := by
  intro w v L h hr hl
  obtain ⟨ad, cap, rfl, hcap⟩ := h.slice
  obtain ⟨i0, hi, hz0, hz1, hz2⟩ := info_parts info_el
  have HI := hid hi
  clear hi
  have h' := hid h
  go_enter Tryd.func16, Tryd.ntmps16
  go_wp2_with fail
  go_loopw [6, 7, 8] (fun v tv iv wr => ∃ (done : List (El (D + 1))) (i : Nat) (tg : Nat) (xs : List Value) (cs : List Nat), tv = .int .i64 tg ∧ iv = .int .i64 i ∧ Hid (sm D L = done ++ smL D (smf D) (10 - done.length) tg (L.drop i)) ∧ done.length ≤ 10 ∧ tg ≤ 1 + 70000 * done.length ∧ i ≤ L.length + 12 ∧
      Hid (Below w.heap.size w wr) ∧ Kinds wr w.heap.size ∧ v.ownBlock ≠ some w.heap.size ∧ Hid (wr.ownsRow 0 37 4 v done.length xs) ∧ Hid (Ls 4 (CE wr (D + 1)) xs done cs) ∧ Hid (New w wr (v.ownBlock.toList ++ cs))) (fun _ _ i _ => L.length + 20 - (intOf i).toNat)
  case atStart => exact ⟨[], 0, 1, [], [], rfl, rfl, by unfold Hid; rw [sm_eq]; simp, by simp, by simp, by omega, Below.alloc (Below.refl _ _) (Nat.le_refl _) _, heap_alloc_new _ _, by simp [Value.ownBlock], World.ownsRow_nil _ _ _ _, ⟨rfl, rfl⟩, New.nil _ _⟩
  case round =>
    obtain ⟨done, i, tg, xs, cs, rfl, rfl, hspec, hd10, htg, hiL, hup, hK, hvK, hown, hes, hnew⟩ := hrel
    have hs6 : Hid (∃ ad cap, u6 = .slice ad done.length cap) := by
      rcases hown.out.2 with ⟨e, e2⟩ | ⟨g, cap, cur, e, _⟩
      · exact ⟨none, 0, by rw [e, e2]⟩
      · exact ⟨_, _, e⟩
    obtain ⟨ad6, cap6, rfl⟩ := hs6.out
    by_cases hgo : i + 2 < L.length ∧ done.length < 10
    · obtain ⟨hg1, hg2⟩ := hgo
      have hN := h'.out.up hup.out
      obtain ⟨a, rfl, c0⟩ := hN.at (List.getElem?_eq_getElem (show i < L.length by omega))
      obtain ⟨a', ea, c1⟩ := hN.at (List.getElem?_eq_getElem (show i + 1 < L.length by omega))
      obtain rfl := Option.some.inj ea
      obtain ⟨a', ea, c2⟩ := hN.at (List.getElem?_eq_getElem (show i + 2 < L.length by omega))
      obtain rfl := Option.some.inj ea
      have hdrop := drop3 L i hg1
      have r0 := hr L[i] (List.getElem_mem _)
      have r1 := hr L[i + 1] (List.getElem_mem _)
      have r2 := hr L[i + 2] (List.getElem_mem _)
      generalize L[i] = za at c0 hdrop r0
      generalize L[i + 1] = zb at c1 hdrop r1
      generalize L[i + 2] = zc at c2 hdrop r2
      replace c1 : wr.cell? ⟨a.block, a.off + (i + 1), none⟩ = some (.int .i64 zb) := c1
      replace c2 : wr.cell? ⟨a.block, a.off + (i + 2), none⟩ = some (.int .i64 zc) := c2
      have hstep := hid (show smL D (smf D) (10 - done.length) tg (L.drop i) = smE D (tg + 1 + pk za 70000) zb zc (smf D (L.drop (i + 3))) :: smL D (smf D) (10 - (done.length + 1)) (tg + 1 + pk za 70000) (if kd zb = SQ ∧ D ≠ 0 then (L.drop (i + 3)).drop (3 * (pk zc 4).toNat) else L.drop (i + 3)) by
        rw [hdrop, show 10 - done.length = (10 - (done.length + 1)) + 1 by omega]; rfl)
      clear hdrop
      have pb0 := pk_bd za 70000 (by decide)
      obtain ⟨pa, hpa⟩ : ∃ p : Nat, pk za 70000 = p := ⟨(pk za 70000).toNat, by omega⟩
      have pb1 := pk_bd zb 5 (by decide)
      obtain ⟨pb, hpb⟩ : ∃ p : Nat, pk zb 5 = p := ⟨(pk zb 5).toNat, by omega⟩
      have hkc := hK.at zb pb hpb
      have hkd := hid (kd_is zb)
      have hpb5 := (kd_cases zb pb hpb).1
      rw [hpa] at hstep
      go_wp2_with fail
      go_at_call 18
      refine (pick_any za 70000 _ r0.1 r0.2 (by decide) (by decide)).mono ?_
      rw [hpa]
      rintro e w1 ⟨rfl, rfl⟩
      go_wp2_with fail
      go_at_call 18
      refine (pick_any zb 5 _ r1.1 r1.2 (by decide) (by decide)).mono ?_
      rw [hpb]
      rintro e w1 ⟨rfl, rfl⟩
      have hkl := bs_toList (kd zb)
      have hsz := hup.out.size
      obtain ⟨tt, htt⟩ : ∃ tt : Nat, tt = tg + 1 + pa := ⟨_, rfl⟩
      have htt' : (tg : Int) + 1 + (pa : Int) = (tt : Int) := by omega
      rw [htt'] at hstep
      have htb : tt ≤ 1 + 70000 * (done.length + 1) := by omega
      clear htt
      have hWS := hid (And.intro hup.out (And.intro hown.out (And.intro hes.out hnew.out)))
      by_cases hq : (kd zb == [83, 81]) = true
      · by_cases hD0 : D = 0
        · have d0 : ((D : Int) == 0) = true := by simp; omega
          have hkq : kd zb = SQ := by simpa using hq
          have hE := hid (show sm D L = done ++ [mkE (D + 1) tt [76, 79] [] []] ++ smL D (smf D) (10 - (done.length + 1)) tt (L.drop (i + 3)) by
            rw [hspec.out, hstep.out, smE_0 D _ _ _ _ hkq hD0, if_neg (fun e => e.2 hD0), List.append_assoc]; rfl)
          clear hspec hstep hkq
          clear hD0
          have hX4 := Four.new w1 (.int .i64 tt) (.string ⟨#[76, 79]⟩) (.string ⟨#[]⟩) (.slice none 0 0)
          have hUT := hid (UpB.refl w1.heap.size (w1.alloc (.cells #[.int .i64 tt, .string ⟨#[76, 79]⟩, .string ⟨#[]⟩, .slice none 0 0] 37)))
          have hblT := hid (New.nil (w1.alloc (.cells #[.int .i64 tt, .string ⟨#[76, 79]⟩, .string ⟨#[]⟩, .slice none 0 0] 37)) (w1.alloc (.cells #[.int .i64 tt, .string ⟨#[76, 79]⟩, .string ⟨#[]⟩, .slice none 0 0] 37)))
          obtain ⟨bl', hb1, hb2, hce⟩ := CE.mk (n := D + 1) (t := tt) (k := [76, 79]) (v := []) (OwI.nil (w1.alloc (.cells #[.int .i64 tt, .string ⟨#[76, 79]⟩, .string ⟨#[]⟩, .slice none 0 0] 37)) (D + 1 - 1))
          have hceT := hid hce
          have hbl0 : bl' = [] := List.eq_nil_iff_forall_not_mem.2 (fun j hj => nomatch hb1 j hj)
          subst hbl0
          clear hb1 hb2 hce
          -- the element is laid in
          have hXT := (hX4).cells
          clear hXT
          obtain ⟨P1, P2, P3, P4⟩ := some_pre rfl hWS.out.1 hUT.out hWS.out.2.1 hWS.out.2.2.1 hWS.out.2.2.2 hblT.out
          have P1' := hid P1
          have P2' := hid P2
          have P3' := hid P3
          clear P1 P2 P3
          have hfc := hid (show ∀ j u, [Value.int .i64 tt, .string ⟨#[76, 79]⟩, .string ⟨#[]⟩, .slice none 0 0][j]? = some u → ((w1.alloc (.cells #[.int .i64 tt, .string ⟨#[76, 79]⟩, .string ⟨#[]⟩, .slice none 0 0] 37)).alloc (.cells #[.int .i64 tt, .string ⟨#[76, 79]⟩, .string ⟨#[]⟩, .slice none 0 0] 37)).cell? ((⟨w1.heap.size + 1, 0, none⟩ : Addr).add j) = some u by
            have h := four_cells (w1.alloc (.cells #[.int .i64 tt, .string ⟨#[76, 79]⟩, .string ⟨#[]⟩, .slice none 0 0] 37)) 37 (.int .i64 tt) (.string ⟨#[76, 79]⟩) (.string ⟨#[]⟩) (.slice none 0 0)
            rw [show (w1.alloc (.cells #[.int .i64 tt, .string ⟨#[76, 79]⟩, .string ⟨#[]⟩, .slice none 0 0] 37)).heap.size = w1.heap.size + 1 by simp] at h
            exact h)
          go_wp2_with (at_builtin; refine wpList_append_sep _ rfl _ _ 22 rfl 37 i0 _ 4 64 Tryd.underlying22 HI.out hz0 hz1 hz2 rfl (by decide) _ _ _ rfl (P1'.out.alloc _) ⟨w1.heap.size + 1, 0, none⟩ 1 1 [.int .i64 tt, .string ⟨#[76, 79]⟩, .string ⟨#[]⟩, .slice none 0 0] rfl rfl hfc.out four_one (by unfold maxLen; omega) (by omega) ?_)
          intro v' w3 hown' hg hm
          obtain ⟨Z1, Z2, Z3, Z4, Z5, Z6⟩ := some_post rfl hWS.out.1 hUT.out hK hvK P2'.out P3'.out P4 rfl hceT.out hown' hg hm
          clear hown' hg hm
          go_wp2
          go_roundw
          case rel =>
            refine ⟨_, i + 3, tt, _, _, rfl, by go_num, ?_, by rw [List.length_append]; simp; omega, by rw [List.length_append]; simp; omega, by omega, Z1, Z2, Z3, Z4, Z5, Z6⟩
            unfold Hid
            rw [hE.out, List.length_append]
            rfl
          case measure => simp [intOf]; omega
        · have d0 : ((D : Int) == 0) = false := by simp; omega
          have hkq : kd zb = SQ := by simpa using hq
          have pb2 := pk_bd zc 4 (by decide)
          obtain ⟨pc, hpc⟩ : ∃ p : Nat, pk zc 4 = p := ⟨(pk zc 4).toNat, by omega⟩
          obtain ⟨s0, hs0⟩ : ∃ s0, smf D (L.drop (i + 3)) = [s0] := by
            cases D with
            | zero => exact absurd rfl hD0
            | succ E => exact ⟨_, rfl⟩
          have hE := hid (show sm D L = done ++ [mkE (D + 1) tt (kd zb) [] (List.replicate pc s0)] ++ smL D (smf D) (10 - (done.length + 1)) tt (L.drop (i + 3 * pc + 3)) by
            rw [hspec.out, hstep.out, smE_q D _ _ _ _ hkq hD0, if_pos ⟨hkq, hD0⟩, hpc, hs0, List.append_assoc, List.drop_drop, Int.toNat_natCast, show i + 3 * pc + 3 = i + 3 + 3 * pc by omega, hkq]
            simp [mkE]
            rfl)
          have IH : Hid (∀ (w : World) (v : Value), Ns w v (L.drop (i + 3)) → Calls Tryd.prog 16 #[v, .int .i64 ((D : Int) - 1)] w fun e w' => ∃ v' bl, e = .returned v' ∧ Ow w' D v' s0 bl ∧ New w w' bl ∧ Below w.heap.size w w') := by
            intro w v hn
            obtain ⟨E, rfl⟩ : ∃ E, D = E + 1 := ⟨D - 1, by omega⟩
            have := H E rfl w v (L.drop (i + 3)) hn (fun z hz => hr z (List.mem_of_mem_drop hz)) (by rw [List.length_drop]; omega)
            rw [show ((E + 1 : Nat) : Int) - 1 = (E : Int) by omega]
            refine this.mono ?_
            rintro e w' ⟨v', bl, h1, h2, h3, h4⟩
            have e0 : sm E (L.drop (i + 3)) = s0 := by simpa [smf] using hs0
            rw [e0] at h2
            exact ⟨v', bl, h1, h2, h3, h4⟩
          clear hspec hstep hkq hD0 hs0
          have hal := Below.alloc (Below.refl w1.heap.size w1) (Nat.le_refl _) (.cells #[.int .i64 tt, .string (bs (kd zb)), .string ⟨#[]⟩, .slice none 0 0] 37)
          have c2X := cell_keep (hal.block _ (World.block_lt_of_cell? _ _ c2)) c2
          have hX4 := Four.new w1 (.int .i64 tt) (.string (bs (kd zb))) (.string ⟨#[]⟩) (.slice none 0 0)
          go_wp2_with fail
          go_at_call 18
          refine (pick_any zc 4 _ r2.1 r2.2 (by decide) (by decide)).mono ?_
          rw [hpc]
          rintro e w2 ⟨rfl, rfl⟩
          obtain ⟨i1, hi1, hy0, hy1, hy2⟩ := info_parts info_it
          have HI1 := hid hi1
          clear hi1
          go_wp2_with fail
          go_loopw [11] (fun nv wi => ∃ (m : Nat) (iv : Value) (ys : List Value) (ds : List Nat), nv = .int .i64 m ∧ m ≤ pc ∧ Hid (Four wi w1.heap.size (.int .i64 tt) (.string (bs (kd zb))) (.string ⟨#[]⟩) iv) ∧
            Hid (UpB w1.heap.size (w1.alloc (.cells #[.int .i64 tt, .string (bs (kd zb)), .string ⟨#[]⟩, .slice none 0 0] 37)) wi) ∧
            Hid (wi.ownsRow 0 52 1 iv (List.replicate (pc - m) s0).length ys) ∧ Hid (Ls 1 (IR D wi) ys (List.replicate (pc - m) s0) ds) ∧ Hid (New (w1.alloc (.cells #[.int .i64 tt, .string (bs (kd zb)), .string ⟨#[]⟩, .slice none 0 0] 37)) wi (iv.ownBlock.toList ++ ds))) (fun nv _ => (intOf nv).toNat)
          case atStart => exact ⟨pc, .slice none 0 0, [], [], rfl, Nat.le_refl _, hX4, UpB.refl _ _, by unfold Hid; rw [Nat.sub_self]; exact World.ownsRow_nil _ _ _ _, by unfold Hid; rw [Nat.sub_self]; exact ⟨rfl, rfl⟩, New.nil _ _⟩
          case round =>
            obtain ⟨m, iv, ys, ds, rfl, hm1, hFi, hUi, hoi, hli, hni⟩ := hrel
            by_cases hm0 : 0 < m
            · obtain ⟨adv, capv, rfl⟩ : ∃ adv capv, iv = .slice adv (List.replicate (pc - m) s0).length capv := by
                rcases hoi.out.2 with ⟨e, e2⟩ | ⟨g, cap, cur, e, _⟩
                · exact ⟨none, 0, by rw [e, e2]⟩
                · exact ⟨_, _, e⟩
              obtain ⟨⟨_, _, _, y3⟩, _, _, _, z3⟩ := hFi.out.cells
              have hrep := hid (show (List.replicate (pc - m) s0).length = pc - m from List.length_replicate)
              generalize hrr : (List.replicate (pc - m) s0).length = rr at *
              have hrrb : rr ≤ 8 := by have := hrep.out; omega
              have hNr := hid (h'.out.up ((Below.alloc hup.out hup.out.size (.cells #[.int .i64 tt, .string (bs (kd zb)), .string ⟨#[]⟩, .slice none 0 0] 37)).trans (hUi.out.below (B := w.heap.size) hsz (by simp; omega))))
              have hwr : IntKind.i64.wrap ((i : Int) + 3) = ((i + 3 : Nat) : Int) := by rw [IntKind.wrap_i64]; omega
              have hwd : IntKind.i64.wrap ((D : Int) - 1) = (D : Int) - 1 := by rw [IntKind.wrap_i64]; omega
              have hle0 : (0 : Int) ≤ ((i + 3 : Nat) : Int) := by omega
              have hle1 : ((i + 3 : Nat) : Int) ≤ (L.length : Int) := by omega
              have hle2 : (0 : Int) ≤ (i : Int) + 3 := by omega
              have hle3 : (i : Int) + 3 ≤ (L.length : Int) := by omega
              have hle4 : i + 3 ≤ L.length := by omega
              have htn : (((i + 3 : Nat) : Int)).toNat = i + 3 := by omega
              have htn2 : ((i : Int) + 3).toNat = i + 3 := by omega
              go_wp2_with fail
              have hXne : Hid (w1.heap.size ∉ (Value.slice adv rr capv).ownBlock.toList) := fun hj => by
                have := (hni.out.2 w1.heap.size (List.mem_append_left _ hj)).1
                simp at this
                omega
              have one5 : Hid (∀ (x : Option Addr) (y z : Nat), ∀ v ∈ [Value.slice x y z], v.oneCell' = true) := fun x y z => one_one
              go_region_law (first
                | (go_simp; go_at_call 16; refine (IH.out _ _ (Ns.from (hNr.out.up (below_drew _)) (i + 3) (by omega) _ (by intro h; first | rfl | (simp [h]; rfl)))).mono ?_; rintro e w5 ⟨v5, bl5, rfl, how5, hnew5, hbel5⟩; obtain ⟨ad5, cap5, rfl⟩ := how5.slice; have hF5 := hid (hFi.out.keep (hbel5.block _ hFi.out.lt)); obtain ⟨⟨_, _, _, y5⟩, _, _, _, z5⟩ := hF5.out.cells; obtain ⟨⟨_, _, _, y5a⟩, _, _, _, z5a⟩ := (hF5.out.keep (Below.heap_alloc w5 (.cells #[.slice ad5 s0.length cap5] 52) _ hF5.out.lt)).cells; have hoi5 := hid (ownsRow_keep hoi.out (fun j hj => hbel5.block j (ownsRow_lt hoi.out j hj))))
                | (refine step_append_sep rfl (.tmp 80) (.tmp 89) 35 rfl 52 i1 _ 1 24 Tryd.underlying35 HI1.out hy0 hy1 hy2 rfl (by decide) _ _ _ (by simp [Act.eval]) (hoi5.out.alloc _) ⟨w5.heap.size, 0, none⟩ 1 1 [.slice ad5 s0.length cap5] (by simp [Act.eval]) rfl (one_cell _ _ _) (one5.out _ _ _) (by unfold maxLen; omega) (by omega) ?_; intro v6 w6 hown6 hg6 hm6; have hF6 := hF5.out.keep ((hg6.block _ (by have := hF5.out.lt; simp; omega) (fun e => hXne.out (by rw [← e]; simp))).trans (Below.heap_alloc w5 _ _ hF5.out.lt)); obtain ⟨adv6, capv6, hv6⟩ := own_slice hown6; subst hv6; obtain ⟨⟨_, _, _, y6⟩, _, _, _, z6⟩ := hF6.cells))
              all_goals obtain ⟨Y1, Y2, Y3, Y4, Y5⟩ := some_round (l := List.replicate (pc - m) s0) (by simp) hUi.out hni.out hli.out hF5.out how5 hnew5 (Below.trans (below_drew _) hbel5) (by rw [hrr]; exact hown6) hg6 hm6
              all_goals clear hown6 hg6 hm6 hF6
              all_goals go_wp2
              all_goals go_roundw
              all_goals first
                | (case measure => simp [intOf]; omega)
                | skip
              all_goals
                refine ⟨m - 1, _, ys ++ [.slice ad5 s0.length cap5], ds ++ bl5, by go_num, by omega, Y1, Y2, ?_, ?_, Y5⟩
                · unfold Hid
                  rw [show pc - (m - 1) = pc - m + 1 by omega, List.replicate_succ']
                  exact Y3.out
                · unfold Hid
                  rw [show pc - (m - 1) = pc - m + 1 by omega, List.replicate_succ']
                  exact Y4.out
            · have hm00 : m = 0 := by omega
              subst hm00
              obtain ⟨adv, capv, rfl⟩ := own_slice hoi.out
              have hblk : a.block < w1.heap.size := World.block_lt_of_cell? w1 ⟨a.block, a.off + (i + 2), none⟩ c2
              have c2r := cell_keep (w := w1) (w' := wr) (p := ⟨a.block, a.off + (i + 2), none⟩) ((hUi.out.block (j := a.block) (by simp; omega) (by omega)).trans (Below.heap_alloc w1 _ _ hblk)) c2
              have hUT := hUi
              have hblT := hni
              have hceT : Hid (CE wr (D + 1) [.int .i64 tt, .string (bs (kd zb)), .string ⟨#[]⟩, .slice adv (List.replicate (pc - 0) s0).length capv] (mkE (D + 1) tt (kd zb) [] (List.replicate pc s0)) ((Value.slice adv (List.replicate (pc - 0) s0).length capv).ownBlock.toList ++ ds)) := ⟨_, rfl, ys, ds, hoi.out, hli.out, rfl⟩
              generalize hrr : (List.replicate (pc - 0) s0).length = rr at *
              have hrr' := hid hrr
              clear hrr
              go_wp2_with fail
              go_at_call 18
              refine (pick_any zc 4 _ r2.1 r2.2 (by decide) (by decide)).mono ?_
              rw [hpc]
              rintro e w2 ⟨rfl, rfl⟩
              -- the element is laid in
              have hXT := (hFi.out).cells
              obtain ⟨⟨x0, x1, x2, x3⟩, _⟩ := hXT
              obtain ⟨P1, P2, P3, P4⟩ := some_pre rfl hWS.out.1 hUT.out hWS.out.2.1 hWS.out.2.2.1 hWS.out.2.2.2 hblT.out
              have P1' := hid P1
              have P2' := hid P2
              have P3' := hid P3
              clear P1 P2 P3
              go_wp2_with (at_builtin; refine wpList_append_sep _ rfl _ _ 22 rfl 37 i0 _ 4 64 Tryd.underlying22 HI.out hz0 hz1 hz2 rfl (by decide) _ _ _ rfl (P1'.out.alloc _) ⟨w2.heap.size, 0, none⟩ 1 1 [.int .i64 tt, .string (bs (kd zb)), .string ⟨#[]⟩, .slice adv rr capv] rfl rfl (four_cells _ _ _ _ _ _) four_one (by unfold maxLen; omega) (by omega) ?_)
              intro v' w3 hown' hg hm
              obtain ⟨Z1, Z2, Z3, Z4, Z5, Z6⟩ := some_post rfl hWS.out.1 hUT.out hK hvK P2'.out P3'.out P4 rfl hceT.out hown' hg hm
              clear hown' hg hm
              go_wp2
              go_roundw
              case rel =>
                refine ⟨_, i + 3 * pc + 3, tt, _, _, rfl, by go_num, ?_, by rw [List.length_append]; simp; omega, by rw [List.length_append]; simp; omega, by omega, Z1, Z2, Z3, Z4, Z5, Z6⟩
                unfold Hid
                rw [hE.out, List.length_append]
                rfl
              case measure => simp [intOf]; omega
      · have hq2 : (kd zb == [83, 81]) = false := by simpa using hq
        have hkq : kd zb ≠ SQ := by simpa using hq
        have pb2 := pk_bd zc 9 (by decide)
        obtain ⟨pc, hpc⟩ : ∃ p : Nat, pk zc 9 = p := ⟨(pk zc 9).toNat, by omega⟩
        have hE := hid (show sm D L = done ++ [mkE (D + 1) tt (kd zb) (lt pc) []] ++ smL D (smf D) (10 - (done.length + 1)) tt (L.drop (i + 3)) by
          rw [hspec.out, hstep.out, smE_v D _ _ _ _ hkq, if_neg (fun e => hkq e.1), hpc, List.append_assoc]; rfl)
        clear hspec hstep hkq hq
        have hal := Below.alloc (Below.refl w1.heap.size w1) (Nat.le_refl _) (.cells #[.int .i64 tt, .string (bs (kd zb)), .string ⟨#[]⟩, .slice none 0 0] 37)
        have c2X := cell_keep (hal.block _ (World.block_lt_of_cell? _ _ c2)) c2
        have hX4 := Four.new w1 (.int .i64 tt) (.string (bs (kd zb))) (.string ⟨#[]⟩) (.slice none 0 0)
        go_wp2_with fail
        go_at_call 18
        refine (pick_any zc 9 _ r2.1 r2.2 (by decide) (by decide)).mono ?_
        rw [hpc]
        rintro e w2 ⟨rfl, rfl⟩
        have hX0 := hid (rfl : w1.heap.size = w1.heap.size)
        go_wp2_with fail
        go_loopw [10] (fun nv wi => ∃ (m : Nat) (V : By), nv = .int .i64 m ∧ m ≤ pc ∧ V.length ≤ 9 - m ∧ Hid (V ++ lt m = lt pc) ∧ Hid (Four wi w1.heap.size (.int .i64 tt) (.string (bs (kd zb))) (.string (bs V)) (.slice none 0 0)) ∧
            Hid (UpB w1.heap.size (w1.alloc (.cells #[.int .i64 tt, .string (bs (kd zb)), .string ⟨#[]⟩, .slice none 0 0] 37)) wi)) (fun nv _ => (intOf nv).toNat)
        case atStart => exact ⟨pc, [], rfl, Nat.le_refl _, by simp, rfl, hX4, UpB.refl _ _⟩
        case round =>
          obtain ⟨m, V, rfl, hm1, hVl, hVm, hFi, hUi⟩ := hrel
          obtain ⟨⟨_, _, y2, _⟩, _, _, z2, _⟩ := hFi.out.cells
          have hVs := bs_size V
          by_cases hm0 : 0 < m
          · have cv := conv1 wr ((97 : Int) + (m : Int)) (by omega) (by omega)
            generalize hc : UInt8.ofNat ((97 : Int) + (m : Int)).toNat = c at cv
            have hone : (bs [c]).size = 1 := rfl
            obtain ⟨V1, hV1, hb1, hz1, hy1⟩ := cat V [c]
            have hc' := hid hc
            clear hc
            have hFA := hFi.out.keep (Below.heap_alloc wr (.cells #[.int .u8 ((97 : Int) + (m : Int))] 5) _ hFi.out.lt)
            obtain ⟨⟨_, _, y3, _⟩, _, _, z3, _⟩ := hFA.cells
            have hFB := hid (hFA.set2 (.string (bs V1)))
            have hUB := hid ((hUi.out.alloc (.cells #[.int .u8 ((97 : Int) + (m : Int))] 5)).setCell (p := ⟨w1.heap.size, 2, none⟩) (Or.inl rfl) (.string (bs V1)))
            clear hFA
            go_wp2
            go_roundw
            case rel =>
              refine ⟨m - 1, V1, by go_num, by omega, by rw [hy1]; simp; omega, ?_, hFB, hUB⟩
              unfold Hid
              rw [← hVm.out, hV1.out]
              obtain ⟨m', rfl⟩ : ∃ m', m = m' + 1 := ⟨m - 1, by omega⟩
              rw [lt, Nat.add_sub_cancel, List.append_assoc, ← hc'.out, show ((97 : Int) + ((m' + 1 : Nat) : Int)).toNat = 97 + (m' + 1) by omega]; rfl
            case measure => simp [intOf]; omega
          · have hm00 : m = 0 := by omega
            subst hm00
            have hVe := hid (show V = lt pc by rw [← hVm.out]; simp [lt])
            have hUT := hUi
            have hblT := hid (New.nil (w1.alloc (.cells #[.int .i64 tt, .string (bs (kd zb)), .string ⟨#[]⟩, .slice none 0 0] 37)) wr)
            obtain ⟨bl', hb1, hb2, hce⟩ := CE.mk (n := D + 1) (t := tt) (k := kd zb) (v := V) (OwI.nil wr (D + 1 - 1))
            have hceT := hid hce
            have hbl0 : bl' = [] := List.eq_nil_iff_forall_not_mem.2 (fun j hj => nomatch hb1 j hj)
            subst hbl0
            clear hb1 hb2 hce
            -- the element is laid in
            have hXT := (hFi.out).cells
            obtain ⟨⟨x0, x1, x2, x3⟩, _⟩ := hXT
            obtain ⟨P1, P2, P3, P4⟩ := some_pre rfl hWS.out.1 hUT.out hWS.out.2.1 hWS.out.2.2.1 hWS.out.2.2.2 hblT.out
            have P1' := hid P1
            have P2' := hid P2
            have P3' := hid P3
            clear P1 P2 P3
            go_wp2_with (at_builtin; refine wpList_append_sep _ rfl _ _ 22 rfl 37 i0 _ 4 64 Tryd.underlying22 HI.out hz0 hz1 hz2 rfl (by decide) _ _ _ rfl (P1'.out.alloc _) ⟨wr.heap.size, 0, none⟩ 1 1 [.int .i64 tt, .string (bs (kd zb)), .string (bs V), .slice none 0 0] rfl rfl (four_cells _ _ _ _ _ _) four_one (by unfold maxLen; omega) (by omega) ?_)
            intro v' w3 hown' hg hm
            obtain ⟨Z1, Z2, Z3, Z4, Z5, Z6⟩ := some_post rfl hWS.out.1 hUT.out hK hvK P2'.out P3'.out P4 rfl hceT.out hown' hg hm
            clear hown' hg hm
            go_wp2
            go_roundw
            case rel =>
              refine ⟨_, i + 3, tt, _, _, rfl, by go_num, ?_, by rw [List.length_append]; simp; omega, by rw [List.length_append]; simp; omega, by omega, Z1, Z2, Z3, Z4, Z5, Z6⟩
              unfold Hid
              rw [hE.out, List.length_append]
              rw [hVe.out]; rfl
            case measure => simp [intOf]; omega
    · go_wp2
      all_goals go_ret
      all_goals refine SmEnd.mk (bl := (Value.slice ad6 done.length cap6).ownBlock.toList ++ cs) ?_ hnew.out hup.out
      all_goals
        rw [Ow_eq, hspec.out, smL_short D _ _ _ _ (by rw [List.length_drop]; omega), List.append_nil]
        exact ⟨xs, cs, hown.out, hes.out, rfl⟩
theorem some_all : ∀ D, D ≤ 2 → SmC D
  | 0, h => some_any 0 h (fun _ e => by cases e)
  | D + 1, h => some_any (D + 1) h (fun E e => by obtain rfl : D = E := by omega
                                                  exact some_all D (by omega))
end Go.Proofs.YtaokifbpakbgdaaDoor

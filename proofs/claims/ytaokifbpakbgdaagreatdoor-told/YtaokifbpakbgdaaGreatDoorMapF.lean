/-
  A map in memory as a function from its keys, its elements being values of whatever type (no program).
-/
import Derived.Maps.OwnSet
import Derived.Maps.RangeWalk
import Derived.Sort.MapsRangeIn
import Derived.WalkKit
namespace Go.Proofs.YtaokifbpakbgdaaGreatDoor
open Go.RowKit Go.Maps

/-- An element reads as itself. -/
def heldR (v : Value) : Option (DataW Value × List MemPlace) := some (.held v, [])
/-- What stands at a key. -/
def view (D : DataW Value) (k : Lit) : Option Value := match D.atKey k .nil with
  | .held v => some v
  | _ => none
def upd (f : Lit → Option Value) (k : Lit) (v : Option Value) (k' : Lit) : Option Value := if k'.sameKey k = true then v else f k'
theorem same_iff {k k' : Lit} (hk : WideAt.IsKeyLit k) : k'.sameKey k = true ↔ k' = k := ⟨WideAt.sameKey_eq, fun h => by rw [h]; exact WideAt.sameKey_self hk⟩
theorem view_put {D : DataW Value} (hD : IsMap D) {k : Lit} (hk : WideAt.IsKeyLit k) (v : Value) : view (D.put k (.held v)) = upd (view D) k (some v) := by
  funext k'
  unfold upd
  by_cases h : k' = k
  · subst h
    rw [if_pos ((same_iff hk).2 rfl), view, atKey_put_same hD hk]
  · rw [if_neg (fun e => h ((same_iff hk).1 e)), view, atKey_put_other h]; rfl
theorem view_del {D : DataW Value} {k : Lit} (hk : WideAt.IsKeyLit k) : view (D.del k) = upd (view D) k none := by
  funext k'
  unfold upd
  by_cases h : k' = k
  · subst h
    rw [if_pos ((same_iff hk).2 rfl), view, atKey_del_same]
  · rw [if_neg (fun e => h ((same_iff hk).1 e)), view, atKey_del_other h]; rfl
theorem atKey_has {D : DataW Value} {k : Lit} (h : has D k = true) (z z' : DataW Value) : D.atKey k z = D.atKey k z' := by
  cases D <;> try (cases h; done)
  rename_i es
  unfold DataW.atKey
  simp only []
  cases hf : es.find? (fun p => p.1.sameKey k) with
  | some p => rfl
  | none =>
    rw [List.find?_eq_none] at hf
    rw [has_eq, List.any_eq_true] at h
    obtain ⟨p, h1, h2⟩ := h
    exact absurd h2 (hf p h1)
theorem look_view {D : DataW Value} {k : Lit} {v z : Value} {ps : List MemPlace} (h : heldR v = some (D.atKey k (.held z), ps)) : v = (view D k).getD z ∧ has D k = (view D k).isSome := by
  have h1 : DataW.held v = D.atKey k (.held z) := by
    unfold heldR at h
    injection h with h
    injection h
  cases hh : has D k with
  | false =>
    rw [atKey_of_not_has hh] at h1
    injection h1 with h1
    have : view D k = none := by unfold view; rw [atKey_of_not_has hh]
    rw [this, h1]
    exact ⟨rfl, rfl⟩
  | true =>
    have : view D k = some v := by unfold view; rw [atKey_has hh .nil (.held z), ← h1]
    rw [this]
    exact ⟨rfl, rfl⟩
/-- Block b is a map of at most n entries that leads from its keys as f does. -/
def MapF (w : World) (P : Program) (k : TypeId) (b n : Nat) (f : Lit → Option Value) : Prop := ∃ D : DataW Value, w.ownsMap P k heldR b n D ∧ view D = f
theorem MapF.made (w : World) (P : Program) (k : TypeId) : MapF (w.alloc (.map #[] 0)) P k w.heap.size 0 (fun _ => none) := ⟨_, World.ownsMap_made w P k heldR, by funext k; rfl⟩
theorem MapF.kept {w w' : World} {P : Program} {k : TypeId} {b n : Nat} {f : Lit → Option Value} (h : MapF w P k b n f) (hk : w'.heap[b]? = w.heap[b]?) : MapF w' P k b n f := by
  obtain ⟨D, ⟨es, clock, h1, h2, h3⟩, h4⟩ := h
  exact ⟨D, ⟨es, clock, by rw [hk]; exact h1, h2, h3⟩, h4⟩
theorem MapF.lt {w : World} {P : Program} {k : TypeId} {b n : Nat} {f : Lit → Option Value} (h : MapF w P k b n f) : b < w.heap.size := by
  obtain ⟨D, h1, _⟩ := h
  exact h1.lt
theorem MapF.mono {w : World} {P : Program} {k : TypeId} {b n n' : Nat} {f : Lit → Option Value} (h : MapF w P k b n f) (hn : n ≤ n') : MapF w P k b n' f := by
  obtain ⟨D, h1, h2⟩ := h
  exact ⟨D, h1.mono hn, h2⟩
theorem held_entries {w : World} {P : Program} {k : TypeId} {b n : Nat} {D : DataW Value} (h : w.ownsMap P k heldR b n D) (K : Keyed P k) : ∃ es, D = .map es ∧ es.Pairwise (fun p q => p.1 ≠ q.1) ∧ (∀ p ∈ es, WideAt.IsKeyLit p.1) ∧ ∀ p ∈ es, ∃ v, p.2 = .held v := by
  obtain ⟨es, rfl, h1, h2⟩ := h.entries K
  refine ⟨es, rfl, h1, h2, fun p hp => ?_⟩
  obtain ⟨es', clock, _, F, _, e⟩ := h
  injection e with e
  rw [e] at hp
  obtain ⟨x, hx, rfl⟩ := List.mem_map.1 (mem_sorted.1 hp)
  obtain ⟨y, hy⟩ := F.reads x hx
  rw [WideElems.rg_of hy]
  obtain ⟨z, hz, e2⟩ := WideElems.rd_val hy
  unfold heldR at hz
  injection hz with hz
  exact ⟨x.val, by rw [e2, ← hz]⟩
theorem size_keys {w : World} {P : Program} {k : TypeId} {b n : Nat} {D : DataW Value} (h : w.ownsMap P k heldR b n D) (K : Keyed P k) {ks : List Lit} (hn : ks.Nodup) (hk : ∀ kl, kl ∈ ks ↔ (view D kl).isSome = true) : Maps.size D = ks.length := by
  obtain ⟨es, rfl, h1, h2, h3⟩ := held_entries h K
  have hmem : ∀ kl, kl ∈ es.map (·.1) ↔ (view (.map es) kl).isSome = true := fun kl => by
    unfold view DataW.atKey
    simp only []
    cases hf : es.find? (fun p => p.1.sameKey kl) with
    | none =>
      rw [List.find?_eq_none] at hf
      constructor
      · intro hm
        obtain ⟨p, hp, rfl⟩ := List.mem_map.1 hm
        exact absurd (WideAt.sameKey_self (h2 p hp)) (hf p hp)
      · intro hm
        simp at hm
    | some p =>
      have hp := List.mem_of_find?_eq_some hf
      have hs := List.find?_some hf
      obtain ⟨v, hv⟩ := h3 p hp
      constructor
      · intro _
        simp [hv]
      · intro _
        exact List.mem_map.2 ⟨p, hp, WideAt.sameKey_eq hs⟩
  have hnd : (es.map (·.1)).Nodup := by
    rw [List.Nodup, List.pairwise_map]
    exact h1
  have hp : (es.map (·.1)).Perm ks := (List.perm_ext_iff_of_nodup hnd hn).2 (fun kl => (hmem kl).trans (hk kl).symm)
  have := hp.length_eq
  rw [List.length_map] at this
  exact this
theorem has_view {w : World} {P : Program} {k : TypeId} {b n : Nat} {D : DataW Value} (h : w.ownsMap P k heldR b n D) (K : Keyed P k) : Maps.has D = fun kl => (view D kl).isSome := by
  funext kl
  obtain ⟨es, rfl, h1, h2, h3⟩ := held_entries h K
  rw [has_eq]
  unfold view DataW.atKey
  simp only []
  cases hf : es.find? (fun p => p.1.sameKey kl) with
  | none =>
    rw [List.find?_eq_none] at hf
    rw [List.any_eq_false.2 (fun p hp => by simpa using hf p hp)]
    rfl
  | some p =>
    obtain ⟨v, hv⟩ := h3 p (List.mem_of_find?_eq_some hf)
    rw [List.any_eq_true.2 ⟨p, List.mem_of_find?_eq_some hf, List.find?_some hf⟩]
    simp [hv]
/-- Block r goes through the map; left: which entries are still to come. -/
def RanF (w : World) (P : Program) (k : TypeId) (b r n : Nat) (f : Lit → Option Value) (left : Lit → Bool) (cnt : Nat) : Prop := ∃ D : DataW Value, w.ranges P k heldR b r n D left cnt ∧ view D = f
section
variable {P : Program} {w : World} {ops : Array Oper} {rest : List Oper} {o : Oper} {a : Act} {Q : Exit → Act → World → Prop}
/-- 'm[x]'. -/
theorem wpList_lookup_F1 (hg : o.guard = none) (m x : Operand) (t : TypeId) (hop : o.op = Op.lookup t m x false) (k e : TypeId) (K : Keyed P k) (ht : P.underlying t = some (.map k e)) {z : Value} (hz : (zeroValue e).run P w = .ok z w) (b n : Nat) (f : Lit → Option Value)
    (hm : a.eval m = .map (some b)) (h : MapF w P k b n f) (key : Value) (kl : Lit) (hx : a.eval x = key) (hkey : keyOf P k key = some kl) (hK : wpList P ops Q rest (a.put o.dst ((f kl).getD z)) w) : wpList P ops Q (o :: rest) a w := by
  obtain ⟨D, h1, rfl⟩ := h
  obtain ⟨v, ps, hrun, hv⟩ := h1.lookup K ht hz (zd := .held z) (zp := []) rfl hkey
  obtain ⟨e1, _⟩ := look_view hv
  refine wpList_plain hg fun K' hK' => ?_
  unfold Oper.wp
  simp [execOp, hop, hm, hx, hrun, Result.andThen]
  rw [e1]
  exact hK' _ _ hK
/-- 'm[x] = v'. -/
theorem wpList_update_F (hg : o.guard = none) (m x v : Operand) (t : TypeId) (hop : o.op = Op.mapUpdate t m x v) (k e : TypeId) (K : Keyed P k) (ht : P.underlying t = some (.map k e)) (b n : Nat) (f : Lit → Option Value)
    (hm : a.eval m = .map (some b)) (h : MapF w P k b n f) (hn : n < maxLen) (key val : Value) (kl : Lit) (hx : a.eval x = key) (hv : a.eval v = val) (hkey : keyOf P k key = some kl) (hl : WideAt.IsKeyLit kl)
    (hK : ∀ w', MapF w' P k b (n + 1) (upd f kl (some val)) → w.grownBy w' (some b) → wpList P ops Q rest (a.put o.dst undef) w') : wpList P ops Q (o :: rest) a w := by
  obtain ⟨D, h1, rfl⟩ := h
  exact wpList_mapUpdate_own w hg m x v t hop k e K ht heldR b n D hm h1 hn key val kl hx hv hkey (.held val) [] rfl (fun w' h2 h3 => hK w' ⟨_, h2, view_put h1.isMap hl val⟩ h3)
/-- 'range m'. -/
theorem wpList_range_F (hg : o.guard = none) (m : Operand) (t : TypeId) (hop : o.op = Op.range t m) (k e : TypeId) (K : Keyed P k) (ht : P.underlying t = some (.map k e)) (b n : Nat) (f : Lit → Option Value) (hm : a.eval m = .map (some b)) (h : MapF w P k b n f)
    (hK : ∀ w' cnt, RanF w' P k b w.heap.size n f (fun kl => (f kl).isSome) cnt → w.grownBy w' none → w'.heap.size = w.heap.size + 1 → wpList P ops Q rest (a.put o.dst (.pointer (some ⟨w.heap.size, 0, none⟩))) w') : wpList P ops Q (o :: rest) a w := by
  obtain ⟨D, h1, rfl⟩ := h
  refine wpList_range_own w hg m t hop k e K ht heldR b n D hm h1 (fun w' h2 h3 h4 => hK w' (Maps.size D) ⟨D, by rw [has_view h1 K] at h2; exact h2, rfl⟩ h3 h4)
/-- The next entry. -/
theorem wpList_next_F (hg : o.guard = none) (it : Operand) (hop : o.op = Op.next it false) (k : TypeId) (K : Keyed P k) (hk : P.underlying k = some .string) (b r n : Nat) (f : Lit → Option Value) (left : Lit → Bool) (cnt : Nat)
    (hit : a.eval it = .pointer (some ⟨r, 0, none⟩)) (h : RanF w P k b r n f left cnt)
    (hDone : cnt = 0 → (∀ kl, left kl = false) → wpList P ops Q rest (a.put o.dst (.tuple #[.bool false])) w)
    (hMore : ∀ (x : ByteArray) (c : Value) (w' : World) (cnt' : Nat), x.size ≤ maxLen → left (.string x.data.toList) = true → f (.string x.data.toList) = some c → RanF w' P k b r n f (fun z => left z && !z.sameKey (.string x.data.toList)) cnt' → cnt' < cnt →
      w.grownBy w' (some r) → w'.heap.size = w.heap.size → (Instr.entry (.pointer (some ⟨r, 0, none⟩))).run P w' = .ok (.tuple #[.string x, c]) w' → wpList P ops Q rest (a.put o.dst (.tuple #[.bool true, .string x, c])) w') : wpList P ops Q (o :: rest) a w := by
  obtain ⟨D, h1, rfl⟩ := h
  refine wpList_next_ranges w hg it hop k K heldR (fun x : ByteArray => .string x) (fun c : Value => c) (fun key kl hkey => Maps.keyOf_string_inv hk hkey) (fun v y _ => ⟨v, rfl⟩) b r n D left cnt hit h1 hDone (fun x c kl y w' cnt' h2 h3 h4 h5 h6 h7 h8 h9 h10 => ?_)
  have hx : x.size ≤ maxLen := by
    by_cases hs : x.size ≤ maxLen
    · exact hs
    · rw [keyOf_string hk] at h2
      simp [mapKey, hk, hs] at h2
  have e : kl = .string x.data.toList := Option.some.inj (h2.symm.trans (WideMaps.keyOf_string_mk hk hx))
  subst e
  refine hMore x c w' cnt' hx h3 ?_ ⟨D, h6, rfl⟩ h7 h8 h9 h10
  unfold heldR at h4
  injection h4 with h4
  unfold view
  rw [h5 .nil, ← h4]
/-- 'delete(m, x)'. -/
theorem wpList_delete_F (hg : o.guard = none) (m x : Operand) (t k : TypeId) (hop : o.op = Op.call { callee := Callee.builtin Builtin.delete, args := #[m, x], argTypes := #[t, k] }) (e : TypeId) (K : Keyed P k) (ht : P.underlying t = some (.map k e)) (b n : Nat) (f : Lit → Option Value)
    (hm : a.eval m = .map (some b)) (h : MapF w P k b n f) (key : Value) (kl : Lit) (hx : a.eval x = key) (hkey : keyOf P k key = some kl) (hl : WideAt.IsKeyLit kl)
    (hK : ∀ w', MapF w' P k b n (upd f kl none) → w.grownBy w' (some b) → wpList P ops Q rest (a.put o.dst (.tuple #[])) w') : wpList P ops Q (o :: rest) a w := by
  obtain ⟨D, h1, rfl⟩ := h
  exact wpList_delete_own w hg m x t k hop e K ht heldR b n D hm h1 key kl hx hkey (fun w' h2 h3 => hK w' ⟨_, h2, view_del hl⟩ h3.grown)
end
end Go.Proofs.YtaokifbpakbgdaaGreatDoor

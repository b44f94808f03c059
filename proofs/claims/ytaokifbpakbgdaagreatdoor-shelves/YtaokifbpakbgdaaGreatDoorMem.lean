/-
  Data sets in memory: which slice reads as which tree; worlds that only grow, one block left aside (no program).
-/
import Derived.Test.YtaokifbpakbgdaaGreatDoorTree
import Derived.Laws.IdiomStrings
import Derived.ArgAppend
import Derived.Lib.ConvBytes
namespace Go.Proofs.YtaokifbpakbgdaaGreatDoor
open Go.RowKit

def bs (l : By) : ByteArray := ⟨⟨l⟩⟩
theorem bs_list (l : By) : (bs l).data.toList = l := rfl
theorem bs_size (l : By) : (bs l).size = l.length := rfl
theorem bs_toList (l : By) : (bs l).toList = l := ByteArray.toList_eq (bs l)
theorem bs_of (s : ByteArray) : bs s.data.toList = s := rfl
theorem bs_inj {a b : By} (h : bs a = bs b) : a = b := by
  have := congrArg (fun x : ByteArray => x.data.toList) h
  exact this

theorem add_block (a : Addr) (n : Nat) : (a.add n).block = a.block := by unfold Addr.add; split <;> rfl
/-- A slice of things that lie 'size' cells apart, in blocks of F. -/
def Sl {α : Type} (F : Nat → Prop) (size : Nat) (R : Addr → α → Prop) (v : Value) (l : List α) : Prop :=
  ∃ ad cap, v = .slice ad l.length cap ∧ ∀ i x, l[i]? = some x → ∃ a, ad = some a ∧ F a.block ∧ R (a.add (size * i)) x
/-- The slice v reads as the elements l. -/
def Rd (w : World) (F : Nat → Prop) : (n : Nat) → Value → List (El n) → Prop
  | 0 => Sl F 4 (fun _ _ => True)
  | n + 1 => Sl F 4 (fun a (x : El (n + 1)) => w.cell? a = some (.int .i64 x.1) ∧ w.cell? (a.add 1) = some (.string (bs x.2.1)) ∧ w.cell? (a.add 2) = some (.string (bs x.2.2.1)) ∧
      ∃ iv, w.cell? (a.add 3) = some iv ∧ Sl F 1 (fun b s => ∃ sv, w.cell? b = some sv ∧ Rd w F n sv s) iv x.2.2.2)
/-- The slice v reads as the items l. -/
def RdI (w : World) (F : Nat → Prop) (n : Nat) : Value → Its n → Prop := Sl F 1 (fun b s => ∃ sv, w.cell? b = some sv ∧ Rd w F n sv s)
theorem Rd_succ (w : World) (F : Nat → Prop) (n : Nat) (v : Value) (l : List (El (n + 1))) : Rd w F (n + 1) v l = Sl F 4 (fun a (x : El (n + 1)) => w.cell? a = some (.int .i64 x.1) ∧ w.cell? (a.add 1) = some (.string (bs x.2.1)) ∧
    w.cell? (a.add 2) = some (.string (bs x.2.2.1)) ∧ ∃ iv, w.cell? (a.add 3) = some iv ∧ RdI w F n iv x.2.2.2) v l := rfl
theorem Sl.mono {α : Type} {F F' : Nat → Prop} {size : Nat} {R R' : Addr → α → Prop} {v : Value} {l : List α} (h : Sl F size R v l) (hlo : ∀ j, F j → F' j) (hR : ∀ a x, F a.block → x ∈ l → R a x → R' a x) : Sl F' size R' v l := by
  obtain ⟨ad, cap, hv, hc⟩ := h
  refine ⟨ad, cap, hv, fun i x hx => ?_⟩
  obtain ⟨a, ha, hb, hr⟩ := hc i x hx
  exact ⟨a, ha, hlo _ hb, hR _ x (by rwa [add_block]) (List.mem_of_getElem? hx) hr⟩
theorem cell_keep {w w' : World} {p : Addr} {v : Value} (h : w'.heap[p.block]? = w.heap[p.block]?) (hc : w.cell? p = some v) : w'.cell? p = some v := by rw [World.cell?_of_block h]; exact hc
theorem Rd.keep {w w' : World} {F F' : Nat → Prop} (hlo : ∀ j, F j → F' j) (h : ∀ j, F j → j < w.heap.size → w'.heap[j]? = w.heap[j]?) : ∀ (n : Nat) (v : Value) (l : List (El n)), Rd w F n v l → Rd w' F' n v l
  | 0, _, _, hr => hr.mono hlo (fun _ _ _ _ _ => trivial)
  | n + 1, _, _, hr => by
    have hcell : ∀ (p : Addr) (v : Value), F p.block → w.cell? p = some v → w'.cell? p = some v := fun p v hp hc => cell_keep (h _ hp (World.block_lt_of_cell? _ _ hc)) hc
    refine Sl.mono hr hlo (fun a x ha _ => ?_)
    rintro ⟨h1, h2, h3, iv, h4, h5⟩
    refine ⟨hcell _ _ ha h1, hcell _ _ (by rwa [add_block]) h2, hcell _ _ (by rwa [add_block]) h3, iv, hcell _ _ (by rwa [add_block]) h4, h5.mono hlo (fun b s hb _ => ?_)⟩
    rintro ⟨sv, h6, h7⟩
    exact ⟨sv, hcell _ _ hb h6, Rd.keep hlo h n sv s h7⟩
theorem RdI.keep {w w' : World} {F F' : Nat → Prop} (hlo : ∀ j, F j → F' j) (h : ∀ j, F j → j < w.heap.size → w'.heap[j]? = w.heap[j]?) (n : Nat) (v : Value) (l : Its n) (hr : RdI w F n v l) : RdI w' F' n v l := by
  refine Sl.mono hr hlo (fun b s hb _ => ?_)
  rintro ⟨sv, h6, h7⟩
  exact ⟨sv, cell_keep (h _ hb (World.block_lt_of_cell? _ _ h6)) h6, Rd.keep hlo h n sv s h7⟩
theorem Rd.slice {w : World} {F : Nat → Prop} {n : Nat} {v : Value} {l : List (El n)} (h : Rd w F n v l) : ∃ ad cap, v = .slice ad l.length cap := by
  cases n with
  | zero => obtain ⟨ad, cap, h, _⟩ := h; exact ⟨ad, cap, h⟩
  | succ n => obtain ⟨ad, cap, h, _⟩ := h; exact ⟨ad, cap, h⟩
theorem RdI.slice {w : World} {F : Nat → Prop} {n : Nat} {v : Value} {l : Its n} (h : RdI w F n v l) : ∃ ad cap, v = .slice ad l.length cap := by
  obtain ⟨ad, cap, h, _⟩ := h; exact ⟨ad, cap, h⟩
theorem Rd.nil (w : World) (F : Nat → Prop) (n : Nat) : Rd w F n (.slice none 0 0) [] := by
  cases n with
  | zero => exact ⟨none, 0, rfl, fun i x hx => by simp at hx⟩
  | succ n => exact ⟨none, 0, rfl, fun i x hx => by simp at hx⟩
theorem RdI.nil (w : World) (F : Nat → Prop) (n : Nat) : RdI w F n (.slice none 0 0) [] := ⟨none, 0, rfl, fun i x hx => by simp at hx⟩
/-- The cells of the element of that place. -/
theorem Rd.at {w : World} {F : Nat → Prop} {n : Nat} {ad : Option Addr} {len cap : Nat} {l : List (El (n + 1))} (h : Rd w F (n + 1) (.slice ad len cap) l) {i : Nat} {x : El (n + 1)} (hx : l[i]? = some x) :
    ∃ a ad2 cap2, ad = some a ∧ F a.block ∧ w.cell? (a.add (i * 4)) = some (.int .i64 x.1) ∧ w.cell? ⟨(a.add (i * 4)).block, (a.add (i * 4)).off + 1, none⟩ = some (.string (bs x.2.1)) ∧ w.cell? ⟨(a.add (i * 4)).block, (a.add (i * 4)).off + 2, none⟩ = some (.string (bs x.2.2.1)) ∧
      w.cell? ⟨(a.add (i * 4)).block, (a.add (i * 4)).off + 3, none⟩ = some (.slice ad2 x.2.2.2.length cap2) ∧ RdI w F n (.slice ad2 x.2.2.2.length cap2) x.2.2.2 := by
  obtain ⟨ad', cap', e, hc⟩ := h
  obtain ⟨a, rfl, hF, h0, h1, h2, iv, h3, h4⟩ := hc i x hx
  obtain ⟨ad2, cap2, rfl⟩ := RdI.slice (n := n) h4
  simp only [Value.slice.injEq] at e
  rw [Nat.mul_comm] at h0 h1 h2 h3
  exact ⟨a, ad2, cap2, e.1, hF, h0, h1, h2, h3, h4⟩
theorem Rd.up {w w' : World} {F : Nat → Prop} {n : Nat} {v : Value} {l : List (El n)} (h : Rd w F n v l) (k : Below w.heap.size w w') : Rd w' F n v l := h.keep (fun _ h => h) (fun j _ hj => k.block j hj)
theorem RdI.up {w w' : World} {F : Nat → Prop} {n : Nat} {v : Value} {l : Its n} (h : RdI w F n v l) (k : Below w.heap.size w w') : RdI w' F n v l := h.keep (fun _ h => h) (fun j _ hj => k.block j hj)

/-- Nothing that was there has turned, one block left aside. -/
def UpB (b : Nat) (w w' : World) : Prop := (w'.os = w.os ∧ w'.tape = w.tape ∧ w'.output = w.output) ∧ w.heap.size ≤ w'.heap.size ∧ ∀ j, j < w.heap.size → j ≠ b → w'.heap[j]? = w.heap[j]?
theorem UpB.size {b : Nat} {w w' : World} (h : UpB b w w') : w.heap.size ≤ w'.heap.size := h.2.1
theorem UpB.block {b : Nat} {w w' : World} (h : UpB b w w') {j : Nat} (hj : j < w.heap.size) (hb : j ≠ b) : w'.heap[j]? = w.heap[j]? := h.2.2 j hj hb
theorem UpB.refl (b : Nat) (w : World) : UpB b w w := ⟨⟨rfl, rfl, rfl⟩, Nat.le_refl _, fun _ _ _ => rfl⟩
theorem UpB.trans {b : Nat} {a c d : World} (h : UpB b a c) (k : UpB b c d) : UpB b a d :=
  ⟨⟨k.1.1.trans h.1.1, k.1.2.1.trans h.1.2.1, k.1.2.2.trans h.1.2.2⟩, Nat.le_trans h.size k.size, fun _ hj hb => (k.block (Nat.lt_of_lt_of_le hj h.size) hb).trans (h.block hj hb)⟩
theorem UpB.below {b : Nat} {w w' : World} (h : UpB b w w') {B : Nat} (hB : B ≤ b) (hw : B ≤ w.heap.size) : Below B w w' := ⟨h.1.1, h.1.2.1, h.1.2.2, h.size, fun j hj => h.block (by omega) (by omega)⟩
theorem UpB.of_below {b : Nat} {w w' : World} (h : Below w.heap.size w w') : UpB b w w' := ⟨⟨h.os, h.tape, h.output⟩, h.size, fun j hj _ => h.block j hj⟩
theorem UpB.drew {b : Nat} {w w' : World} (h : UpB b w w') : UpB b w w'.drew := ⟨h.1, h.2⟩
theorem UpB.alloc {b : Nat} {w w' : World} (h : UpB b w w') (o : Obj) : UpB b w (w'.alloc o) := h.trans (UpB.of_below (Below.alloc (Below.refl _ _) (Nat.le_refl _) o))
theorem UpB.setCell {b : Nat} {w w' : World} (h : UpB b w w') {p : Addr} (hp : p.block = b ∨ w.heap.size ≤ p.block) (u : Value) : UpB b w (w'.setCell p u) :=
  ⟨⟨h.1.1, h.1.2.1, h.1.2.2⟩, by have := h.size; simpa using this, fun j hj hb => by rw [Below.heap_setCell w' p u j (by rcases hp with hp | hp <;> omega)]; exact h.block hj hb⟩
theorem UpB.grown {b : Nat} {w a a' : World} {row : Option Nat} (h : UpB b w a) (hg : a.grownBy a' row) (hr : ∀ k, row = some k → k = b ∨ w.heap.size ≤ k) : UpB b w a' :=
  ⟨⟨hg.os.trans h.1.1, hg.tape.trans h.1.2.1, hg.output.trans h.1.2.2⟩, Nat.le_trans h.size hg.size, fun j hj hb => by
    rw [hg.block j (Nat.lt_of_lt_of_le hj h.size) (fun e => by rcases hr j e.symm with e | e <;> omega)]
    exact h.block hj hb⟩

/- LISTS THAT WERE BUILT: each row of cells is a block of its own. -/
/-- Cells, k of each thing, and the blocks that lie beneath. -/
def Ls {α : Type} (k : Nat) (R : List Value → α → List Nat → Prop) : List Value → List α → List Nat → Prop
  | xs, [], bs => xs = [] ∧ bs = []
  | xs, x :: l, bs => ∃ c ys b cs, xs = c ++ ys ∧ c.length = k ∧ R c x b ∧ Ls k R ys l cs ∧ bs = b ++ cs
theorem Ls.mono {α : Type} {k : Nat} {R R' : List Value → α → List Nat → Prop} : ∀ {l : List α} {xs : List Value} {bs : List Nat}, Ls k R xs l bs → (∀ c x b, (∀ j ∈ b, j ∈ bs) → x ∈ l → R c x b → R' c x b) → Ls k R' xs l bs
  | [], _, _, h, _ => h
  | x :: l, xs, bs, h, hR => by
    obtain ⟨c, ys, b, cs, e1, e2, h1, h2, e3⟩ := h
    refine ⟨c, ys, b, cs, e1, e2, hR c x b (fun j hj => by rw [e3]; exact List.mem_append_left _ hj) List.mem_cons_self h1, h2.mono (fun c y b hb hy => hR c y b (fun j hj => by rw [e3]; exact List.mem_append_right _ (hb j hj)) (List.mem_cons_of_mem _ hy)), e3⟩
theorem Ls.snoc {α : Type} {k : Nat} {R : List Value → α → List Nat → Prop} {c : List Value} {x : α} {b : List Nat} (hc : c.length = k) (hx : R c x b) : ∀ {l : List α} {xs : List Value} {bs : List Nat}, Ls k R xs l bs → Ls k R (xs ++ c) (l ++ [x]) (bs ++ b)
  | [], xs, bs, h => by
    obtain ⟨rfl, rfl⟩ := h
    exact ⟨c, [], b, [], by simp, hc, hx, ⟨rfl, rfl⟩, by simp⟩
  | y :: l, xs, bs, h => by
    obtain ⟨d, ys, b', cs, rfl, e2, h1, h2, rfl⟩ := h
    exact ⟨d, ys ++ c, b', cs ++ b, by simp, e2, h1, Ls.snoc hc hx h2, by simp⟩
theorem Ls.length {α : Type} {k : Nat} {R : List Value → α → List Nat → Prop} : ∀ {l : List α} {xs : List Value} {bs : List Nat}, Ls k R xs l bs → xs.length = l.length * k
  | [], xs, bs, h => by obtain ⟨rfl, rfl⟩ := h; simp
  | y :: l, xs, bs, h => by
    obtain ⟨d, ys, b', cs, rfl, e2, h1, h2, rfl⟩ := h
    rw [List.length_append, h2.length, e2, List.length_cons, Nat.succ_mul, Nat.add_comm]
theorem Ls.at {α : Type} {k : Nat} {R : List Value → α → List Nat → Prop} : ∀ {l : List α} {xs : List Value} {bs : List Nat}, Ls k R xs l bs → ∀ (i : Nat) (x : α), l[i]? = some x → ∃ c b, R c x b ∧ c.length = k ∧ (∀ j ∈ b, j ∈ bs) ∧ ∀ t u, c[t]? = some u → xs[k * i + t]? = some u
  | [], _, _, _, i, x, hx => by simp at hx
  | y :: l, xs, bs, h, i, x, hx => by
    obtain ⟨d, ys, b', cs, rfl, e2, h1, h2, rfl⟩ := h
    cases i with
    | zero =>
      simp only [List.getElem?_cons_zero, Option.some.injEq] at hx
      subst hx
      refine ⟨d, b', h1, e2, fun j hj => List.mem_append_left _ hj, fun t u hu => ?_⟩
      have := (List.getElem?_eq_some_iff.1 hu).1
      rw [Nat.mul_zero, Nat.zero_add, List.getElem?_append_left this, hu]
    | succ i =>
      simp only [List.getElem?_cons_succ] at hx
      obtain ⟨c, b, g1, g2, g3, g4⟩ := h2.at i x hx
      refine ⟨c, b, g1, g2, fun j hj => List.mem_append_right _ (g3 j hj), fun t u hu => ?_⟩
      rw [List.getElem?_append_right (by rw [e2, Nat.mul_succ]; omega), e2, show k * (i + 1) + t - k = k * i + t by rw [Nat.mul_succ]; omega]
      exact g4 t u hu
/-- The slice v is a row of its own, and its cells tell the things l. -/
def Row {α : Type} (w : World) (T : TypeId) (k : Nat) (R : List Value → α → List Nat → Prop) (v : Value) (l : List α) (bs : List Nat) : Prop :=
  ∃ xs cs, w.ownsRow 0 T k v l.length xs ∧ Ls k R xs l cs ∧ bs = v.ownBlock.toList ++ cs
/-- The slice v was built, and reads as the elements l; bs: its blocks. -/
def Ow (w : World) : (n : Nat) → Value → List (El n) → List Nat → Prop
  | 0 => Row w 73 4 (fun _ _ b => b = [])
  | n + 1 => Row w 73 4 (fun c (x : El (n + 1)) b => ∃ iv, c = [.int .i64 x.1, .string (bs x.2.1), .string (bs x.2.2.1), iv] ∧ Row w 182 1 (fun c s b => ∃ sv, c = [sv] ∧ Ow w n sv s b) iv x.2.2.2 b)
def OwI (w : World) (n : Nat) : Value → Its n → List Nat → Prop := Row w 182 1 (fun c s b => ∃ sv, c = [sv] ∧ Ow w n sv s b)
/-- The four cells of an element. -/
def CE (w : World) : (n : Nat) → List Value → El n → List Nat → Prop
  | 0, _, _, b => b = []
  | n + 1, c, x, b => ∃ iv, c = [.int .i64 x.1, .string (bs x.2.1), .string (bs x.2.2.1), iv] ∧ OwI w n iv x.2.2.2 b
theorem Ow_eq (w : World) (n : Nat) (v : Value) (l : List (El n)) (b : List Nat) : Ow w n v l b = Row w 73 4 (CE w n) v l b := by
  cases n <;> rfl
theorem ownsRow_keep {w w' : World} {base : Nat} {e : TypeId} {size : Nat} {v : Value} {n : Nat} {xs : List Value} (h : w.ownsRow base e size v n xs) (k : ∀ j ∈ v.ownBlock.toList, w'.heap[j]? = w.heap[j]?) : w'.ownsRow base e size v n xs := by
  obtain ⟨h1, h2⟩ := h
  refine ⟨h1, ?_⟩
  rcases h2 with h2 | ⟨g, cap, cur, rfl, hg, hh, r⟩
  · exact Or.inl h2
  · exact Or.inr ⟨g, cap, cur, rfl, hg, by rw [k g (by simp [Value.ownBlock])]; exact hh, r⟩
theorem ownsRow_lt {w : World} {base : Nat} {e : TypeId} {size : Nat} {v : Value} {n : Nat} {xs : List Value} (h : w.ownsRow base e size v n xs) : ∀ j ∈ v.ownBlock.toList, j < w.heap.size := by
  intro j hj
  rcases h.2 with ⟨rfl, _⟩ | ⟨g, cap, cur, rfl, hg, hh, r⟩
  · cases hj
  · simp [Value.ownBlock] at hj
    subst hj
    exact lt_of_block hh
theorem Row.keep {α : Type} {w w' : World} {T : TypeId} {k : Nat} {R R' : List Value → α → List Nat → Prop} {v : Value} {l : List α} {bs : List Nat} (h : Row w T k R v l bs) (hk : ∀ j ∈ bs, w'.heap[j]? = w.heap[j]?)
    (hR : ∀ c x b, (∀ j ∈ b, j ∈ bs) → x ∈ l → R c x b → R' c x b) : Row w' T k R' v l bs := by
  obtain ⟨xs, cs, h1, h2, rfl⟩ := h
  exact ⟨xs, cs, ownsRow_keep h1 (fun j hj => hk j (List.mem_append_left _ hj)), h2.mono (fun c x b hb hx => hR c x b (fun j hj => List.mem_append_right _ (hb j hj)) hx), rfl⟩
theorem Ow.keep {w w' : World} : ∀ (n : Nat) (v : Value) (l : List (El n)) (bs : List Nat), Ow w n v l bs → (∀ j ∈ bs, w'.heap[j]? = w.heap[j]?) → Ow w' n v l bs
  | 0, v, l, bs, h, hk => Row.keep h hk (fun _ _ _ _ _ h => h)
  | n + 1, v, l, bs, h, hk => Row.keep h hk (fun c x b hb _ => by
      rintro ⟨iv, e, h1⟩
      exact ⟨iv, e, Row.keep h1 (fun j hj => hk j (hb j hj)) (fun c s b' hb' _ => by
        rintro ⟨sv, e, h2⟩
        exact ⟨sv, e, Ow.keep n sv s b' h2 (fun j hj => hk j (hb j (hb' j hj)))⟩)⟩)
theorem OwI.keep {w w' : World} {n : Nat} {v : Value} {l : Its n} {bs : List Nat} (h : OwI w n v l bs) (hk : ∀ j ∈ bs, w'.heap[j]? = w.heap[j]?) : OwI w' n v l bs :=
  Row.keep h hk (fun c s b' hb' _ => by
    rintro ⟨sv, e, h2⟩
    exact ⟨sv, e, Ow.keep n sv s b' h2 (fun j hj => hk j (hb' j hj))⟩)
theorem CE.keep {w w' : World} {n : Nat} {c : List Value} {x : El n} {b : List Nat} (h : CE w n c x b) (hk : ∀ j ∈ b, w'.heap[j]? = w.heap[j]?) : CE w' n c x b := by
  cases n with
  | zero => exact h
  | succ n =>
    obtain ⟨iv, e, h1⟩ := h
    exact ⟨iv, e, h1.keep hk⟩
theorem Ow.nil (w : World) (n : Nat) : Ow w n (.slice none 0 0) [] [] := by
  rw [Ow_eq]
  exact ⟨[], [], World.ownsRow_nil _ _ _ _, ⟨rfl, rfl⟩, rfl⟩
theorem OwI.nil (w : World) (n : Nat) : OwI w n (.slice none 0 0) [] [] := ⟨[], [], World.ownsRow_nil _ _ _ _, ⟨rfl, rfl⟩, rfl⟩
theorem CE.mk {w : World} {n : Nat} {t : Int} {k v : By} {its : Its (n - 1)} {iv : Value} {b : List Nat} (h : OwI w (n - 1) iv its b) : ∃ b', (∀ j ∈ b', j ∈ b) ∧ (b.Nodup → b'.Nodup) ∧ CE w n [.int .i64 t, .string (bs k), .string (bs v), iv] (mkE n t k v its) b' := by
  cases n with
  | zero => exact ⟨[], (fun _ hj => nomatch hj), (fun _ => List.nodup_nil), rfl⟩
  | succ n => exact ⟨b, fun _ h => h, fun h => h, iv, rfl, h⟩
/-- What a built row reads as. -/
theorem Row.read {α : Type} {w : World} {T : TypeId} {k : Nat} {R : List Value → α → List Nat → Prop} {v : Value} {l : List α} {bs : List Nat} (h : Row w T k R v l bs) (F : Nat → Prop) (hF : ∀ j ∈ bs, F j) (S : Addr → α → Prop)
    (hS : ∀ (a : Addr) c x b, F a.block → a.spot = none → R c x b → c.length = k → (∀ j ∈ b, j ∈ bs) → (∀ t u, c[t]? = some u → w.cell? (a.add t) = some u) → S a x) : Sl F k S v l := by
  obtain ⟨xs, cs, hown, hls, rfl⟩ := h
  obtain ⟨hl, hv⟩ := id hown
  rcases hv with ⟨rfl, hn⟩ | ⟨g, cap, cur, rfl, _⟩
  · have : l = [] := List.eq_nil_of_length_eq_zero hn
    subst this
    exact ⟨none, 0, rfl, fun i x hx => by simp at hx⟩
  · refine ⟨_, cap, rfl, fun i x hx => ⟨_, rfl, hF g (by simp [Value.ownBlock]), ?_⟩⟩
    have hi := (List.getElem?_eq_some_iff.1 hx).1
    obtain ⟨c, b, h1, h2, h3, h4⟩ := hls.at i x hx
    have ea : ((⟨g, 0, none⟩ : Addr).add (k * i)) = ⟨g, k * i, none⟩ := by rw [Addr.add_lit, Nat.zero_add]
    rw [ea]
    refine hS _ c x b (hF g (by simp [Value.ownBlock])) rfl h1 h2 (fun j hj => List.mem_append_right _ (h3 j hj)) (fun t u hu => ?_)
    have ht := (List.getElem?_eq_some_iff.1 hu).1
    have hb : k * i + k ≤ l.length * k := by
      have := Nat.mul_le_mul_right k (show i + 1 ≤ l.length by omega)
      rw [Nat.succ_mul, Nat.mul_comm i k] at this
      exact this
    rw [Addr.add_lit, hown.cellAt _ (by omega)]
    exact h4 t u hu
theorem Ow.rd {w : World} : ∀ (n : Nat) (v : Value) (l : List (El n)) (bs : List Nat) (F : Nat → Prop), Ow w n v l bs → (∀ j ∈ bs, F j) → Rd w F n v l
  | 0, v, l, bs, F, h, hF => Row.read h F hF _ (fun _ _ _ _ _ _ _ _ _ _ => trivial)
  | n + 1, v, l, bs, F, h, hF => Row.read h F hF _ (fun a c x b _ _ => by
      rintro ⟨iv, rfl, h1⟩ _ hb hc
      have c0 := hc 0 _ rfl
      rw [Addr.add_zero'] at c0
      refine ⟨c0, hc 1 _ rfl, hc 2 _ rfl, iv, hc 3 _ rfl, Row.read h1 F (fun j hj => hF j (hb j hj)) _ (fun a c s b' _ _ => ?_)⟩
      rintro ⟨sv, rfl, h2⟩ _ hb' hc'
      have d0 := hc' 0 _ rfl
      rw [Addr.add_zero'] at d0
      exact ⟨sv, d0, Ow.rd n sv s b' F h2 (fun j hj => hF j (hb j (hb' j hj)))⟩)
/-- The row stays where it was, or is a new block. -/
def Moved (w : World) (v v' : Value) : Prop := v'.ownBlock = v.ownBlock ∨ ∀ g ∈ v'.ownBlock.toList, w.heap.size ≤ g
/-- 'append' of new cells to a row of one's own: the row stays where it was, or is a new block. -/
theorem wpList_append_sep {P : Program} (w : World) {ops : Array Oper} {rest : List Oper} {o : Oper} {a : Act} {Q : Exit → Act → World → Prop}
    (hg : o.guard = none) (s x : Operand) (t : TypeId) (hop : o.op = Op.call { callee := Callee.builtin Builtin.append, args := #[s, x], argTypes := #[t, t] })
    (e : TypeId) (i : TypeInfo) (z : Value) (size bytes : Nat) (h1 : P.underlying t = some (.slice e)) (h2 : P.info? e = some i) (h3 : i.zero = some z) (h4 : i.size = size) (h5 : i.bytes = bytes) (h6 : z.cells.size = size) (h7 : 0 < size)
    (v : Value) (n : Nat) (xs : List Value) (hs : a.eval s = v) (hown : w.ownsRow 0 e size v n xs)
    (ad : Addr) (m c : Nat) (news : List Value) (hx : a.eval x = .slice (some ad) m c) (hn : news.length = m * size) (hc : ∀ j u, news[j]? = some u → w.cell? (ad.add j) = some u) (h1c : ∀ u ∈ news, u.oneCell' = true)
    (b1 : n + m ≤ maxLen) (b2 : (n + m) * bytes ≤ 140737488355328)
    (hK : ∀ v' w', w'.ownsRow 0 e size v' (n + m) (xs ++ news) → w.grownBy w' v.ownBlock → Moved w v v' → wpList P ops Q rest (a.put o.dst v') w') :
    wpList P ops Q (o :: rest) a w := by
  have weak : ∀ {w' : World} {v' : Value} {k : Nat} {ys : List Value}, w'.ownsRow w.heap.size e size v' k ys → w'.ownsRow 0 e size v' k ys ∧ ∀ g ∈ v'.ownBlock.toList, w.heap.size ≤ g := by
    rintro w' v' k ys ⟨q1, q2⟩
    rcases q2 with ⟨rfl, q2⟩ | ⟨g, cap, cur, rfl, q2, q3⟩
    · exact ⟨⟨q1, Or.inl ⟨rfl, q2⟩⟩, fun g hg => by cases hg⟩
    · exact ⟨⟨q1, Or.inr ⟨g, cap, cur, rfl, Nat.zero_le _, q3⟩⟩, fun j hj => by simp [Value.ownBlock] at hj; omega⟩
  obtain ⟨k1, k2⟩ := id hown
  rcases k2 with ⟨rfl, rfl⟩ | ⟨g, cap, cur, rfl, _⟩
  · have : xs = [] := List.eq_nil_of_length_eq_zero (by simpa using k1)
    subst this
    exact wpList_append_own w hg s x t hop w.heap.size e i z size bytes h1 h2 h3 h4 h5 h6 h7 _ 0 [] hs (World.ownsRow_nil _ _ _ _) ad m c news hx hn hc h1c b1 b2 (Nat.le_refl _) (fun v' w' q1 q2 _ => hK v' w' (weak q1).1 q2 (Or.inr (weak q1).2))
  · by_cases hf : n + m ≤ cap
    · exact wpList_append_fits w hg s x t hop 0 e i size h1 h2 h4 g n cap xs hs hown ad m c news hx hn hc h1c hf (fun w' q1 q2 => hK _ w' q1 q2 (Or.inl rfl))
    · refine wpList_append_grows w hg s x t hop e i z size bytes h1 h2 h3 h4 h5 h6 h7 _ n cap xs hs (fun h => by cases h) k1 (fun b hb j u hu => ?_) ad m c news hx hn hc h1c (by omega) b1 b2 (fun v' w' q1 q2 => hK v' w' (weak q1).1 ?_ (Or.inr (weak q1).2))
      · obtain rfl := Option.some.inj hb
        have hj := (List.getElem?_eq_some_iff.1 hu).1
        rw [Addr.add_lit, Nat.zero_add, hown.cellAt _ (by omega)]
        exact hu
      · exact ⟨q2.os, q2.tape, q2.output, q2.size, fun k hk _ => q2.block k hk (by simp)⟩
end Go.Proofs.YtaokifbpakbgdaaGreatDoor

/-
  Several texts in one; what each one has stands at its head.
-/
import Derived.Test.YtaokifbpakbgdaaGreatDoorPut3
import Derived.Laws.IdiomStrings
import Derived.ArgAppend
import Derived.Lib.ConvBytes
import Derived.Test.YtaokifbpakbgdaaGreatDoorRows
import Derived.Test.YtaokifbpakbgdaaGreatDoorShelf
import Derived.WalkKit
import Derived.Recover
import Derived.WalkLawsBesides
import Derived.Laws.BitsAllLaws
/- Data sets in memory: which slice reads as which tree; worlds that only grow, one block left aside (no program). -/
namespace Go.Proofs.YtaokifbpakbgdaaGreatDoor
open Go.RowKit

def bs (l : By) : ByteArray := ⟨⟨l⟩⟩
theorem bs_list (l : By) : (bs l).data.toList = l := rfl
theorem bs_size (l : By) : (bs l).size = l.length := rfl
theorem bs_toList (l : By) : (bs l).toList = l := ByteArray.toList_eq (bs l)
theorem bs_of (s : ByteArray) : bs s.data.toList = s := rfl
theorem add_block (a : Addr) (n : Nat) : (a.add n).block = a.block := by unfold Addr.add; split <;> rfl
/-- A slice of things that lie 'size' cells apart, in blocks of F. -/
def Sl {α : Type} (F : Nat → Prop) (size : Nat) (R : Addr → α → Prop) (v : Value) (l : List α) : Prop :=
  ∃ ad cap, v = .slice ad l.length cap ∧ ∀ i x, l[i]? = some x → ∃ a, ad = some a ∧ F a.block ∧ R (a.add (size * i)) x
/-- The slice v reads as the elements l. -/
def Rd (w : World) (F : Nat → Prop) : (n : Nat) → Value → List (El n) → Prop
  | 0 => Sl F 4 (fun _ _ => True)
  | n + 1 => Sl F 4 (fun a (x : El (n + 1)) => w.cell? a = some (.int .i64 x.1) ∧ w.cell? (a.add 1) = some (.string (bs x.2.1)) ∧ w.cell? (a.add 2) = some (.string (bs x.2.2.1)) ∧
      ∃ iv, w.cell? (a.add 3) = some iv ∧ Sl F 1 (fun b s => ∃ sv, w.cell? b = some sv ∧ Rd w F n sv s) iv x.2.2.2)
/-- The slice v reads as the items l. -/
def RdI (w : World) (F : Nat → Prop) (n : Nat) : Value → Its n → Prop := Sl F 1 (fun b s => ∃ sv, w.cell? b = some sv ∧ Rd w F n sv s)
theorem Sl.mono {α : Type} {F F' : Nat → Prop} {size : Nat} {R R' : Addr → α → Prop} {v : Value} {l : List α} (h : Sl F size R v l) (hlo : ∀ j, F j → F' j) (hR : ∀ a x, F a.block → x ∈ l → R a x → R' a x) : Sl F' size R' v l := by
  obtain ⟨ad, cap, hv, hc⟩ := h
  refine ⟨ad, cap, hv, fun i x hx => ?_⟩
  obtain ⟨a, ha, hb, hr⟩ := hc i x hx
  exact ⟨a, ha, hlo _ hb, hR _ x (by rwa [add_block]) (List.mem_of_getElem? hx) hr⟩
theorem cell_keep {w w' : World} {p : Addr} {v : Value} (h : w'.heap[p.block]? = w.heap[p.block]?) (hc : w.cell? p = some v) : w'.cell? p = some v := by rw [World.cell?_of_block h]; exact hc
theorem Rd.keep {w w' : World} {F F' : Nat → Prop} (hlo : ∀ j, F j → F' j) (h : ∀ j, F j → j < w.heap.size → w'.heap[j]? = w.heap[j]?) : ∀ (n : Nat) (v : Value) (l : List (El n)), Rd w F n v l → Rd w' F' n v l
  | 0, _, _, hr => hr.mono hlo (fun _ _ _ _ _ => trivial)
  | n + 1, _, _, hr => by
    have hcell : ∀ (p : Addr) (v : Value), F p.block → w.cell? p = some v → w'.cell? p = some v := fun p v hp hc => cell_keep (h _ hp (World.block_lt_of_cell? _ _ hc)) hc
    refine Sl.mono hr hlo (fun a x ha _ => ?_)
    rintro ⟨h1, h2, h3, iv, h4, h5⟩
    refine ⟨hcell _ _ ha h1, hcell _ _ (by rwa [add_block]) h2, hcell _ _ (by rwa [add_block]) h3, iv, hcell _ _ (by rwa [add_block]) h4, h5.mono hlo (fun b s hb _ => ?_)⟩
    rintro ⟨sv, h6, h7⟩
    exact ⟨sv, hcell _ _ hb h6, Rd.keep hlo h n sv s h7⟩
theorem RdI.keep {w w' : World} {F F' : Nat → Prop} (hlo : ∀ j, F j → F' j) (h : ∀ j, F j → j < w.heap.size → w'.heap[j]? = w.heap[j]?) (n : Nat) (v : Value) (l : Its n) (hr : RdI w F n v l) : RdI w' F' n v l := by
  refine Sl.mono hr hlo (fun b s hb _ => ?_)
  rintro ⟨sv, h6, h7⟩
  exact ⟨sv, cell_keep (h _ hb (World.block_lt_of_cell? _ _ h6)) h6, Rd.keep hlo h n sv s h7⟩
theorem Rd.slice {w : World} {F : Nat → Prop} {n : Nat} {v : Value} {l : List (El n)} (h : Rd w F n v l) : ∃ ad cap, v = .slice ad l.length cap := by
  cases n with
  | zero => obtain ⟨ad, cap, h, _⟩ := h; exact ⟨ad, cap, h⟩
  | succ n => obtain ⟨ad, cap, h, _⟩ := h; exact ⟨ad, cap, h⟩
theorem RdI.slice {w : World} {F : Nat → Prop} {n : Nat} {v : Value} {l : Its n} (h : RdI w F n v l) : ∃ ad cap, v = .slice ad l.length cap := by
  obtain ⟨ad, cap, h, _⟩ := h; exact ⟨ad, cap, h⟩
theorem Rd.nil (w : World) (F : Nat → Prop) (n : Nat) : Rd w F n (.slice none 0 0) [] := by
  cases n with
  | zero => exact ⟨none, 0, rfl, fun i x hx => by simp at hx⟩
  | succ n => exact ⟨none, 0, rfl, fun i x hx => by simp at hx⟩
theorem RdI.nil (w : World) (F : Nat → Prop) (n : Nat) : RdI w F n (.slice none 0 0) [] := ⟨none, 0, rfl, fun i x hx => by simp at hx⟩
/-- The cells of the element of that place. -/
theorem Rd.at {w : World} {F : Nat → Prop} {n : Nat} {ad : Option Addr} {len cap : Nat} {l : List (El (n + 1))} (h : Rd w F (n + 1) (.slice ad len cap) l) {i : Nat} {x : El (n + 1)} (hx : l[i]? = some x) :
    ∃ a ad2 cap2, ad = some a ∧ F a.block ∧ w.cell? (a.add (i * 4)) = some (.int .i64 x.1) ∧ w.cell? ⟨(a.add (i * 4)).block, (a.add (i * 4)).off + 1, none⟩ = some (.string (bs x.2.1)) ∧ w.cell? ⟨(a.add (i * 4)).block, (a.add (i * 4)).off + 2, none⟩ = some (.string (bs x.2.2.1)) ∧
      w.cell? ⟨(a.add (i * 4)).block, (a.add (i * 4)).off + 3, none⟩ = some (.slice ad2 x.2.2.2.length cap2) ∧ RdI w F n (.slice ad2 x.2.2.2.length cap2) x.2.2.2 := by
  obtain ⟨ad', cap', e, hc⟩ := h
  obtain ⟨a, rfl, hF, h0, h1, h2, iv, h3, h4⟩ := hc i x hx
  obtain ⟨ad2, cap2, rfl⟩ := RdI.slice (n := n) h4
  simp only [Value.slice.injEq] at e
  rw [Nat.mul_comm] at h0 h1 h2 h3
  exact ⟨a, ad2, cap2, e.1, hF, h0, h1, h2, h3, h4⟩
theorem Rd.up {w w' : World} {F : Nat → Prop} {n : Nat} {v : Value} {l : List (El n)} (h : Rd w F n v l) (k : Below w.heap.size w w') : Rd w' F n v l := h.keep (fun _ h => h) (fun j _ hj => k.block j hj)
theorem RdI.up {w w' : World} {F : Nat → Prop} {n : Nat} {v : Value} {l : Its n} (h : RdI w F n v l) (k : Below w.heap.size w w') : RdI w' F n v l := h.keep (fun _ h => h) (fun j _ hj => k.block j hj)

/-- Nothing that was there has turned, one block left aside. -/
def UpB (b : Nat) (w w' : World) : Prop := (w'.os = w.os ∧ w'.tape = w.tape ∧ w'.output = w.output) ∧ w.heap.size ≤ w'.heap.size ∧ ∀ j, j < w.heap.size → j ≠ b → w'.heap[j]? = w.heap[j]?
theorem UpB.size {b : Nat} {w w' : World} (h : UpB b w w') : w.heap.size ≤ w'.heap.size := h.2.1
theorem UpB.block {b : Nat} {w w' : World} (h : UpB b w w') {j : Nat} (hj : j < w.heap.size) (hb : j ≠ b) : w'.heap[j]? = w.heap[j]? := h.2.2 j hj hb
theorem UpB.refl (b : Nat) (w : World) : UpB b w w := ⟨⟨rfl, rfl, rfl⟩, Nat.le_refl _, fun _ _ _ => rfl⟩
theorem UpB.trans {b : Nat} {a c d : World} (h : UpB b a c) (k : UpB b c d) : UpB b a d :=
  ⟨⟨k.1.1.trans h.1.1, k.1.2.1.trans h.1.2.1, k.1.2.2.trans h.1.2.2⟩, Nat.le_trans h.size k.size, fun _ hj hb => (k.block (Nat.lt_of_lt_of_le hj h.size) hb).trans (h.block hj hb)⟩
theorem UpB.below {b : Nat} {w w' : World} (h : UpB b w w') {B : Nat} (hB : B ≤ b) (hw : B ≤ w.heap.size) : Below B w w' := ⟨h.1.1, h.1.2.1, h.1.2.2, h.size, fun j hj => h.block (by omega) (by omega)⟩
theorem UpB.of_below {b : Nat} {w w' : World} (h : Below w.heap.size w w') : UpB b w w' := ⟨⟨h.os, h.tape, h.output⟩, h.size, fun j hj _ => h.block j hj⟩
theorem UpB.alloc {b : Nat} {w w' : World} (h : UpB b w w') (o : Obj) : UpB b w (w'.alloc o) := h.trans (UpB.of_below (Below.alloc (Below.refl _ _) (Nat.le_refl _) o))
theorem UpB.setCell {b : Nat} {w w' : World} (h : UpB b w w') {p : Addr} (hp : p.block = b ∨ w.heap.size ≤ p.block) (u : Value) : UpB b w (w'.setCell p u) :=
  ⟨⟨h.1.1, h.1.2.1, h.1.2.2⟩, by have := h.size; simpa using this, fun j hj hb => by rw [Below.heap_setCell w' p u j (by rcases hp with hp | hp <;> omega)]; exact h.block hj hb⟩
theorem UpB.grown {b : Nat} {w a a' : World} {row : Option Nat} (h : UpB b w a) (hg : a.grownBy a' row) (hr : ∀ k, row = some k → k = b ∨ w.heap.size ≤ k) : UpB b w a' :=
  ⟨⟨hg.os.trans h.1.1, hg.tape.trans h.1.2.1, hg.output.trans h.1.2.2⟩, Nat.le_trans h.size hg.size, fun j hj hb => by
    rw [hg.block j (Nat.lt_of_lt_of_le hj h.size) (fun e => by rcases hr j e.symm with e | e <;> omega)]
    exact h.block hj hb⟩

/- LISTS THAT WERE BUILT: each row of cells is a block of its own. -/
/-- Cells, k of each thing, and the blocks that lie beneath. -/
def Ls {α : Type} (k : Nat) (R : List Value → α → List Nat → Prop) : List Value → List α → List Nat → Prop
  | xs, [], bs => xs = [] ∧ bs = []
  | xs, x :: l, bs => ∃ c ys b cs, xs = c ++ ys ∧ c.length = k ∧ R c x b ∧ Ls k R ys l cs ∧ bs = b ++ cs
theorem Ls.mono {α : Type} {k : Nat} {R R' : List Value → α → List Nat → Prop} : ∀ {l : List α} {xs : List Value} {bs : List Nat}, Ls k R xs l bs → (∀ c x b, (∀ j ∈ b, j ∈ bs) → x ∈ l → R c x b → R' c x b) → Ls k R' xs l bs
  | [], _, _, h, _ => h
  | x :: l, xs, bs, h, hR => by
    obtain ⟨c, ys, b, cs, e1, e2, h1, h2, e3⟩ := h
    refine ⟨c, ys, b, cs, e1, e2, hR c x b (fun j hj => by rw [e3]; exact List.mem_append_left _ hj) List.mem_cons_self h1, h2.mono (fun c y b hb hy => hR c y b (fun j hj => by rw [e3]; exact List.mem_append_right _ (hb j hj)) (List.mem_cons_of_mem _ hy)), e3⟩
theorem Ls.snoc {α : Type} {k : Nat} {R : List Value → α → List Nat → Prop} {c : List Value} {x : α} {b : List Nat} (hc : c.length = k) (hx : R c x b) : ∀ {l : List α} {xs : List Value} {bs : List Nat}, Ls k R xs l bs → Ls k R (xs ++ c) (l ++ [x]) (bs ++ b)
  | [], xs, bs, h => by
    obtain ⟨rfl, rfl⟩ := h
    exact ⟨c, [], b, [], by simp, hc, hx, ⟨rfl, rfl⟩, by simp⟩
  | y :: l, xs, bs, h => by
    obtain ⟨d, ys, b', cs, rfl, e2, h1, h2, rfl⟩ := h
    exact ⟨d, ys ++ c, b', cs ++ b, by simp, e2, h1, Ls.snoc hc hx h2, by simp⟩
theorem Ls.length {α : Type} {k : Nat} {R : List Value → α → List Nat → Prop} : ∀ {l : List α} {xs : List Value} {bs : List Nat}, Ls k R xs l bs → xs.length = l.length * k
  | [], xs, bs, h => by obtain ⟨rfl, rfl⟩ := h; simp
  | y :: l, xs, bs, h => by
    obtain ⟨d, ys, b', cs, rfl, e2, h1, h2, rfl⟩ := h
    rw [List.length_append, h2.length, e2, List.length_cons, Nat.succ_mul, Nat.add_comm]
theorem Ls.at {α : Type} {k : Nat} {R : List Value → α → List Nat → Prop} : ∀ {l : List α} {xs : List Value} {bs : List Nat}, Ls k R xs l bs → ∀ (i : Nat) (x : α), l[i]? = some x → ∃ c b, R c x b ∧ c.length = k ∧ (∀ j ∈ b, j ∈ bs) ∧ ∀ t u, c[t]? = some u → xs[k * i + t]? = some u
  | [], _, _, _, i, x, hx => by simp at hx
  | y :: l, xs, bs, h, i, x, hx => by
    obtain ⟨d, ys, b', cs, rfl, e2, h1, h2, rfl⟩ := h
    cases i with
    | zero =>
      simp only [List.getElem?_cons_zero, Option.some.injEq] at hx
      subst hx
      refine ⟨d, b', h1, e2, fun j hj => List.mem_append_left _ hj, fun t u hu => ?_⟩
      have := (List.getElem?_eq_some_iff.1 hu).1
      rw [Nat.mul_zero, Nat.zero_add, List.getElem?_append_left this, hu]
    | succ i =>
      simp only [List.getElem?_cons_succ] at hx
      obtain ⟨c, b, g1, g2, g3, g4⟩ := h2.at i x hx
      refine ⟨c, b, g1, g2, fun j hj => List.mem_append_right _ (g3 j hj), fun t u hu => ?_⟩
      rw [List.getElem?_append_right (by rw [e2, Nat.mul_succ]; omega), e2, show k * (i + 1) + t - k = k * i + t by rw [Nat.mul_succ]; omega]
      exact g4 t u hu
/-- The slice v is a row of its own, and its cells tell the things l. -/
def Row {α : Type} (w : World) (T : TypeId) (k : Nat) (R : List Value → α → List Nat → Prop) (v : Value) (l : List α) (bs : List Nat) : Prop :=
  ∃ xs cs, w.ownsRow 0 T k v l.length xs ∧ Ls k R xs l cs ∧ bs = v.ownBlock.toList ++ cs
/-- The slice v was built, and reads as the elements l; bs: its blocks. -/
def Ow (w : World) : (n : Nat) → Value → List (El n) → List Nat → Prop
  | 0 => Row w 73 4 (fun _ _ b => b = [])
  | n + 1 => Row w 73 4 (fun c (x : El (n + 1)) b => ∃ iv, c = [.int .i64 x.1, .string (bs x.2.1), .string (bs x.2.2.1), iv] ∧ Row w 182 1 (fun c s b => ∃ sv, c = [sv] ∧ Ow w n sv s b) iv x.2.2.2 b)
def OwI (w : World) (n : Nat) : Value → Its n → List Nat → Prop := Row w 182 1 (fun c s b => ∃ sv, c = [sv] ∧ Ow w n sv s b)
/-- The four cells of an element. -/
def CE (w : World) : (n : Nat) → List Value → El n → List Nat → Prop
  | 0, _, _, b => b = []
  | n + 1, c, x, b => ∃ iv, c = [.int .i64 x.1, .string (bs x.2.1), .string (bs x.2.2.1), iv] ∧ OwI w n iv x.2.2.2 b
theorem Ow_eq (w : World) (n : Nat) (v : Value) (l : List (El n)) (b : List Nat) : Ow w n v l b = Row w 73 4 (CE w n) v l b := by
  cases n <;> rfl
theorem ownsRow_keep {w w' : World} {base : Nat} {e : TypeId} {size : Nat} {v : Value} {n : Nat} {xs : List Value} (h : w.ownsRow base e size v n xs) (k : ∀ j ∈ v.ownBlock.toList, w'.heap[j]? = w.heap[j]?) : w'.ownsRow base e size v n xs := by
  obtain ⟨h1, h2⟩ := h
  refine ⟨h1, ?_⟩
  rcases h2 with h2 | ⟨g, cap, cur, rfl, hg, hh, r⟩
  · exact Or.inl h2
  · exact Or.inr ⟨g, cap, cur, rfl, hg, by rw [k g (by simp [Value.ownBlock])]; exact hh, r⟩
theorem ownsRow_lt {w : World} {base : Nat} {e : TypeId} {size : Nat} {v : Value} {n : Nat} {xs : List Value} (h : w.ownsRow base e size v n xs) : ∀ j ∈ v.ownBlock.toList, j < w.heap.size := by
  intro j hj
  rcases h.2 with ⟨rfl, _⟩ | ⟨g, cap, cur, rfl, hg, hh, r⟩
  · cases hj
  · simp [Value.ownBlock] at hj
    subst hj
    exact lt_of_block hh
theorem Row.keep {α : Type} {w w' : World} {T : TypeId} {k : Nat} {R R' : List Value → α → List Nat → Prop} {v : Value} {l : List α} {bs : List Nat} (h : Row w T k R v l bs) (hk : ∀ j ∈ bs, w'.heap[j]? = w.heap[j]?)
    (hR : ∀ c x b, (∀ j ∈ b, j ∈ bs) → x ∈ l → R c x b → R' c x b) : Row w' T k R' v l bs := by
  obtain ⟨xs, cs, h1, h2, rfl⟩ := h
  exact ⟨xs, cs, ownsRow_keep h1 (fun j hj => hk j (List.mem_append_left _ hj)), h2.mono (fun c x b hb hx => hR c x b (fun j hj => List.mem_append_right _ (hb j hj)) hx), rfl⟩
theorem Ow.keep {w w' : World} : ∀ (n : Nat) (v : Value) (l : List (El n)) (bs : List Nat), Ow w n v l bs → (∀ j ∈ bs, w'.heap[j]? = w.heap[j]?) → Ow w' n v l bs
  | 0, v, l, bs, h, hk => Row.keep h hk (fun _ _ _ _ _ h => h)
  | n + 1, v, l, bs, h, hk => Row.keep h hk (fun c x b hb _ => by
      rintro ⟨iv, e, h1⟩
      exact ⟨iv, e, Row.keep h1 (fun j hj => hk j (hb j hj)) (fun c s b' hb' _ => by
        rintro ⟨sv, e, h2⟩
        exact ⟨sv, e, Ow.keep n sv s b' h2 (fun j hj => hk j (hb j (hb' j hj)))⟩)⟩)
theorem OwI.keep {w w' : World} {n : Nat} {v : Value} {l : Its n} {bs : List Nat} (h : OwI w n v l bs) (hk : ∀ j ∈ bs, w'.heap[j]? = w.heap[j]?) : OwI w' n v l bs :=
  Row.keep h hk (fun c s b' hb' _ => by
    rintro ⟨sv, e, h2⟩
    exact ⟨sv, e, Ow.keep n sv s b' h2 (fun j hj => hk j (hb' j hj))⟩)
theorem CE.keep {w w' : World} {n : Nat} {c : List Value} {x : El n} {b : List Nat} (h : CE w n c x b) (hk : ∀ j ∈ b, w'.heap[j]? = w.heap[j]?) : CE w' n c x b := by
  cases n with
  | zero => exact h
  | succ n =>
    obtain ⟨iv, e, h1⟩ := h
    exact ⟨iv, e, h1.keep hk⟩
theorem OwI.nil (w : World) (n : Nat) : OwI w n (.slice none 0 0) [] [] := ⟨[], [], World.ownsRow_nil _ _ _ _, ⟨rfl, rfl⟩, rfl⟩
theorem CE.mk {w : World} {n : Nat} {t : Int} {k v : By} {its : Its (n - 1)} {iv : Value} {b : List Nat} (h : OwI w (n - 1) iv its b) : ∃ b', (∀ j ∈ b', j ∈ b) ∧ (b.Nodup → b'.Nodup) ∧ CE w n [.int .i64 t, .string (bs k), .string (bs v), iv] (mkE n t k v its) b' := by
  cases n with
  | zero => exact ⟨[], (fun _ hj => nomatch hj), (fun _ => List.nodup_nil), rfl⟩
  | succ n => exact ⟨b, fun _ h => h, fun h => h, iv, rfl, h⟩
/-- What a built row reads as. -/
theorem Row.read {α : Type} {w : World} {T : TypeId} {k : Nat} {R : List Value → α → List Nat → Prop} {v : Value} {l : List α} {bs : List Nat} (h : Row w T k R v l bs) (F : Nat → Prop) (hF : ∀ j ∈ bs, F j) (S : Addr → α → Prop)
    (hS : ∀ (a : Addr) c x b, F a.block → a.spot = none → R c x b → c.length = k → (∀ j ∈ b, j ∈ bs) → (∀ t u, c[t]? = some u → w.cell? (a.add t) = some u) → S a x) : Sl F k S v l := by
  obtain ⟨xs, cs, hown, hls, rfl⟩ := h
  obtain ⟨hl, hv⟩ := id hown
  rcases hv with ⟨rfl, hn⟩ | ⟨g, cap, cur, rfl, _⟩
  · have : l = [] := List.eq_nil_of_length_eq_zero hn
    subst this
    exact ⟨none, 0, rfl, fun i x hx => by simp at hx⟩
  · refine ⟨_, cap, rfl, fun i x hx => ⟨_, rfl, hF g (by simp [Value.ownBlock]), ?_⟩⟩
    have hi := (List.getElem?_eq_some_iff.1 hx).1
    obtain ⟨c, b, h1, h2, h3, h4⟩ := hls.at i x hx
    have ea : ((⟨g, 0, none⟩ : Addr).add (k * i)) = ⟨g, k * i, none⟩ := by rw [Addr.add_lit, Nat.zero_add]
    rw [ea]
    refine hS _ c x b (hF g (by simp [Value.ownBlock])) rfl h1 h2 (fun j hj => List.mem_append_right _ (h3 j hj)) (fun t u hu => ?_)
    have ht := (List.getElem?_eq_some_iff.1 hu).1
    have hb : k * i + k ≤ l.length * k := by
      have := Nat.mul_le_mul_right k (show i + 1 ≤ l.length by omega)
      rw [Nat.succ_mul, Nat.mul_comm i k] at this
      exact this
    rw [Addr.add_lit, hown.cellAt _ (by omega)]
    exact h4 t u hu
theorem Ow.rd {w : World} : ∀ (n : Nat) (v : Value) (l : List (El n)) (bs : List Nat) (F : Nat → Prop), Ow w n v l bs → (∀ j ∈ bs, F j) → Rd w F n v l
  | 0, v, l, bs, F, h, hF => Row.read h F hF _ (fun _ _ _ _ _ _ _ _ _ _ => trivial)
  | n + 1, v, l, bs, F, h, hF => Row.read h F hF _ (fun a c x b _ _ => by
      rintro ⟨iv, rfl, h1⟩ _ hb hc
      have c0 := hc 0 _ rfl
      rw [Addr.add_zero'] at c0
      refine ⟨c0, hc 1 _ rfl, hc 2 _ rfl, iv, hc 3 _ rfl, Row.read h1 F (fun j hj => hF j (hb j hj)) _ (fun a c s b' _ _ => ?_)⟩
      rintro ⟨sv, rfl, h2⟩ _ hb' hc'
      have d0 := hc' 0 _ rfl
      rw [Addr.add_zero'] at d0
      exact ⟨sv, d0, Ow.rd n sv s b' F h2 (fun j hj => hF j (hb j (hb' j hj)))⟩)
/-- The row stays where it was, or is a new block. -/
def Moved (w : World) (v v' : Value) : Prop := v'.ownBlock = v.ownBlock ∨ ∀ g ∈ v'.ownBlock.toList, w.heap.size ≤ g
/-- 'append' of new cells to a row of one's own: the row stays where it was, or is a new block. -/
theorem wpList_append_sep {P : Program} (w : World) {ops : Array Oper} {rest : List Oper} {o : Oper} {a : Act} {Q : Exit → Act → World → Prop}
    (hg : o.guard = none) (s x : Operand) (t : TypeId) (hop : o.op = Op.call { callee := Callee.builtin Builtin.append, args := #[s, x], argTypes := #[t, t] })
    (e : TypeId) (i : TypeInfo) (z : Value) (size bytes : Nat) (h1 : P.underlying t = some (.slice e)) (h2 : P.info? e = some i) (h3 : i.zero = some z) (h4 : i.size = size) (h5 : i.bytes = bytes) (h6 : z.cells.size = size) (h7 : 0 < size)
    (v : Value) (n : Nat) (xs : List Value) (hs : a.eval s = v) (hown : w.ownsRow 0 e size v n xs)
    (ad : Addr) (m c : Nat) (news : List Value) (hx : a.eval x = .slice (some ad) m c) (hn : news.length = m * size) (hc : ∀ j u, news[j]? = some u → w.cell? (ad.add j) = some u) (h1c : ∀ u ∈ news, u.oneCell' = true)
    (b1 : n + m ≤ maxLen) (b2 : (n + m) * bytes ≤ 140737488355328)
    (hK : ∀ v' w', w'.ownsRow 0 e size v' (n + m) (xs ++ news) → w.grownBy w' v.ownBlock → Moved w v v' → wpList P ops Q rest (a.put o.dst v') w') :
    wpList P ops Q (o :: rest) a w := by
  have weak : ∀ {w' : World} {v' : Value} {k : Nat} {ys : List Value}, w'.ownsRow w.heap.size e size v' k ys → w'.ownsRow 0 e size v' k ys ∧ ∀ g ∈ v'.ownBlock.toList, w.heap.size ≤ g := by
    rintro w' v' k ys ⟨q1, q2⟩
    rcases q2 with ⟨rfl, q2⟩ | ⟨g, cap, cur, rfl, q2, q3⟩
    · exact ⟨⟨q1, Or.inl ⟨rfl, q2⟩⟩, fun g hg => by cases hg⟩
    · exact ⟨⟨q1, Or.inr ⟨g, cap, cur, rfl, Nat.zero_le _, q3⟩⟩, fun j hj => by simp [Value.ownBlock] at hj; omega⟩
  obtain ⟨k1, k2⟩ := id hown
  rcases k2 with ⟨rfl, rfl⟩ | ⟨g, cap, cur, rfl, _⟩
  · have : xs = [] := List.eq_nil_of_length_eq_zero (by simpa using k1)
    subst this
    exact wpList_append_own w hg s x t hop w.heap.size e i z size bytes h1 h2 h3 h4 h5 h6 h7 _ 0 [] hs (World.ownsRow_nil _ _ _ _) ad m c news hx hn hc h1c b1 b2 (Nat.le_refl _) (fun v' w' q1 q2 _ => hK v' w' (weak q1).1 q2 (Or.inr (weak q1).2))
  · by_cases hf : n + m ≤ cap
    · exact wpList_append_fits w hg s x t hop 0 e i size h1 h2 h4 g n cap xs hs hown ad m c news hx hn hc h1c hf (fun w' q1 q2 => hK _ w' q1 q2 (Or.inl rfl))
    · refine wpList_append_grows w hg s x t hop e i z size bytes h1 h2 h3 h4 h5 h6 h7 _ n cap xs hs (fun h => by cases h) k1 (fun b hb j u hu => ?_) ad m c news hx hn hc h1c (by omega) b1 b2 (fun v' w' q1 q2 => hK v' w' (weak q1).1 ?_ (Or.inr (weak q1).2))
      · obtain rfl := Option.some.inj hb
        have hj := (List.getElem?_eq_some_iff.1 hu).1
        rw [Addr.add_lit, Nat.zero_add, hown.cellAt _ (by omega)]
        exact hu
      · exact ⟨q2.os, q2.tape, q2.output, q2.size, fun k hk _ => q2.block k hk (by simp)⟩
end Go.Proofs.YtaokifbpakbgdaaGreatDoor

/- The reader of bytes leaves no more than there was; how much it is allowed to go on does not show (no program). -/
namespace Go.Proofs.YtaokifbpakbgdaaGreatDoor

theorem tk_len {k : Nat} {s a r : By} (h : tk k s = some (a, r)) : a.length = k ∧ a.length + r.length = s.length := by
  unfold tk at h
  split at h
  · simp only [Option.some.injEq, Prod.mk.injEq] at h
    obtain ⟨rfl, rfl⟩ := h
    simp only [List.length_take, List.length_drop]
    omega
  · cases h
theorem nu_len {k n : Nat} {s r : By} (h : nu k s = some (n, r)) : r.length + k = s.length ∧ n < 256 ^ k := by
  unfold nu at h
  split at h
  · cases h
  · rename_i a r' e
    simp only [Option.some.injEq, Prod.mk.injEq] at h
    obtain ⟨rfl, rfl⟩ := h
    have h1 := tk_len e
    have h2 := le_lt a
    rw [h1.1] at h2
    exact ⟨by omega, h2⟩
theorem tg_len {t : Nat} {s r : By} (h : tg s = some (t, r)) : r.length + 4 = s.length ∧ t < 4294967296 := by
  unfold tg at h
  split at h
  · cases h
  · rename_i u r1 e1
    have h1 := nu_len e1
    split at h
    · cases h
    · rename_i l r2 e2
      have h2 := nu_len e2
      simp only [Option.some.injEq, Prod.mk.injEq] at h
      obtain ⟨rfl, rfl⟩ := h
      have h256 : (256 : Nat) ^ 2 = 65536 := rfl
      omega
theorem ze_len {k : Nat} {s r : By} (h : ze k s = some r) : r.length + k = s.length := by
  unfold ze at h
  split at h
  · cases h
  · rename_i n r' e
    have h1 := nu_len e
    split at h
    · cases h; exact h1.1
    · cases h
theorem va_len {k s v r : By} (h : va k s = some (v, r)) : r.length + 2 ≤ s.length := by
  unfold va at h
  split at h
  · cases h
  · rename_i n r1 e1
    have h1 := nu_len e1
    split at h
    · split at h
      · cases h
      · rename_i a r2 e2
        have h2 := tk_len e2
        cases h
        omega
    · cases h
/-- It leaves no more than there was. -/
def Eats {α : Type} (f : Nat → By → Option (α × By)) : Prop := ∀ t s x r, f t s = some (x, r) → r.length ≤ s.length
theorem toMark_len {α : Type} {m : Nat} {f : Nat → By → Option (α × By)} (hf : Eats f) : ∀ (k : Nat) (s : By) (l : List α) (r : By), toMark m f k s = some (l, r) → r.length + 4 ≤ s.length
  | 0, s, l, r, h => by cases h
  | k + 1, s, l, r, h => by
    rw [toMark] at h
    split at h
    · cases h
    · rename_i t r1 e1
      have h1 := tg_len e1
      split at h
      · split at h
        · cases h
        · rename_i r2 e2
          have h2 := ze_len e2
          cases h
          omega
      · split at h
        · cases h
        · rename_i x r2 e2
          have h2 := hf _ _ _ _ e2
          split at h
          · cases h
          · rename_i l3 r3 e3
            have h3 := toMark_len hf k _ _ _ e3
            cases h
            omega
theorem lg_len {α : Type} {m : Nat} {f : Nat → By → Option (α × By)} (hf : Eats f) {s r : By} {l : List α} (h : lg m f s = some (l, r)) : r.length + 4 ≤ s.length := by
  unfold lg at h
  split at h
  · cases h
  · rename_i n r1 e1
    have h1 := nu_len e1
    split at h
    · have := toMark_len hf _ _ _ _ h
      omega
    · split at h
      · cases h
      · rename_i a r2 e2
        have h2 := tk_len e2
        split at h
        · cases h
        · cases h
          omega
theorem itP_eats {α : Type} {f : Nat → By → Option (α × By)} (hf : Eats f) : Eats (itP f) := by
  intro t s x r h
  unfold itP at h
  split at h
  · have := lg_len hf h; omega
  · cases h
theorem elP_eats : ∀ (m n : Nat), Eats (elP m n)
  | 0, n => by intro t s x r h; cases h
  | m + 1, n => by
    intro t s x r h
    rw [elP] at h
    split at h
    · cases h
    · split at h
      · cases h
      · rename_i k r1 e1
        have h1 := tk_len e1
        split at h
        · split at h
          · cases h
          · rename_i r2 e2
            have h2 := ze_len e2
            split at h
            · cases h
            · rename_i its r3 e3
              have h3 := lg_len (itP_eats (elP_eats m (n - 1))) e3
              cases h
              omega
        · split at h
          · cases h
          · rename_i v r2 e2
            have h2 := va_len e2
            cases h
            omega
/-- How much it may go on does not show. -/
theorem toEnd_fuel {α : Type} {f : Nat → By → Option (α × By)} (hf : Eats f) : ∀ (k k' : Nat) (s : By), s.length ≤ k → s.length ≤ k' → toEnd f k s = toEnd f k' s
  | 0, k', s, h, _ => by
    have : s = [] := List.eq_nil_of_length_eq_zero (by omega)
    subst this
    cases k' <;> rfl
  | k + 1, 0, s, _, h => by
    have : s = [] := List.eq_nil_of_length_eq_zero (by omega)
    subst this
    rfl
  | k + 1, k' + 1, s, h, h' => by
    rw [toEnd, toEnd]
    split
    · rfl
    · split
      · rfl
      · rename_i t r1 e1
        have h1 := tg_len e1
        split
        · rfl
        · rename_i x r2 e2
          have h2 := hf _ _ _ _ e2
          rw [toEnd_fuel hf k k' r2 (by omega) (by omega)]
theorem toMark_fuel {α : Type} {m : Nat} {f : Nat → By → Option (α × By)} (hf : Eats f) : ∀ (k k' : Nat) (s : By), s.length ≤ k → s.length ≤ k' → toMark m f k s = toMark m f k' s
  | 0, 0, s, h, _ => rfl
  | 0, k' + 1, s, h, _ => by
    have : s = [] := List.eq_nil_of_length_eq_zero (by omega)
    subst this
    rfl
  | k + 1, 0, s, _, h => by
    have : s = [] := List.eq_nil_of_length_eq_zero (by omega)
    subst this
    rfl
  | k + 1, k' + 1, s, h, h' => by
    rw [toMark, toMark]
    split
    · rfl
    · rename_i t r1 e1
      have h1 := tg_len e1
      split
      · rfl
      · split
        · rfl
        · rename_i x r2 e2
          have h2 := hf _ _ _ _ e2
          rw [toMark_fuel hf k k' r2 (by omega) (by omega)]
/-- One thing, and what follows. -/
theorem toEnd_step {α : Type} {f : Nat → By → Option (α × By)} (hf : Eats f) {s : By} (hs : s ≠ []) : toEnd f s.length s = (match tg s with
    | none => none
    | some (t, r) => match f t r with
      | none => none
      | some (x, r2) => (toEnd f r2.length r2).map (x :: ·)) := by
  obtain ⟨k, hk⟩ : ∃ k, s.length = k + 1 := ⟨s.length - 1, by have := List.length_pos_iff.2 hs; omega⟩
  rw [hk, toEnd, if_neg hs]
  cases e1 : tg s with
  | none => rfl
  | some p =>
    obtain ⟨t, r1⟩ := p
    have h1 := tg_len e1
    simp only []
    cases e2 : f t r1 with
    | none => rfl
    | some q =>
      obtain ⟨x, r2⟩ := q
      have h2 := hf _ _ _ _ e2
      simp only []
      rw [toEnd_fuel hf k r2.length r2 (by omega) (Nat.le_refl _)]
      cases toEnd f r2.length r2 <;> rfl
theorem toMark_step {α : Type} {m : Nat} {f : Nat → By → Option (α × By)} (hf : Eats f) (s : By) : toMark m f s.length s = (match tg s with
    | none => none
    | some (t, r) => if t = m then (ze 4 r).map (fun r => ([], r)) else match f t r with
      | none => none
      | some (x, r2) => (toMark m f r2.length r2).map (fun p => (x :: p.1, p.2))) := by
  by_cases hs : s = []
  · subst hs; rfl
  obtain ⟨k, hk⟩ : ∃ k, s.length = k + 1 := ⟨s.length - 1, by have := List.length_pos_iff.2 hs; omega⟩
  rw [hk, toMark]
  cases e1 : tg s with
  | none => rfl
  | some p =>
    obtain ⟨t, r1⟩ := p
    have h1 := tg_len e1
    simp only []
    by_cases ht : t = m
    · rw [if_pos ht, if_pos ht]
      cases ze 4 r1 <;> rfl
    · rw [if_neg ht, if_neg ht]
      cases e2 : f t r1 with
      | none => rfl
      | some q =>
        obtain ⟨x, r2⟩ := q
        have h2 := hf _ _ _ _ e2
        simp only []
        rw [toMark_fuel hf k r2.length r2 (by omega) (Nat.le_refl _)]
        cases toMark m f r2.length r2 <;> rfl
end Go.Proofs.YtaokifbpakbgdaaGreatDoor

/- Package dataset's reader, from its leaves up: what it takes off the bytes; where something is wrong it panics. -/
namespace Go.Proofs.YtaokifbpakbgdaaGreatDoor
open Go.RowKit

theorem hid {p : Prop} (h : p) : Hid p := h
/-- What is raised. -/
abbrev pn : List PanicEntry := [{ v := .iface 22 (.int .i64 1), recovered := false }]
/-- A reader with these bytes left. -/
def Rdr (w : World) (b : Nat) (s : By) : Prop := w.heap[b]? = some (.cells #[.string (bs s)] 208 (0, 0))
abbrev ptr (b : Nat) : Value := .pointer (some ⟨b, 0, none⟩)
theorem Rdr.cell {w : World} {b : Nat} {s : By} (h : Rdr w b s) : w.cell? ⟨b, 0, none⟩ = some (.string (bs s)) := cell_of_one h
theorem Rdr.free {w : World} {b : Nat} {s : By} (h : Rdr w b s) : w.frozen? ⟨b, 0, none⟩ = false := free_of_one h
theorem Rdr.set {w : World} {b : Nat} {s : By} (h : Rdr w b s) (r : By) : Rdr (w.setCell ⟨b, 0, none⟩ (.string (bs r))) b r := one_setCell h
theorem Rdr.lt {w : World} {b : Nat} {s : By} (h : Rdr w b s) : b < w.heap.size := lt_of_block h
theorem Rdr.below {w w' : World} {b : Nat} {s : By} (h : Rdr w b s) (k : Below w.heap.size w w') : Rdr w' b s := by rw [Rdr, k.block b h.lt]; exact h
theorem bs_take (s : By) (k : Nat) : (bs s).extract 0 k = bs (s.take k) := by
  apply ByteArray.ext
  rw [ByteArray.data_extract]
  apply Array.ext'
  simp [bs]
theorem bs_drop (s : By) (k : Nat) : (bs s).extract k s.length = bs (s.drop k) := by
  apply ByteArray.ext
  rw [ByteArray.data_extract]
  apply Array.ext'
  simp only [bs, Array.toList_extract, List.extract_eq_take_drop]
  rw [List.take_of_length_le (by simp)]

theorem i64_or_nat (a b : Nat) (ha : a < 9223372036854775808) (hb : b < 9223372036854775808) : bits .or .i64 (a : Int) (b : Int) = ((a ||| b : Nat) : Int) := by
  have hx : a ||| b < 2 ^ 63 := Nat.or_lt_two_pow (by omega) (by omega)
  have e : ∀ c : Nat, c < 9223372036854775808 → (BitVec.ofInt 64 (c : Int)).toNat = c := fun c hc => by
    rw [BitVec.ofInt_natCast, BitVec.toNat_ofNat]; exact Nat.mod_eq_of_lt (by omega)
  show IntKind.i64.wrap ((BitVec.ofInt 64 (a : Int) ||| BitVec.ofInt 64 (b : Int)).toNat : Int) = _
  rw [BitVec.toNat_or, e a ha, e b hb, IntKind.wrap_i64]
  omega
theorem w64 (n : Int) (h : -9223372036854775808 ≤ n ∧ n ≤ 9223372036854775807) : wrap64 n = n := by unfold wrap64; omega
theorem or_shift (n c j : Nat) (hn : n < 256 ^ j) (hc : c < 256) (hj : j ≤ 3) : bits .or .i64 (n : Int) (wrap64 (wrap64 (c : Int) * 2 ^ (8 * j))) = ((n + c * 256 ^ j : Nat) : Int) := by
  have e256 : (256 : Nat) ^ j = 2 ^ (8 * j) := by rw [Nat.pow_mul]
  have hp : (256 : Nat) ^ j ≤ 256 ^ 3 := Nat.pow_le_pow_right (by decide) hj
  have hp' : (256 : Nat) ^ 3 = 16777216 := rfl
  have hm : c * 256 ^ j ≤ 255 * 16777216 := Nat.mul_le_mul (by omega) (by omega)
  have h1 : (c : Int) * 2 ^ (8 * j) = ((c * 256 ^ j : Nat) : Int) := by rw [e256]; simp
  rw [w64 (c : Int) (by omega), h1, w64 _ (by omega), i64_or_nat _ _ (by omega) (by omega), Nat.or_comm, Nat.mul_comm, e256, ← Nat.two_pow_add_eq_or_of_lt (by omega), Nat.add_comm]
theorem le_snoc : ∀ (l : By) (c : UInt8), le (l ++ [c]) = le l + c.toNat * 256 ^ l.length
  | [], c => by simp [le]
  | d :: l, c => by
    rw [List.cons_append, le, le, le_snoc l c, List.length_cons, Nat.pow_succ]
    have : c.toNat * (256 ^ l.length * 256) = 256 * (c.toNat * 256 ^ l.length) := by rw [← Nat.mul_assoc, Nat.mul_comm]
    omega
theorem ret_str {a b : ByteArray} (h : a = b) : Ending.returned (.string a) = Ending.returned (.string b) := by rw [h]
theorem ret_int {a b : Int} (h : a = b) : Ending.returned (.int .i64 a) = Ending.returned (.int .i64 b) := by rw [h]
theorem UpB.of_bytes {b : Nat} {w w' : World} (h : UpB b w w') (e : TypeId) (t : ByteArray) : UpB b w (Lib.bytesWorld w' e t) :=
  h.trans (UpB.of_below ⟨rfl, rfl, rfl, by rw [Lib.bytesWorld_size]; omega, fun j hj => Lib.bytesWorld_at_old w' e t j hj⟩)
theorem need_yes (w : World) : Calls Tryz.prog 267 #[.bool true] w fun e w' => e = .returned (.tuple #[]) ∧ w' = w := by
  go_enter Tryz.func267, Tryz.ntmps267
  go_wp2
  go_end0
  exact ⟨rfl, rfl⟩
theorem need_no (w : World) : Calls Tryz.prog 267 #[.bool false] w fun e w' => e = .panicked pn ∧ w' = w := by
  go_enter Tryz.func267, Tryz.ntmps267
  go_wp2
  exact ⟨rfl, rfl, rfl⟩
theorem take_yes (w : World) (b : Nat) (s : By) (k : Nat) (h : Rdr w b s) (hk : k ≤ s.length) (_hs : s.length ≤ 16384) :
    Calls Tryz.prog 269 #[ptr b, .int .i64 k] w fun e w' => e = .returned (.string (bs (s.take k))) ∧ w' = w.setCell ⟨b, 0, none⟩ (.string (bs (s.drop k))) := by
  have hc := h.cell
  have hf := h.free
  have hz : (bs s).size = s.length := rfl
  go_enter Tryz.func269, Tryz.ntmps269
  go_wp2_with fail
  go_at_call 267
  refine (need_yes w).mono ?_
  rintro e w1 ⟨rfl, rfl⟩
  go_wp2
  go_ret
  exact ⟨ret_str (bs_take s k), by rw [bs_drop]⟩
theorem take_no (w : World) (b : Nat) (s : By) (k : Nat) (h : Rdr w b s) (hk : s.length < k) (_hs : s.length ≤ 16384) (_hk2 : k < 4294967296) :
    Calls Tryz.prog 269 #[ptr b, .int .i64 k] w fun e w' => e = .panicked pn ∧ w' = w := by
  have hc := h.cell
  have hf := h.free
  have hz : (bs s).size = s.length := rfl
  have d : decide (k ≤ s.length) = false := by simp; omega
  go_enter Tryz.func269, Tryz.ntmps269
  go_wp2_with fail
  go_at_call 267
  refine (need_no w).mono ?_
  rintro e w1 ⟨rfl, rfl⟩
  go_wp2
  exact ⟨rfl, rfl, rfl⟩
theorem number_no (w : World) (b : Nat) (s : By) (k : Nat) (h : Rdr w b s) (hk : s.length < k) (hs : s.length ≤ 16384) (hk2 : k ≤ 4) :
    Calls Tryz.prog 273 #[ptr b, .int .i64 k] w fun e w' => e = .panicked pn ∧ w' = w := by
  go_enter Tryz.func273, Tryz.ntmps273
  go_wp2_with fail
  go_at_call 269
  refine (take_no w b s k h hk hs (by omega)).mono ?_
  rintro e w1 ⟨rfl, rfl⟩
  go_wp2
  exact ⟨rfl, rfl, rfl⟩
theorem number_yes (w : World) (b : Nat) (s : By) (k : Nat) (h : Rdr w b s) (hk : k ≤ s.length) (hs : s.length ≤ 16384) (hk2 : k ≤ 4) :
    Calls Tryz.prog 273 #[ptr b, .int .i64 k] w fun e w' => e = .returned (.int .i64 (le (s.take k))) ∧ Rdr w' b (s.drop k) ∧ UpB b w w' := by
  go_enter Tryz.func273, Tryz.ntmps273
  go_wp2_with fail
  go_at_call 269
  refine (take_yes w b s k h hk hs).mono ?_
  rintro e w1 ⟨rfl, rfl⟩
  have hr := h.set (s.drop k)
  have hup := (UpB.refl b w).setCell (p := ⟨b, 0, none⟩) (Or.inl rfl) (.string (bs (s.drop k)))
  generalize w.setCell ⟨b, 0, none⟩ (.string (bs (s.drop k))) = w1 at hr hup ⊢
  have hcv := Lib.run_convert_string_bytes (P := Tryz.prog) w1 9 49 5 (bs (s.take k)) Tryz.underlying9 Tryz.underlying49 Tryz.underlying5
  have hsz : (bs (s.take k)).size = k := by rw [bs_size, List.length_take]; omega
  have hcell : ∀ j, j < k → (Lib.bytesWorld w1 5 (bs (s.take k))).cell? ⟨w1.heap.size, j, none⟩ = some (.int .u8 ((s.take k).getD j 0).toNat) := fun j hj => Lib.bytesWorld_cell w1 _ _ j (by omega)
  rw [hsz] at hcv
  go_wp2_with fail
  go_loop [5, 13] (fun n i => ∃ j : Nat, j ≤ k ∧ i = .int .i64 j ∧ n = .int .i64 (le ((s.take k).take j))) (fun _ i => k - (intOf i).toNat)
  case atStart => exact ⟨0, Nat.zero_le _, rfl, rfl⟩
  case round =>
    obtain ⟨j, hj, rfl, rfl⟩ := hrel
    by_cases hjk : j < k
    · have hc := hcell j hjk
      go_wp2
      go_round
      case rel =>
        have hlen : (s.take k).length = k := by rw [List.length_take]; omega
        have hl := le_lt ((s.take k).take j)
        rw [List.length_take, hlen, Nat.min_eq_left (by omega)] at hl
        refine ⟨j + 1, by omega, by go_num, ?_⟩
        have hl2 : ((s.take k).take j).length = j := by rw [List.length_take, hlen]; omega
        rw [or_shift _ _ j hl (by exact s[j].toNat_lt) (by omega), List.take_succ_eq_append_getElem (by omega), le_snoc, hl2]
        simp
      case measure => simp [intOf]; omega
    · go_wp2
      go_ret
      have : j = k := by omega
      subst this
      rw [List.take_take, Nat.min_self]
      exact ⟨rfl, by rw [Rdr, Lib.bytesWorld_at_old _ _ _ _ hr.lt]; exact hr, UpB.of_bytes hup _ _⟩

/-- How a method of the reader ends: what it read, and the bytes that are left; or the panic. -/
def Ends {α : Type} (b : Nat) (w : World) (o : Option (α × By)) (P : World → Value → α → Prop) (e : Ending) (w' : World) : Prop :=
  UpB b w w' ∧ match o with
    | none => e = .panicked pn
    | some (x, r) => ∃ v, e = .returned v ∧ Rdr w' b r ∧ P w' v x
theorem Ends.ok {α : Type} {b : Nat} {w : World} {o : Option (α × By)} {P : World → Value → α → Prop} {e : Ending} {w' : World} {x : α} {r : By} (ho : o = some (x, r)) (hu : UpB b w w') {v : Value} (he : e = .returned v) (hr : Rdr w' b r) (hp : P w' v x) : Ends b w o P e w' := by
  subst ho; exact ⟨hu, v, he, hr, hp⟩
theorem Ends.bad {α : Type} {b : Nat} {w : World} {o : Option (α × By)} {P : World → Value → α → Prop} {e : Ending} {w' : World} (ho : o = none) (hu : UpB b w w') (he : e = .panicked pn) : Ends b w o P e w' := by
  subst ho; exact ⟨hu, he⟩
theorem number_any (w : World) (b : Nat) (s : By) (k : Nat) (h : Rdr w b s) (hs : s.length ≤ 16384) (hk2 : k ≤ 4) :
    Calls Tryz.prog 273 #[ptr b, .int .i64 k] w (Ends b w (nu k s) fun _ v n => v = .int .i64 (n : Nat)) := by
  by_cases hk : k ≤ s.length
  · refine (number_yes w b s k h hk hs hk2).mono ?_
    rintro e w' ⟨rfl, h1, h2⟩
    exact Ends.ok (x := le (s.take k)) (by simp [nu, tk, hk]) h2 rfl h1 rfl
  · refine (number_no w b s k h (by omega) hs hk2).mono ?_
    rintro e w' ⟨rfl, rfl⟩
    exact Ends.bad (by simp [nu, tk, hk]) (UpB.refl _ _) rfl
theorem take_any (w : World) (b : Nat) (s : By) (k : Nat) (h : Rdr w b s) (hs : s.length ≤ 16384) (hk2 : k < 4294967296) :
    Calls Tryz.prog 269 #[ptr b, .int .i64 k] w (Ends b w (tk k s) fun _ v a => v = .string (bs a)) := by
  by_cases hk : k ≤ s.length
  · refine (take_yes w b s k h hk hs).mono ?_
    rintro e w' ⟨rfl, rfl⟩
    exact Ends.ok (x := s.take k) (by simp [tk, hk]) ((UpB.refl _ _).setCell (Or.inl rfl) _) rfl (h.set _) rfl
  · refine (take_no w b s k h (by omega) hs hk2).mono ?_
    rintro e w' ⟨rfl, rfl⟩
    exact Ends.bad (by simp [tk, hk]) (UpB.refl _ _) rfl
theorem zero_any (w : World) (b : Nat) (s : By) (k : Nat) (h : Rdr w b s) (hs : s.length ≤ 16384) (hk2 : k ≤ 4) :
    Calls Tryz.prog 270 #[ptr b, .int .i64 k] w (Ends b w ((ze k s).map fun r => ((), r)) fun _ v _ => v = .tuple #[]) := by
  cases hn : nu k s with
  | none =>
    go_enter Tryz.func270, Tryz.ntmps270
    go_wp2_with fail
    go_at_call 273
    refine (number_any w b s k h hs hk2).mono ?_
    rw [hn]
    rintro e w1 ⟨u1, rfl⟩
    go_wp2
    exact ⟨rfl, Ends.bad (by simp [ze, hn]) u1 rfl⟩
  | some p =>
    obtain ⟨n, r⟩ := p
    by_cases h0 : n = 0
    · go_enter Tryz.func270, Tryz.ntmps270
      go_wp2_with fail
      go_at_call 273
      refine (number_any w b s k h hs hk2).mono ?_
      rw [hn]
      rintro e w1 ⟨u1, v, rfl, r1, rfl⟩
      subst h0
      go_wp2_with fail
      go_at_call 267
      refine (need_yes w1).mono ?_
      rintro e w2 ⟨rfl, rfl⟩
      go_wp2
      go_end0
      exact Ends.ok (x := ()) (r := r) (by simp [ze, hn]) u1 rfl r1 rfl
    · have hd : ((n : Int) == 0) = false := by simp; omega
      go_enter Tryz.func270, Tryz.ntmps270
      go_wp2_with fail
      go_at_call 273
      refine (number_any w b s k h hs hk2).mono ?_
      rw [hn]
      rintro e w1 ⟨u1, v, rfl, r1, rfl⟩
      go_wp2_with fail
      go_at_call 267
      refine (need_no w1).mono ?_
      rintro e w2 ⟨rfl, rfl⟩
      go_wp2
      exact ⟨rfl, Ends.bad (by simp [ze, hn, h0]) u1 rfl⟩
theorem tag_any (w : World) (b : Nat) (s : By) (h : Rdr w b s) (hs : s.length ≤ 16384) :
    Calls Tryz.prog 228 #[ptr b] w (Ends b w (tg s) fun _ v t => v = .int .i64 (t : Nat)) := by
  cases hn : nu 2 s with
  | none =>
    go_enter Tryz.func228, Tryz.ntmps228
    go_wp2_with fail
    go_at_call 273
    refine (number_any w b s 2 h hs (by decide)).mono ?_
    rw [hn]
    rintro e w1 ⟨u1, rfl⟩
    go_wp2
    exact ⟨rfl, Ends.bad (by simp [tg, hn]) u1 rfl⟩
  | some p =>
    obtain ⟨u, r⟩ := p
    have hl := nu_len hn
    cases hm : nu 2 r with
    | none =>
      go_enter Tryz.func228, Tryz.ntmps228
      go_wp2_with fail
      go_at_call 273
      refine (number_any w b s 2 h hs (by decide)).mono ?_
      rw [hn]
      rintro e w1 ⟨u1, v, rfl, r1, rfl⟩
      go_wp2_with fail
      go_at_call 273
      refine (number_any w1 b r 2 r1 (by omega) (by decide)).mono ?_
      rw [hm]
      rintro e w2 ⟨u2, rfl⟩
      go_wp2
      exact ⟨rfl, Ends.bad (by simp [tg, hn, hm]) (u1.trans u2) rfl⟩
    | some q =>
      obtain ⟨l, r2⟩ := q
      have hl2 := nu_len hm
      go_enter Tryz.func228, Tryz.ntmps228
      go_wp2_with fail
      go_at_call 273
      refine (number_any w b s 2 h hs (by decide)).mono ?_
      rw [hn]
      rintro e w1 ⟨u1, v, rfl, r1, rfl⟩
      go_wp2_with fail
      go_at_call 273
      refine (number_any w1 b r 2 r1 (by omega) (by decide)).mono ?_
      rw [hm]
      rintro e w2 ⟨u2, v, rfl, r2, rfl⟩
      go_wp2
      go_ret
      have h256 : (256 : Nat) ^ 2 = 65536 := rfl
      refine Ends.ok (x := 65536 * u + l) (by simp [tg, hn, hm]) (u1.trans u2) rfl r2 ?_
      show Value.int .i64 (bits .or .i64 ((u : Int) * 65536) (l : Int)) = _
      have e1 : (u : Int) * 65536 = ((2 ^ 16 * u : Nat) : Int) := by simp; omega
      rw [e1, i64_or_nat _ _ (by omega) (by omega), ← Nat.two_pow_add_eq_or_of_lt (by omega)]
theorem ret_bool {a b : Bool} (h : a = b) : Ending.returned (.bool a) = Ending.returned (.bool b) := by rw [h]
theorem reserved_any (w : World) (t : Nat) (_ht : t < 4294967296) : Calls Tryz.prog 241 #[.int .i64 t] w fun e w' => e = .returned (.bool (decide (t / 65536 = 65534))) ∧ w' = w := by
  go_enter Tryz.func241, Tryz.ntmps241
  go_wp2
  go_ret
  refine ⟨ret_bool ?_, rfl⟩
  rw [Bool.eq_iff_iff]
  simp
  omega
theorem pad_any (w : World) (k : By) : Calls Tryz.prog 191 #[.string (bs k)] w fun e w' => e = .returned (.string (bs [padB k])) ∧ w' = w := by
  have hk := bs_toList k
  by_cases hu : (k == [85, 73]) = true
  · go_enter Tryz.func191, Tryz.ntmps191
    go_wp2
    go_ret
    have : padB k = 0 := by unfold padB; exact if_pos (by simpa using hu)
    rw [this]
    exact ⟨rfl, rfl⟩
  · go_enter Tryz.func191, Tryz.ntmps191
    go_wp2
    go_ret
    have : padB k = 32 := by unfold padB; exact if_neg (by simpa using hu)
    rw [this]
    exact ⟨rfl, rfl⟩
theorem clone_any (w : World) (s : By) (hs : s.length ≤ 16384) : Calls Tryz.prog 268 #[.string (bs s)] w fun e w' => e = .returned (.string (bs s)) ∧ Below w.heap.size w w' := by
  go_enter Tryz.func268, Tryz.ntmps268
  go_wp2_with fail
  go_at_call 301
  refine (Tryz.stringslite_Clone (bs s) w (by rw [bs_size]; omega)).mono ?_
  rintro e w1 ⟨rfl, h1⟩
  go_wp2
  go_ret
  exact ⟨rfl, h1⟩
theorem trim_eq (s : By) (p : UInt8) : Lib.trimRightB s p = trimB p s := by
  unfold Lib.trimRightB trimB
  rfl
theorem trimB_len (p : UInt8) (v : By) : (trimB p v).length ≤ v.length := by
  unfold trimB
  rw [List.length_reverse]
  have := (List.dropWhile_sublist (l := v.reverse) (· == p)).length_le
  rwa [List.length_reverse] at this
theorem padB_lt (k : By) : (padB k).toNat < 128 := by
  unfold padB
  split <;> decide
theorem value_any (w : World) (b : Nat) (k s : By) (h : Rdr w b s) (hs : s.length ≤ 16384) :
    Calls Tryz.prog 272 #[ptr b, .string (bs k)] w (Ends b w (va k s) fun _ v t => v = .string (bs t)) := by
  cases hn : nu 2 s with
  | none =>
    go_enter Tryz.func272, Tryz.ntmps272
    go_wp2_with fail
    go_at_call 273
    refine (number_any w b s 2 h hs (by decide)).mono ?_
    rw [hn]
    rintro e w1 ⟨u1, rfl⟩
    go_wp2
    exact ⟨rfl, Ends.bad (by simp [va, hn]) u1 rfl⟩
  | some p =>
    obtain ⟨n, r⟩ := p
    have hl := nu_len hn
    have h256 : (256 : Nat) ^ 2 = 65536 := rfl
    by_cases h0 : n % 2 = 0
    · have hd : ((n : Int) % 2 == 0) = true := by simp; omega
      go_enter Tryz.func272, Tryz.ntmps272
      go_wp2_with fail
      go_at_call 273
      refine (number_any w b s 2 h hs (by decide)).mono ?_
      rw [hn]
      rintro e w1 ⟨u1, v, rfl, r1, rfl⟩
      go_wp2_with fail
      go_at_call 267
      refine (need_yes w1).mono ?_
      rintro e w2 ⟨rfl, rfl⟩
      go_wp2_with fail
      go_at_call 269
      refine (take_any w2 b r n r1 (by omega) (by omega)).mono ?_
      cases ht : tk n r with
      | none =>
        rintro e w3 ⟨u3, rfl⟩
        go_wp2
        exact ⟨rfl, Ends.bad (by simp [va, hn, h0, ht]) (u1.trans u3) rfl⟩
      | some q =>
        obtain ⟨x, r3⟩ := q
        have hl3 := tk_len ht
        have htl := trimB_len (padB k) x
        rintro e w3 ⟨u3, v, rfl, r3', rfl⟩
        go_wp2_with fail
        go_at_call 191
        refine (pad_any w3 k).mono ?_
        rintro e w4 ⟨rfl, rfl⟩
        go_wp2_with fail
        go_at_call 305
        refine (Tryz.strings_TrimRight_one (bs x) (padB k) (padB_lt k) w4 (by rw [bs_size]; omega)).mono ?_
        rintro e w5 ⟨rfl, rfl⟩
        rw [show (⟨(Lib.trimRightB (bs x).data.toList (padB k)).toArray⟩ : ByteArray) = bs (trimB (padB k) x) by rw [bs_list, trim_eq]; rfl]
        go_wp2_with fail
        go_at_call 268
        refine (clone_any w5 (trimB (padB k) x) (by omega)).mono ?_
        rintro e w6 ⟨rfl, u6⟩
        go_wp2
        go_ret
        refine Ends.ok (x := trimB (padB k) x) (r := r3) (by simp [va, hn, h0, ht]) ((u1.trans u3).trans (UpB.of_below u6)) rfl (r3'.below u6) rfl
    · have hd : ((n : Int) % 2 == 0) = false := by simp; omega
      go_enter Tryz.func272, Tryz.ntmps272
      go_wp2_with fail
      go_at_call 273
      refine (number_any w b s 2 h hs (by decide)).mono ?_
      rw [hn]
      rintro e w1 ⟨u1, v, rfl, r1, rfl⟩
      go_wp2_with fail
      go_at_call 267
      refine (need_no w1).mono ?_
      rintro e w2 ⟨rfl, rfl⟩
      go_wp2
      exact ⟨rfl, Ends.bad (by simp [va, hn, h0]) u1 rfl⟩
end Go.Proofs.YtaokifbpakbgdaaGreatDoor

/- Package dataset's reader, its loops and its recursion: what is read, and how deep. -/
namespace Go.Proofs.YtaokifbpakbgdaaGreatDoor
open Go.RowKit

/-- How many bytes a reader has left. -/
def left (b : Nat) (w : World) : Nat := match w.cell? ⟨b, 0, none⟩ with
  | some (.string s) => s.size
  | _ => 0
theorem Rdr.left {w : World} {b : Nat} {s : By} (h : Rdr w b s) : left b w = s.length := by
  unfold Go.Proofs.YtaokifbpakbgdaaGreatDoor.left
  rw [h.cell]; rfl
theorem info_el : (Tryz.prog.info? 73).map (fun i => (i.zero, i.size, i.bytes)) = some (some (.agg #[.int .i64 0, .string ByteArray.empty, .string ByteArray.empty, .slice none 0 0]), 4, 64) := by kernel_rfl
theorem info_it : (Tryz.prog.info? 182).map (fun i => (i.zero, i.size, i.bytes)) = some (some (.agg #[.slice none 0 0]), 1, 24) := by kernel_rfl
/-- An element's value. -/
def EV (w : World) (n : Nat) (v : Value) (x : El n) (b : List Nat) : Prop := ∃ t k u a l c, v = .agg #[.int .i64 t, .string k, .string u, .slice a l c] ∧ CE w n [.int .i64 t, .string k, .string u, .slice a l c] x b
/-- Blocks, none twice, that were made on the way from a world to another one. -/
def New (w w' : World) (b : List Nat) : Prop := b.Nodup ∧ ∀ j ∈ b, w.heap.size ≤ j ∧ j < w'.heap.size
theorem four_cells (w : World) (T : TypeId) (c0 c1 c2 c3 : Value) : ∀ j u, [c0, c1, c2, c3][j]? = some u → (w.alloc (.cells #[c0, c1, c2, c3] T)).cell? ((⟨w.heap.size, 0, none⟩ : Addr).add j) = some u := by
  intro j u hj
  rw [Addr.add_lit]
  match j, hj with
  | 0, hj | 1, hj | 2, hj | 3, hj => simp at hj; subst hj; simp
  | j + 4, hj => simp at hj
theorem four_one {t : Int} {k u : ByteArray} {a : Option Addr} {l c : Nat} : ∀ v ∈ [Value.int .i64 t, .string k, .string u, .slice a l c], v.oneCell' = true := by
  intro v hv
  simp at hv
  rcases hv with rfl | rfl | rfl | rfl <;> rfl
/-- What is asked of the method 'element', at a depth. -/
def ElC (m : Nat) : Prop := ∀ (n : Nat) (w : World) (b : Nat) (s : By) (t : Nat), Rdr w b s → s.length ≤ 16384 → s.length < m → t < 4294967296 →
  Calls Tryz.prog 227 #[ptr b, .int .i64 t] w (Ends b w (elP m n t s) fun w' v x => ∃ bl, EV w' n v x bl ∧ New w w' bl)
theorem New.nil (w w' : World) : New w w' [] := ⟨List.nodup_nil, fun j hj => by cases hj⟩
theorem New.more {w0 w w' : World} {l : List Nat} (h : New w0 w l) (hs : w.heap.size ≤ w'.heap.size) : New w0 w' l := ⟨h.1, fun j hj => ⟨(h.2 j hj).1, Nat.lt_of_lt_of_le (h.2 j hj).2 hs⟩⟩
/-- One thing more in a row of one's own. -/
theorem Row.snoc {α : Type} {w0 w w' : World} {T : TypeId} {k : Nat} {R R' : List Value → α → List Nat → Prop} {v v' : Value} {l : List α} {xs c : List Value} {cs b : List Nat} {x : α} (hls : Ls k R xs l cs) (hc : c.length = k) (hx : R c x b)
    (hsz : w0.heap.size ≤ w.heap.size) (hn : New w0 w (v.ownBlock.toList ++ cs ++ b)) (hown' : w'.ownsRow 0 T k v' (l.length + 1) (xs ++ c)) (hg : w.grownBy w' v.ownBlock) (hv : v'.ownBlock = v.ownBlock ∨ ∀ g ∈ v'.ownBlock.toList, w.heap.size ≤ g)
    (hR : ∀ c y b', (∀ j ∈ b', j < w.heap.size ∧ w'.heap[j]? = w.heap[j]?) → R c y b' → R' c y b') :
    Ls k R' (xs ++ c) (l ++ [x]) (cs ++ b) ∧ w'.ownsRow 0 T k v' (l ++ [x]).length (xs ++ c) ∧ New w0 w' (v'.ownBlock.toList ++ (cs ++ b)) := by
  obtain ⟨hn1, hn2⟩ := hn
  rw [List.append_assoc] at hn1 hn2
  have hne : ∀ j ∈ cs ++ b, j < w.heap.size ∧ w'.heap[j]? = w.heap[j]? := fun j hj => by
    have h1 := hn2 j (List.mem_append_right _ hj)
    refine ⟨h1.2, hg.block j h1.2 (fun e => ?_)⟩
    have := (List.nodup_append.1 hn1).2.2 j (by rw [← e]; simp) j hj
    exact this rfl
  refine ⟨(hls.snoc hc hx).mono (fun c y b' hb' _ hr => hR c y b' (fun j hj => hne j (hb' j hj)) hr), by rw [List.length_append]; exact hown', ?_, ?_⟩
  · rcases hv with e | e
    · rw [e]; exact hn1
    · refine List.nodup_append.2 ⟨?_, (List.nodup_append.1 hn1).2.1, fun a ha j hj => ?_⟩
      · cases v'.ownBlock <;> simp
      · have h1 := e a ha
        have h2 := (hne j hj).1
        omega
  · intro j hj
    rcases List.mem_append.1 hj with hj | hj
    · rcases hv with e | e
      · have := hn2 j (List.mem_append_left _ (by rw [← e]; exact hj))
        have := hg.size
        omega
      · have h1 := e j hj
        exact ⟨by omega, ownsRow_lt hown' j hj⟩
    · have := hn2 j (List.mem_append_right _ hj)
      have := hg.size
      omega
/-- Behind 'append(l, x)': x was laid in a block of its own first. -/
theorem Row.push {α : Type} {w0 w w' : World} {o : Obj} {T : TypeId} {k : Nat} {R : World → List Value → α → List Nat → Prop} (hK : ∀ w w' c x b, R w c x b → (∀ j ∈ b, w'.heap[j]? = w.heap[j]?) → R w' c x b) {v v' : Value} {l : List α} {xs c : List Value} {cs b : List Nat} {x : α}
    (hls : Ls k (R w) xs l cs) (hc : c.length = k) (hx : R w c x b) (hsz : w0.heap.size ≤ w.heap.size) (hn : New w0 w (v.ownBlock.toList ++ cs ++ b)) (hown' : w'.ownsRow 0 T k v' (l.length + 1) (xs ++ c)) (hg : (w.alloc o).grownBy w' v.ownBlock)
    (hv : Moved (w.alloc o) v v') :
    Ls k (R w') (xs ++ c) (l ++ [x]) (cs ++ b) ∧ w'.ownsRow 0 T k v' (l ++ [x]).length (xs ++ c) ∧ New w0 w' (v'.ownBlock.toList ++ (cs ++ b)) := by
  have hsa : w.heap.size ≤ (w.alloc o).heap.size := by simp
  have ha : ∀ j, j < w.heap.size → (w.alloc o).heap[j]? = w.heap[j]? := fun j hj => Below.heap_alloc w o j hj
  have hlt : ∀ j ∈ cs ++ b, j < w.heap.size := fun j hj => (hn.2 j (by rw [List.append_assoc]; exact List.mem_append_right _ hj)).2
  refine Row.snoc (w := w.alloc o) (R := R (w.alloc o)) (hls.mono (fun c y b' hb' _ hr => hK _ _ _ _ _ hr (fun j hj => ha j (hlt j (List.mem_append_left _ (hb' j hj)))))) hc (hK _ _ _ _ _ hx (fun j hj => ha j (hlt j (List.mem_append_right _ hj)))) (Nat.le_trans hsz hsa) (hn.more hsa) hown' hg hv
    (fun c y b' hb' hr => hK _ _ _ _ _ hr (fun j hj => (hb' j hj).2))
theorem UpB.old {b : Nat} {w0 w w' : World} (h : UpB b w w') {l : List Nat} (hl : New w0 w l) (hb : b < w0.heap.size) : ∀ j ∈ l, w'.heap[j]? = w.heap[j]? := fun j hj => h.block (hl.2 j hj).2 (by have := (hl.2 j hj).1; omega)
theorem New.add {w0 w w' : World} {l b : List Nat} (h : New w0 w l) (hb : New w w' b) (h0 : w0.heap.size ≤ w.heap.size) (hs : w.heap.size ≤ w'.heap.size) : New w0 w' (l ++ b) :=
  ⟨List.nodup_append.2 ⟨h.1, hb.1, fun i hi j hj => by have := (h.2 i hi).2; have := (hb.2 j hj).1; omega⟩, fun j hj => by
    rcases List.mem_append.1 hj with hj | hj
    · exact (h.more hs).2 j hj
    · exact ⟨Nat.le_trans h0 (hb.2 j hj).1, (hb.2 j hj).2⟩⟩
theorem set_any (m : Nat) (H : ElC m) (n : Nat) (w : World) (b : Nat) (s : By) (h : Rdr w b s) (hs : s.length ≤ 16384) (hm : s.length < m + 4) :
    Calls Tryz.prog 174 #[ptr b] w (Ends b w ((toEnd (elP m n) s.length s).map fun l => (l, [])) fun w' v l => ∃ bl, Ow w' n v l bl ∧ New w w' bl) := by
  obtain ⟨i0, hi, hz0, hz1, hz2⟩ := info_parts info_el
  have HI := hid hi
  clear hi
  have hE := elP_eats m n
  go_enter Tryz.func174, Tryz.ntmps174
  go_wp2_with fail
  go_loopw [3] (fun v wr => ∃ (done : List (El n)) (r : By) (xs : List Value) (cs : List Nat), Hid (toEnd (elP m n) s.length s = (toEnd (elP m n) r.length r).map (done ++ ·)) ∧ Hid (done.length + r.length ≤ s.length) ∧ Rdr wr b r ∧ Hid (UpB b w wr) ∧
      Hid (wr.ownsRow 0 73 4 v done.length xs) ∧ Hid (Ls 4 (CE wr n) xs done cs) ∧ Hid (New w wr (v.ownBlock.toList ++ cs))) (fun _ wr => left b wr)
  case atStart => exact ⟨[], s, [], [], by unfold Hid; simp, by unfold Hid; simp, h, UpB.refl _ _, World.ownsRow_nil _ _ _ _, ⟨rfl, rfl⟩, New.nil _ _⟩
  case round =>
    obtain ⟨done, r, xs, cs, hspec, hlen, hr, hup, hown, hes, hnew⟩ := hrel
    have hc := hr.cell
    have hl := bs_toList r
    by_cases hr0 : r = []
    · subst hr0
      go_wp2_with fail
      go_ret
      have e : toEnd (elP m n) s.length s = some done := by rw [hspec.out]; simp [toEnd]
      refine Ends.ok (x := done) (r := []) (by rw [e]; rfl) hup.out rfl hr ⟨_, ?_, hnew.out⟩
      rw [Ow_eq]
      exact ⟨xs, cs, hown.out, hes.out, rfl⟩
    · have hne : r.isEmpty = false := by cases r with | nil => exact absurd rfl hr0 | cons _ _ => rfl
      have hne2 : (r == []) = false := by cases r with | nil => exact absurd rfl hr0 | cons _ _ => rfl
      have hstep := hid (toEnd_step hE hr0)
      clear hr0
      go_wp2_with fail
      go_at_call 228
      refine (tag_any wr b r hr (by have := hlen.out; omega)).mono ?_
      cases htg : tg r with
      | none =>
        rintro e w1 ⟨u1, rfl⟩
        go_wp2
        refine ⟨rfl, Ends.bad ?_ (hup.out.trans u1) rfl⟩
        rw [hspec.out, hstep.out, htg]; rfl
      | some p =>
        obtain ⟨t, r1⟩ := p
        have h1 := tg_len htg
        rintro e w1 ⟨u1, v, rfl, r1', rfl⟩
        go_wp2_with fail
        go_at_call 227
        refine (H n w1 b r1 t r1' (by have := hlen.out; omega) (by have := hlen.out; omega) h1.2).mono ?_
        cases hel : elP m n t r1 with
        | none =>
          rintro e w2 ⟨u2, rfl⟩
          go_wp2
          refine ⟨rfl, Ends.bad ?_ ((hup.out.trans u1).trans u2) rfl⟩
          rw [hspec.out, hstep.out, htg]
          simp only []
          rw [hel]; rfl
        | some q =>
          obtain ⟨x, r2⟩ := q
          have h2 := hE _ _ _ _ hel
          rintro e w2 ⟨u2, v, rfl, r2', bl, ⟨t', k', u', a', l', c', rfl, hce⟩, hbl⟩
          have hb : b < w.heap.size := h.lt
          have u12 := u1.trans u2
          have hold : ∀ j ∈ u3.ownBlock.toList ++ cs, w2.heap[j]? = wr.heap[j]? := u12.old hnew.out hb
          have hown2 := hid (ownsRow_keep hown.out (fun j hj => hold j (List.mem_append_left _ hj)))
          have hes2 := hid (hes.out.mono (R' := CE w2 n) (fun c y b' hb' _ hr => hr.keep (fun j hj => hold j (List.mem_append_right _ (hb' j hj)))))
          clear hold
          have hnew2 := hid (New.add (hnew.out.more u1.size) hbl (Nat.le_trans hup.out.size u1.size) u2.size)
          go_wp2_with (at_builtin; refine wpList_append_sep _ rfl _ _ 59 rfl 73 i0 _ 4 64 Tryz.underlying59 HI.out hz0 hz1 hz2 rfl (by decide) _ _ _ rfl (hown2.out.alloc _) ⟨w2.heap.size, 0, none⟩ 1 1 [.int .i64 t', .string k', .string u', .slice a' l' c'] rfl rfl (four_cells _ _ _ _ _ _) four_one (by unfold maxLen; have := hlen.out; omega) (by have := hlen.out; omega) ?_)
          intro v' w3 hown' hg hv
          have R := hid (Row.push (R := fun w => CE w n) (fun _ _ _ _ _ h k => h.keep k) hes2.out rfl hce (Nat.le_trans hup.out.size u12.size) hnew2.out hown' hg hv)
          have hr3 := (r2'.below (Below.alloc (Below.refl _ _) (Nat.le_refl _) (.cells #[.int .i64 t', .string k', .string u', .slice a' l' c'] 73)))
          have u3' := hid ((((hup.out.trans u12).alloc (.cells #[.int .i64 t', .string k', .string u', .slice a' l' c'] 73)).grown hg (fun k hk => Or.inr ((hnew.out.2 k (List.mem_append_left _ (by rw [hk]; simp))).1))))
          have hr4 : Rdr w3 b r2 := by rw [Rdr, hg.block b hr3.lt (fun e => by have := (hnew.out.2 b (List.mem_append_left _ (by rw [← e]; simp))).1; omega)]; exact hr3
          clear hown' hg hv
          go_wp2
          go_roundw
          case rel =>
            refine ⟨done ++ [x], r2, _, _, ?_, ?_, hr4, u3', R.out.2.1, R.out.1, R.out.2.2⟩
            · unfold Hid
              rw [hspec.out, hstep.out, htg]
              simp only []
              rw [hel]
              simp only []
              cases toEnd (elP m n) r2.length r2 <;> simp
            · have := hlen.out
              unfold Hid
              rw [List.length_append, List.length_singleton]
              omega
          case measure =>
            rw [hr4.left, hr.left]
            omega
end Go.Proofs.YtaokifbpakbgdaaGreatDoor

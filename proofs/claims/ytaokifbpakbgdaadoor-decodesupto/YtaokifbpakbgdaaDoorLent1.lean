/-
  What 'lent' has done so far, as one notion, and how each of its steps carries it on (no program).
-/
import Derived.Test.YtaokifbpakbgdaaDoorLent0
namespace Go.Proofs.YtaokifbpakbgdaaDoor
open Go.RowKit

theorem HasC.of_own {w : World} {b g : Nat} {T : TypeId} {k n cap : Nat} {xs : List Value} (h : w.ownsRow b T k (.slice (some ⟨g, 0, none⟩) n cap) n xs) : HasC w g T (cap * k) (fun _ _ => True) := by
  rcases h.2 with ⟨h, _⟩ | ⟨g', cap', cur, h, _, hg, _, _, hs, _⟩
  · cases h
  · injection h with h1 _ h3
    injection h1 with h1
    injection h1 with h1
    subst h1
    subst h3
    exact ⟨cur, hg, hs, fun _ _ _ => trivial⟩
theorem below_grown {w w' : World} (h : w.grownBy w' none) : Below w.heap.size w w' := ⟨h.os, h.tape, h.output, h.size, fun j hj => h.block j hj (by simp)⟩
theorem add_twice (a : Addr) (m f : Nat) : (a.add m).add f = a.add (m + f) := by
  unfold Addr.add
  by_cases h1 : m = 0
  · subst h1
    simp
  · by_cases h2 : f = 0
    · subst h2
      simp [h1]
    · rw [if_neg h1, if_neg h2, if_neg (by omega)]
      simp [Nat.add_assoc]
/-- The cells of a list that reads. -/
theorem rd_cells {n : Nat} {w : World} {F : Nat → Prop} {ad : Option Addr} {cap : Nat} {l : List (El (n + 1))} (h : Rd w F (n + 1) (.slice ad l.length cap) l) :
    ∃ cs : List Value, cs.length = l.length * 4 ∧ (∀ a, ad = some a → ∀ j v, cs[j]? = some v → w.cell? (a.add j) = some v) ∧ (ad = none → cs = []) ∧ (∀ v ∈ cs, v.oneCell' = true) ∧
      ∀ (j : Nat) v x, cs[j]? = some v → l[j / 4]? = some x → match j % 4 with
        | 0 => v = .int .i64 x.1
        | 1 => v = .string (bs x.2.1)
        | 2 => v = .string (bs x.2.2.1)
        | _ => RdI w F n v x.2.2.2 := by
  cases ad with
  | none =>
    obtain ⟨ad', cap', e, hc⟩ := h
    have : l = [] := by
      cases l with
      | nil => rfl
      | cons x l =>
        obtain ⟨a, ha, _⟩ := hc 0 x rfl
        injection e with e
        rw [ha] at e
        cases e
    subst this
    exact ⟨[], rfl, (fun a h => nomatch h), fun _ => rfl, (fun v h => nomatch h), fun j v x h => by simp at h⟩
  | some a =>
    obtain ⟨ad', cap', e, hc⟩ := h
    have key : ∀ j, j < l.length * 4 → ∃ v x, l[j / 4]? = some x ∧ w.cell? (a.add j) = some v ∧ v.oneCell' = true ∧ match j % 4 with
        | 0 => v = .int .i64 x.1
        | 1 => v = .string (bs x.2.1)
        | 2 => v = .string (bs x.2.2.1)
        | _ => RdI w F n v x.2.2.2 := by
      intro j hj
      have hx : l[j / 4]? = some l[j / 4] := List.getElem?_eq_getElem (by omega)
      obtain ⟨a', ea, _, c0, c1, c2, iv, c3, hiv⟩ := hc _ _ hx
      injection e with e
      rw [ea] at e
      injection e with e
      subst e
      obtain ⟨iad, icap, rfl⟩ := RdI.slice (n := n) hiv
      have hadd : ∀ f, (a.add (4 * (j / 4))).add f = a.add (4 * (j / 4) + f) := fun f => add_twice a _ f
      rw [hadd] at c1 c2 c3
      have hm : j % 4 = 0 ∨ j % 4 = 1 ∨ j % 4 = 2 ∨ j % 4 = 3 := by omega
      rcases hm with hm | hm | hm | hm
      · rw [show 4 * (j / 4) = j by omega] at c0
        exact ⟨_, _, hx, c0, rfl, by rw [hm]; exact rfl⟩
      · rw [show 4 * (j / 4) + 1 = j by omega] at c1
        exact ⟨_, _, hx, c1, rfl, by rw [hm]; exact rfl⟩
      · rw [show 4 * (j / 4) + 2 = j by omega] at c2
        exact ⟨_, _, hx, c2, rfl, by rw [hm]; exact rfl⟩
      · rw [show 4 * (j / 4) + 3 = j by omega] at c3
        exact ⟨_, _, hx, c3, rfl, by rw [hm]; exact hiv⟩
    have hcs : ∀ (j : Nat) v, ((List.range (l.length * 4)).map (fun j => (w.cell? (a.add j)).getD (.bool false)))[j]? = some v → j < l.length * 4 ∧ w.cell? (a.add j) = some v := by
      intro j v hv
      rw [List.getElem?_map, Option.map_eq_some_iff] at hv
      obtain ⟨i, hi, rfl⟩ := hv
      have hl := (List.getElem?_eq_some_iff.1 hi).1
      rw [List.length_range] at hl
      rw [List.getElem?_range hl] at hi
      obtain rfl := Option.some.inj hi
      obtain ⟨v, x, _, h2, _⟩ := key j hl
      rw [h2]
      exact ⟨hl, rfl⟩
    refine ⟨(List.range (l.length * 4)).map (fun j => (w.cell? (a.add j)).getD (.bool false)), by simp, ?_, (fun h => nomatch h), ?_, ?_⟩
    · rintro a' ea j v hv
      obtain rfl := Option.some.inj ea
      exact (hcs j v hv).2
    · intro v hv
      obtain ⟨j, hj⟩ := List.getElem?_of_mem hv
      obtain ⟨h1, h2⟩ := hcs j v hj
      obtain ⟨u, x, _, h4, h5, _⟩ := key j h1
      rw [h2] at h4
      obtain rfl := Option.some.inj h4
      exact h5
    · intro j v x hv hx
      obtain ⟨h1, h2⟩ := hcs j v hv
      obtain ⟨u, y, h3, h4, _, h6⟩ := key j h1
      rw [h2] at h4
      obtain rfl := Option.some.inj h4
      rw [hx] at h3
      obtain rfl := Option.some.inj h3
      exact h6
/-- Behind 'copy': the elements stand there, their items not yet of their own. -/
theorem out_start {n : Nat} {w w0 : World} {F F0 : Nat → Prop} {g N : Nat} {T : TypeId} {l : List (El (n + 1))} {cs cur : List Value} (hg : w.heap[g]? = some (.cells (cs ++ cur).toArray T (0, 0))) (hN : cs.length + cur.length = N) (hl : cs.length = l.length * 4)
    (hc : ∀ (j : Nat) v x, cs[j]? = some v → l[j / 4]? = some x → match j % 4 with
        | 0 => v = .int .i64 x.1
        | 1 => v = .string (bs x.2.1)
        | 2 => v = .string (bs x.2.2.1)
        | _ => RdI w0 F0 n v x.2.2.2) : HasC w g T N (OutQ w F l 0 l.length) := by
  refine ⟨_, hg, by simpa using hN, fun j v hv => ⟨fun x hx => ?_, fun h1 h2 => by omega⟩⟩
  have hj := (List.getElem?_eq_some_iff.1 hx).1
  have hv' : cs[j]? = some v := by
    simp only [List.getElem?_toArray] at hv
    rwa [List.getElem?_append_left (by omega)] at hv
  have := hc j v x hv' hx
  have hm : j % 4 = 0 ∨ j % 4 = 1 ∨ j % 4 = 2 ∨ j % 4 = 3 := by omega
  rcases hm with hm | hm | hm | hm <;> rw [hm] at this ⊢
  · exact this
  · exact this
  · exact this
  · exact fun h => by omega
/-- One mark more in the spare room. -/
theorem out_mark {n : Nat} {w : World} {F : Nat → Prop} {g N i : Nat} {T : TypeId} {l : List (El (n + 1))} (h : HasC w g T N (OutQ w F l 0 i)) (hi : l.length ≤ i) :
    HasC ((((w.setCell ⟨g, i * 4, none⟩ (badV 0 0)).setCell ⟨g, i * 4 + 1, none⟩ (badV 0 1)).setCell ⟨g, i * 4 + 2, none⟩ (badV 0 2)).setCell ⟨g, i * 4 + 3, none⟩ (badV 0 3)) g T N
      (OutQ ((((w.setCell ⟨g, i * 4, none⟩ (badV 0 0)).setCell ⟨g, i * 4 + 1, none⟩ (badV 0 1)).setCell ⟨g, i * 4 + 2, none⟩ (badV 0 2)).setCell ⟨g, i * 4 + 3, none⟩ (badV 0 3)) F l 0 (i + 1)) := by
  have q : ∀ (w' : World) (f : Nat), f < 4 → OutQ w' F l 0 (i + 1) (i * 4 + f) (badV 0 f) := fun w' f hf =>
    ⟨fun x hx => by have := (List.getElem?_eq_some_iff.1 hx).1; omega, fun _ _ => by rw [show (i * 4 + f) % 4 = f by omega]⟩
  let P (k : Nat) (j : Nat) (v : Value) : Prop := (∀ x, l[j / 4]? = some x → match j % 4 with
    | 0 => v = .int .i64 x.1
    | 1 => v = .string (bs x.2.1)
    | 2 => v = .string (bs x.2.2.1)
    | _ => True) ∧ (l.length ≤ j / 4 → (j / 4 < i ∨ (j / 4 = i ∧ j % 4 < k)) → v = badV 0 (j % 4))
  have p0 : HasC w g T N (P 0) := h.keep rfl (fun j v _ hv => ⟨fun x hx => by
    have := hv.1 x hx
    have hm : j % 4 = 0 ∨ j % 4 = 1 ∨ j % 4 = 2 ∨ j % 4 = 3 := by omega
    rcases hm with hm | hm | hm | hm <;> rw [hm] at this ⊢
    · exact this
    · exact this
    · exact this
    · trivial, fun h1 h2 => hv.2 h1 (by omega)⟩)
  have step : ∀ (w' : World) (k : Nat), k < 4 → HasC w' g T N (P k) → HasC (w'.setCell ⟨g, i * 4 + k, none⟩ (badV 0 k)) g T N (P (k + 1)) := fun w' k hk h =>
    h.set (i * 4 + k) (badV 0 k) ⟨fun x hx => by have := (List.getElem?_eq_some_iff.1 hx).1; omega, fun _ _ => by rw [show (i * 4 + k) % 4 = k by omega]⟩ (fun j v _ hne hv => ⟨hv.1, fun h1 h2 => hv.2 h1 (by omega)⟩)
  have p4 := step _ 3 (by omega) (step _ 2 (by omega) (step _ 1 (by omega) (step _ 0 (by omega) p0)))
  refine p4.keep rfl (fun j v _ hv => ⟨fun x hx => ?_, fun h1 h2 => hv.2 h1 (by omega)⟩)
  have := hv.1 x hx
  have hm : j % 4 = 0 ∨ j % 4 = 1 ∨ j % 4 = 2 ∨ j % 4 = 3 := by omega
  rcases hm with hm | hm | hm | hm <;> rw [hm] at this ⊢
  · exact this
  · exact this
  · exact this
  · exact fun h => by omega

/-- What 'lent' has done when i elements have items of their own. -/
def LS1 {n : Nat} (X : Nat → Prop) (w : World) (B g : Nat) (l : List (El (n + 1))) (i : Nat) (es is es' is' : List (Nat × Nat)) (S : Nat → Prop) : Prop :=
  Ln w B (es ++ es') (is ++ is') S ∧ ¬ S g ∧ X g ∧ HasC w g 37 (4 * (l.length + 8)) (OutQ w (Fz X S w) l i (l.length + 8)) ∧ Rms X S w es' is'
theorem Nx.out {S S' : Nat → Prop} {w w' : World} (h : Nx S w S' w') {g : Nat} (hg : ¬ S g) (hl : g < w.heap.size) : ¬ S' g := fun e => by
  rcases h.2 g e with e | e
  · exact hg e
  · omega
/-- Only the rows of the loan have turned. -/
theorem LS1.nx {n : Nat} {X : Nat → Prop} {w w' : World} {B g : Nat} {l : List (El (n + 1))} {i : Nat} {es is es' is' es2 is2 : List (Nat × Nat)} {S S' : Nat → Prop} (h : LS1 X w B g l i es is es' is' S) (k : Nx S w S' w')
    (hL : Ln w' B (es ++ (es' ++ es2)) (is ++ (is' ++ is2)) S') (hR : Rms X S' w' es2 is2) : LS1 X w' B g l i es is (es' ++ es2) (is' ++ is2) S' := by
  obtain ⟨_, h2, h3, h4, h5⟩ := h
  refine ⟨hL, k.out h2 h4.lt, h3, h4.keep (k.1.block h4.lt h2) (fun j v _ hv => hv.up k.pr), (h5.up k.pr).add hR⟩
theorem LS1.below {n : Nat} {X : Nat → Prop} {w w' : World} {B g : Nat} {l : List (El (n + 1))} {i : Nat} {es is es' is' : List (Nat × Nat)} {S : Nat → Prop} (h : LS1 X w B g l i es is es' is' S) (k : Below w.heap.size w w') : LS1 X w' B g l i es is es' is' S := by
  have := h.nx (es2 := []) (is2 := []) (Nx.of_below k) (by rw [List.append_nil, List.append_nil]; exact h.1.below k) (Rms.nil _ _ _)
  rwa [List.append_nil, List.append_nil] at this
/-- A block of those that are left aside is written. -/
theorem LS1.set {n : Nat} {X : Nat → Prop} {w : World} {B g : Nat} {l : List (El (n + 1))} {i : Nat} {es is es' is' : List (Nat × Nat)} {S : Nat → Prop} (h : LS1 X w B g l i es is es' is' S) {p : Addr} (hp : X p.block) (hn : p.block ≠ g) (hs : ¬ S p.block) (u : Value) : LS1 X (w.setCell p u) B g l i es is es' is' S := by
  obtain ⟨h1, h2, h3, h4, h5⟩ := h
  exact ⟨h1.set hs u, h2, h3, h4.keep (Below.heap_setCell _ _ _ _ (fun e => hn e.symm)) (fun j v _ hv => hv.up (Pr.set w hp u)), h5.up (Pr.set w hp u)⟩
/-- One block more is left aside: one that is not yet there. -/
theorem LS1.aside {n : Nat} {X : Nat → Prop} {w : World} {B g b : Nat} {l : List (El (n + 1))} {i : Nat} {es is es' is' : List (Nat × Nat)} {S : Nat → Prop} (h : LS1 X w B g l i es is es' is' S) (hb : w.heap.size ≤ b) : LS1 (fun j => X j ∨ j = b) w B g l i es is es' is' S := by
  obtain ⟨h1, h2, h3, h4, h5⟩ := h
  have hF : ∀ j, Fz X S w j → Fz (fun j => X j ∨ j = b) S w j := fun j hj => ⟨by rintro (e | e); (· exact hj.1 e); have := hj.2.2; omega, hj.2⟩
  refine ⟨h1, h2, Or.inl h3, h4.keep rfl (fun j v _ hv => ⟨fun x hx => ?_, hv.2⟩), h5.turn (fun j hj => (hF j hj).1)⟩
  have := hv.1 x hx
  have hm : j % 4 = 0 ∨ j % 4 = 1 ∨ j % 4 = 2 ∨ j % 4 = 3 := by omega
  rcases hm with hm | hm | hm | hm <;> rw [hm] at this ⊢
  · exact this
  · exact this
  · exact this
  · exact fun hi => (this hi).keep hF (fun _ _ _ => rfl)
/-- The next element has items of its own, in a block that was left aside. -/
theorem LS1.items {n : Nat} {X : Nat → Prop} {w : World} {B g b : Nat} {l : List (El (n + 1))} {i : Nat} {es is es' is' : List (Nat × Nat)} {S : Nat → Prop} {x : El (n + 1)} (h : LS1 (fun j => X j ∨ j = b) w B g l i es is es' is' S) (hXg : X g) (hb : ¬ X b) (hS : ¬ S b) (hx : l[i]? = some x)
    (hI : HasC w b 52 (x.2.2.2.length + 8) (ItQ w (Fz (fun j => X j ∨ j = b) S w) x.2.2.2 (x.2.2.2.length + 8))) (cap : Nat) :
    LS1 X (w.setCell ⟨g, i * 4 + 3, none⟩ (.slice (some ⟨b, 0, none⟩) x.2.2.2.length cap)) B g l (i + 1) es is es' is' S ∧
    RmI (w.setCell ⟨g, i * 4 + 3, none⟩ (.slice (some ⟨b, 0, none⟩) x.2.2.2.length cap)) (Fz X S (w.setCell ⟨g, i * 4 + 3, none⟩ (.slice (some ⟨b, 0, none⟩) x.2.2.2.length cap))) b x.2.2.2.length ∧
    Fz X S (w.setCell ⟨g, i * 4 + 3, none⟩ (.slice (some ⟨b, 0, none⟩) x.2.2.2.length cap)) b := by
  obtain ⟨h1, h2, h3, h4, h5⟩ := h
  have hbg : b ≠ g := fun e => hb (by rw [e]; exact hXg)
  have hF : ∀ j, Fz (fun j => X j ∨ j = b) S w j → Fz X S w j := fun j hj => ⟨fun e => hj.1 (Or.inl e), hj.2⟩
  have hP := Pr.set (X := X) (S := S) w (p := ⟨g, i * 4 + 3, none⟩) hXg (.slice (some ⟨b, 0, none⟩) x.2.2.2.length cap)
  have hbz : Fz X S w b := ⟨hb, hS, hI.lt⟩
  have hrd : RdI w (Fz X S w) n (.slice (some ⟨b, 0, none⟩) x.2.2.2.length cap) x.2.2.2 := its_rd hI hF hbz
  have hrd' := hrd.keep (w' := w.setCell ⟨g, i * 4 + 3, none⟩ (.slice (some ⟨b, 0, none⟩) x.2.2.2.length cap)) (F' := Fz X S (w.setCell ⟨g, i * 4 + 3, none⟩ (.slice (some ⟨b, 0, none⟩) x.2.2.2.length cap))) (fun j hj => (hP j hj).2) (fun j hj _ => (hP j hj).1)
  refine ⟨⟨h1.set h2 _, h2, hXg, h4.set (i * 4 + 3) _ ⟨fun y hy => ?_, fun h6 h7 => ?_⟩ (fun j v _ hne hv => ⟨fun y hy => ?_, hv.2⟩), (h5.turn (fun j hj => (hF j hj).1)).up hP⟩, ?_, (hP b hbz).2⟩
  · rw [show (i * 4 + 3) / 4 = i by omega] at hy ⊢
    rw [hx] at hy
    obtain rfl := Option.some.inj hy
    rw [show (i * 4 + 3) % 4 = 3 by omega]
    exact fun _ => hrd'
  · have := (List.getElem?_eq_some_iff.1 hx).1
    omega
  · have := hv.1 y hy
    have hm : j % 4 = 0 ∨ j % 4 = 1 ∨ j % 4 = 2 ∨ j % 4 = 3 := by omega
    rcases hm with hm | hm | hm | hm <;> rw [hm] at this ⊢
    · exact this
    · exact this
    · exact this
    · exact fun hi => (this (by omega)).keep (fun j hj => (hP j (hF j hj)).2) (fun j hj _ => (hP j (hF j hj)).1)
  · have hr := its_rm hI
    refine HasC.keep hr (Below.heap_setCell _ _ _ _ hbg) (fun j v _ hv hj => ?_)
    obtain ⟨c, g1, g2, g3⟩ := hv hj
    exact ⟨c, (hP c (hF c g1)).2, g2, g3.keep (hP c (hF c g1)).1⟩
/-- The items that are being copied. -/
theorem it_start {n : Nat} {w : World} {F : Nat → Prop} {g N : Nat} {T : TypeId} {its : Its n} (h : HasC w g T N (fun _ _ => True)) : HasC w g T N (ItQ w F its 0) := h.keep rfl (fun j v _ _ => ⟨(fun s _ h => by omega), fun _ h => by omega⟩)
theorem it_set {n : Nat} {X S : Nat → Prop} {w : World} {g N k : Nat} {T : TypeId} {its : Its n} (h : HasC w g T N (ItQ w (Fz X S w) its k)) (hX : X g) (u : Value)
    (hu : (∀ s, its[k]? = some s → Rd w (Fz X S w) n u s) ∧ (its.length ≤ k → ∃ h, Fz X S w h ∧ u = .slice (some ⟨h, 0, none⟩) 1 1 ∧ Bad1 0 w h)) :
    HasC (w.setCell ⟨g, k, none⟩ u) g T N (ItQ (w.setCell ⟨g, k, none⟩ u) (Fz X S (w.setCell ⟨g, k, none⟩ u)) its (k + 1)) := by
  have hP := Pr.set (X := X) (S := S) w (p := ⟨g, k, none⟩) hX u
  refine h.set k u ⟨fun s hs _ => (hu.1 s hs).keep (fun j hj => (hP j hj).2) (fun j hj _ => (hP j hj).1), fun h1 _ => ?_⟩ (fun j v _ hne hv => ?_)
  · obtain ⟨b, g1, g2, g3⟩ := hu.2 h1
    exact ⟨b, (hP b g1).2, g2, g3.keep (hP b g1).1⟩
  · have := hv.up hP
    exact ⟨fun s hs hj => this.1 s hs (by omega), fun h1 h2 => this.2 h1 (by omega)⟩
theorem it_again {n : Nat} {X S : Nat → Prop} {w : World} {g N k : Nat} {T : TypeId} {its : Its n} (h : HasC w g T N (ItQ w (Fz X S w) its k)) (hX : X g) (u : Value) : HasC (w.setCell ⟨g, k, none⟩ u) g T N (ItQ (w.setCell ⟨g, k, none⟩ u) (Fz X S (w.setCell ⟨g, k, none⟩ u)) its k) := by
  have hP := Pr.set (X := X) (S := S) w (p := ⟨g, k, none⟩) hX u
  exact h.set k u ⟨(fun s _ h => by omega), fun _ h => by omega⟩ (fun j v _ _ hv => hv.up hP)
theorem it_nx {n : Nat} {X S S' : Nat → Prop} {w w' : World} {g N k : Nat} {T : TypeId} {its : Its n} (h : HasC w g T N (ItQ w (Fz X S w) its k)) (hg : ¬ S g) (p : Nx S w S' w') : HasC w' g T N (ItQ w' (Fz X S' w') its k) := h.keep (p.1.block h.lt hg) (fun _ _ _ hv => hv.up p.pr)
/-- How 'lent' ends. -/
def LentEnd {n : Nat} (w : World) (B : Nat) (l : List (El (n + 1))) (es is : List (Nat × Nat)) (S : Nat → Prop) (e : Ending) (w' : World) : Prop := ∃ g es' is' S', e = .returned (.slice (some ⟨g, 0, none⟩) l.length (l.length + 8)) ∧
  w.heap.size ≤ g ∧ Ln w' B (es ++ (es' ++ [(g, l.length)])) (is ++ is') S' ∧ Nx S w S' w' ∧ ¬ S' g ∧ HasC w' g 37 (4 * (l.length + 8)) (OutQ w' (Fz (fun j => j < w.heap.size ∨ j = g) S' w') l l.length (l.length + 8)) ∧
  Rms (fun j => j < w.heap.size ∨ j = g) S' w' es' is' ∧ (∀ p ∈ es' ++ is', p.2 ≤ blk (n + 1) l) ∧ es'.length + is'.length + 1 ≤ blk (n + 1) l
/-- All of it lies still from here on. -/
theorem lent_rms {n : Nat} {X S : Nat → Prop} {w : World} {g : Nat} {l : List (El (n + 1))} {es is : List (Nat × Nat)} {F : Nat → Prop} (h : Rms (fun j => X j ∨ j = g) S w es is) (hX : ¬ X g) (hS : ¬ S g) (hO : HasC w g 37 (4 * (l.length + 8)) (OutQ w F l l.length (l.length + 8))) :
    Rms X S w (es ++ [(g, l.length)]) is := by
  have := (h.turn (X' := X) (fun j hj e => hj.1 (Or.inl e))).add (es' := [(g, l.length)]) (is' := []) ⟨fun p hp => ?_, fun _ h => (nomatch h)⟩
  · rwa [List.append_nil] at this
  · obtain rfl : p = (g, l.length) := by simpa using hp
    exact ⟨⟨hX, hS, hO.lt⟩, out_rm hO⟩
theorem ln_kept {w w1 w2 : World} {B f : Nat} {T e : TypeId} {rows : Rws} {ext : List Value} {v : Value} {X : List Value} (h : RowsOf w B T rows ext) (hf : rows[f]? = some (e, v, X)) (h1 : Below w.heap.size w w1) (hg : w1.grownBy w2 v.ownBlock) : w2.heap[B]? = w.heap[B]? := by
  have hB : B < w.heap.size := lt_of_block h.1
  rw [hg.block B (Nat.lt_of_lt_of_le hB h1.size) (fun e => (h.2.1 _ (List.mem_of_getElem? hf)).2 e.symm), h1.block B hB]
/-- One thing more in the row of that place of a loan. -/
def put4 (f : Nat) (x : Value) (L : List Value × List Value × List Value × List Value) : List Value × List Value × List Value × List Value :=
  match f with
  | 0 => (L.1 ++ [x], L.2)
  | 1 => (L.1, L.2.1 ++ [x], L.2.2)
  | 2 => (L.1, L.2.1, L.2.2.1 ++ [x], L.2.2.2)
  | _ => (L.1, L.2.1, L.2.2.1, L.2.2.2 ++ [x])
def Lq (w : World) (B : Nat) (L : List Value × List Value × List Value × List Value) (S : Nat → Prop) : Prop := Ln4 w B L.1 L.2.1 L.2.2.1 L.2.2.2 S
theorem Ln.unpack {w : World} {B : Nat} {es is : List (Nat × Nat)} {S : Nat → Prop} (h : Ln w B es is S) : ∃ v0 v1 v2 v3 E N I C, Hid (E = es.map eV ∧ N = es.map nV ∧ I = is.map eV ∧ C = is.map nV) ∧ RowsOf w B 29 (lnR v0 v1 v2 v3 E N I C) ∧ S = InR B (lnR v0 v1 v2 v3 E N I C) := by
  obtain ⟨v0, v1, v2, v3, h, e⟩ := h
  exact ⟨v0, v1, v2, v3, _, _, _, _, ⟨rfl, rfl, rfl, rfl⟩, h, e⟩
theorem lq_push {w w1 w2 : World} {B f : Nat} {e : TypeId} {v v' x : Value} {X : List Value} {v0 v1 v2 v3 : Value} {E N I C : List Value} (hf : f < 4) (h : RowsOf w B 29 (lnR v0 v1 v2 v3 E N I C)) (hr : (lnR v0 v1 v2 v3 E N I C)[f]? = some (e, v, X)) (h1 : Below w.heap.size w w1)
    (hown : w2.ownsRow 0 e 1 v' (X.length + 1) (X ++ [x])) (hg : w1.grownBy w2 v.ownBlock) (hm : Moved w1 v v') :
    ∃ S', Lq (w2.setCell ⟨B, f, none⟩ v') B (put4 f x (E, N, I, C)) S' ∧ Nx (InR B (lnR v0 v1 v2 v3 E N I C)) w S' (w2.setCell ⟨B, f, none⟩ v') := by
  obtain ⟨a, b⟩ := ln_push h hr h1 hown hg hm
  refine ⟨_, ?_, b⟩
  have hf' : f = 0 ∨ f = 1 ∨ f = 2 ∨ f = 3 := by omega
  rcases hf' with rfl | rfl | rfl | rfl <;> (simp only [lnR, List.getElem?_cons_zero, List.getElem?_cons_succ, Option.some.injEq, Prod.mk.injEq] at hr; obtain ⟨rfl, rfl, rfl⟩ := hr; exact ⟨_, _, _, _, a, rfl⟩)
end Go.Proofs.YtaokifbpakbgdaaDoor

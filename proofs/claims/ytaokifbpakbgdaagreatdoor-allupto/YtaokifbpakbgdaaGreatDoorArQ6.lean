/-
  Package archive: checkElements.
-/
import Derived.Test.YtaokifbpakbgdaaGreatDoorPut10
namespace Go.Proofs.YtaokifbpakbgdaaGreatDoor
open Go.RowKit

theorem kindT_sq (t : Int) : kindT t = SQ ↔ t = 533016 := by
  constructor
  · intro h
    unfold kindT at h
    repeat' (split at h; (first | (exact absurd h (by decide)) | assumption))
    all_goals first | assumption | exact absurd h (by decide)
  · rintro rfl; decide
/-- What checkElements answers. -/
def celE {n : Nat} (l : List (El (n + 2))) : Int := if l.any bad1 = true then 2 else if l.any bad2 = true then 6 else 0
theorem any_flat {α β : Type} (f : α → List β) (p : β → Bool) : ∀ l : List α, ((l.map f).flatten).any p = l.any (fun x => (f x).any p)
  | [] => rfl
  | x :: l => by rw [List.map_cons, List.flatten_cons, List.any_append, List.any_cons, any_flat f p l]
theorem any_words {n : Nat} (p : Dm → Bool) (s : List (El (n + 1))) : ((wordsL s).map dmY).any p = s.any (fun y => isWord y.1 && p (dmY y)) := by
  unfold wordsL
  induction s with
  | nil => rfl
  | cons y s ih =>
    rw [List.any_cons]
    by_cases h : isWord y.1 = true
    · rw [List.filter_cons_of_pos (p := fun x : El (n + 1) => isWord x.1) h, List.map_cons, List.any_cons, ih, h, Bool.true_and]
    · rw [List.filter_cons_of_neg (p := fun x : El (n + 1) => isWord x.1) h, ih, show isWord y.1 = false by simpa using h, Bool.false_and, Bool.false_or]
theorem any_congr' {α : Type} {p q : α → Bool} : ∀ {l : List α}, (∀ x ∈ l, p x = q x) → l.any p = l.any q
  | [], _ => rfl
  | x :: l, h => by rw [List.any_cons, List.any_cons, h x List.mem_cons_self, any_congr' (fun y hy => h y (List.mem_cons_of_mem _ hy))]
theorem dmI_kind {n : Nat} (its : Its (n + 1)) : (dmI its).any kindBad = badI false its := by
  unfold dmI badI
  rw [any_flat]
  refine any_congr' (fun s _ => ?_)
  rw [any_words]
  refine any_congr' (fun y _ => ?_)
  unfold badY kindBad dmY
  by_cases h : y.2.1 = LO <;> simp [h]
theorem dmI_val {n : Nat} (its : Its (n + 1)) (h : badI false its = false) : (dmI its).any valBad = badI true its := by
  unfold dmI badI at *
  rw [any_flat]
  rw [List.any_eq_false] at h
  refine any_congr' (fun s hs => ?_)
  have h1 := h s hs
  rw [Bool.not_eq_true, List.any_eq_false] at h1
  rw [any_words]
  refine any_congr' (fun y hy => ?_)
  have h2 := h1 y hy
  unfold badY at h2 ⊢
  unfold valBad dmY
  by_cases hw : isWord y.1 = true
  · rw [hw] at h2 ⊢
    have h3 : y.2.1 = LO := by
      by_cases e : y.2.1 = LO
      · exact e
      · simp [e] at h2
    simp [h3]
  · rw [show isWord y.1 = false by simpa using hw]; rfl
theorem dmE_kind {n : Nat} (x : El (n + 2)) (h : x.2.1 ≠ SQ → x.2.2.2 = []) : (dmE x).any kindBad = bad1 x := by
  unfold dmE bad1
  rw [List.any_append]
  by_cases hk : kindT x.1 = []
  · have ht : x.1 ≠ 533016 := fun e => by rw [e] at hk; exact absurd hk (by decide)
    rw [if_pos hk, if_neg ht, decide_eq_false (fun h => h hk)]; rfl
  · rw [if_neg hk, decide_eq_true hk, Bool.true_and]
    have h1 : ([(x.2.1, x.2.2.1, kindT x.1)] : List Dm).any kindBad = decide (x.2.1 ≠ kindT x.1) := by
      simp only [List.any_cons, List.any_nil, Bool.or_false, kindBad]
      by_cases e : x.2.1 = kindT x.1
      · rw [e]; simp
      · rw [decide_eq_true e]; simpa using e
    rw [h1]
    by_cases ht : x.1 = 533016
    · rw [if_pos ht, dmI_kind]
    · rw [if_neg ht, List.any_nil]
      by_cases e : x.2.1 = kindT x.1
      · have hn : x.2.1 ≠ SQ := fun e2 => ht ((kindT_sq _).1 (e ▸ e2))
        rw [h hn]; rfl
      · rw [decide_eq_true e, Bool.true_or, Bool.true_or]
theorem dmE_val {n : Nat} (x : El (n + 2)) (hb : bad1 x = false) : (dmE x).any valBad = bad2 x := by
  unfold dmE bad2
  unfold bad1 at hb
  rw [List.any_append]
  by_cases hk : kindT x.1 = []
  · have ht : x.1 ≠ 533016 := fun e => by rw [e] at hk; exact absurd hk (by decide)
    rw [if_pos hk, if_neg ht, decide_eq_false (fun h => h hk)]; rfl
  · rw [decide_eq_true hk, Bool.true_and, Bool.or_eq_false_iff] at hb
    rw [if_neg hk, decide_eq_true hk, Bool.true_and]
    by_cases ht : x.1 = 533016
    · have hq : kindT x.1 = SQ := (kindT_sq _).2 ht
      rw [if_pos ht, if_pos hq, dmI_val _ hb.2, hq]
      simp [valBad]
    · have hq : ¬ kindT x.1 = SQ := fun e => ht ((kindT_sq _).1 e)
      rw [if_neg ht, if_neg hq]
      simp only [List.any_cons, List.any_nil, Bool.or_false, valBad]
      have : (kindT x.1 == SQ) = false := by simpa using hq
      rw [this]; rfl
theorem dms_kind {n : Nat} {l : List (El (n + 2))} (h : ∀ x ∈ l, x.2.1 ≠ SQ → x.2.2.2 = []) : (dms l).any kindBad = l.any bad1 := by
  unfold dms
  rw [any_flat]
  exact any_congr' (fun x hx => dmE_kind x (h x hx))
theorem dms_val {n : Nat} {l : List (El (n + 2))} (h : l.any bad1 = false) : (dms l).any valBad = l.any bad2 := by
  unfold dms
  rw [any_flat]
  rw [List.any_eq_false] at h
  exact any_congr' (fun x hx => dmE_val x (by simpa using h x hx))
theorem dms_short {n : Nat} {l : List (El (n + 2))} (h : Sane l) : ∀ d ∈ dms l, d.2.1.length ≤ 64 := by
  intro d hd
  unfold dms at hd
  obtain ⟨m, hm, hd⟩ := List.mem_flatten.1 hd
  obtain ⟨x, hx, rfl⟩ := List.mem_map.1 hm
  obtain ⟨p1, _, p3⟩ := h.2 x hx
  unfold dmE at hd
  rcases List.mem_append.1 hd with hd | hd
  · split at hd
    · cases hd
    · rw [List.mem_singleton] at hd; rw [hd]; exact p1
  · split at hd
    · unfold dmI at hd
      obtain ⟨m, hm, hd⟩ := List.mem_flatten.1 hd
      obtain ⟨s, hs, rfl⟩ := List.mem_map.1 hm
      obtain ⟨y, hy, rfl⟩ := List.mem_map.1 hd
      exact (p3 s hs).2 y (List.mem_filter.1 hy).1
    · cases hd
set_option maxRecDepth 20000 in
theorem checkElements_any (n : Nat) (F : Nat → Prop) (w : World) (v : Value) (l : List (El (n + 2))) (h : Rd w F (n + 2) v l) (hF : ∀ j, F j → j < w.heap.size) (hS : Sane l) (hq : ∀ x ∈ l, x.2.1 ≠ SQ → x.2.2.2 = []) (hV : Vars w) :
    Calls Tryz.prog 94 #[v] w fun e w' => e = .returned (.int .i64 (celE l)) ∧ Below w.heap.size w w' := by
  have hx : ∀ x ∈ l, x.2.2.2.length ≤ 8 ∧ ∀ s ∈ x.2.2.2, s.length ≤ 24 := fun x hx => ⟨(hS.2 x hx).2.1, fun s hs => ((hS.2 x hx).2.2 s hs).1⟩
  have hlen := dms_len l hx
  have hl := hS.1
  have c1 := hid (demands_any n F w v l h hF hS.1 hx)
  have e1 := hid (dms_kind hq)
  have e2 := hid (fun h => dms_val (l := l) h)
  have e3 := hid (dms_short hS)
  have HV := hid hV
  clear h hF hS hq hx hV
  go_enter Tryz.func94, Tryz.ntmps94
  go_wp2_with fail
  go_at_call 151
  refine c1.out.mono ?_
  rintro e w1 ⟨v1, xs, rfl, u1, o1, l1⟩
  have U1 := hid u1
  have O1 := hid o1
  have L1 := hid l1
  clear u1 o1 l1 c1
  generalize dms l = D at hlen O1 L1 e1 e2 e3
  go_wp2_with fail
  go_at_call 152
  refine (containsK_any w1 _ v1 D xs O1.out L1.out (by omega)).mono ?_
  rintro e w2 ⟨rfl, u2⟩
  have U2 := hid (U1.out.trans (u2.mono U1.out.size))
  have O2 := hid (ownsRow_keep O1.out (w' := w2) (fun j hj => u2.block j (ownsRow_lt O1.out j hj)))
  clear u2
  rw [e1.out]
  by_cases hb : l.any bad1 = true
  · have hF := hid (show celE l = 2 by rw [celE, if_pos hb])
    rw [hb]
    clear hb
    go_wp2
    go_ret
    exact ⟨ret_int hF.out.symm, U2.out⟩
  · have hb2 : l.any bad1 = false := by simpa using hb
    have e4 := hid (e2.out hb2)
    have hF := hid (show celE l = if l.any bad2 = true then 6 else 0 by rw [celE, if_neg hb])
    rw [hb2]
    clear hb hb2 e2
    go_wp2_with fail
    go_at_call 152
    refine (containsV_any w2 _ v1 D xs O2.out L1.out (by omega) e3.out (HV.out.up U2.out)).mono ?_
    rintro e w3 ⟨rfl, u3⟩
    have U3 := hid (U2.out.trans (u3.mono U2.out.size))
    clear u3
    rw [e4.out]
    cases hc : l.any bad2
    · have hF2 := hid (hF.out.trans (if_neg (by rw [hc]; decide)))
      clear hF hc
      go_wp2
      go_ret
      exact ⟨ret_int hF2.out.symm, U3.out⟩
    · have hF2 := hid (hF.out.trans (if_pos hc))
      clear hF hc
      go_wp2
      go_ret
      exact ⟨ret_int hF2.out.symm, U3.out⟩
end Go.Proofs.YtaokifbpakbgdaaGreatDoor

/-
  A data set comes back out of its bytes, by lengths or by marks, however many pads (no program).
-/
import Derived.Test.YtaokifbpakbgdaaGreatDoorTree
namespace Go.Proofs.YtaokifbpakbgdaaGreatDoor

theorem tk_app (a r : By) (k : Nat) (h : k = a.length) : tk k (a ++ r) = some (a, r) := by
  subst h
  simp [tk]
theorem nu_lows (k n : Nat) (r : By) (h : n < 256 ^ k) : nu k (lows k n ++ r) = some (n, r) := by
  rw [nu, tk_app _ _ _ (lows_length k n).symm]
  simp only []
  rw [le_lows, Nat.mod_eq_of_lt h]
theorem tg_wrT (t : Int) (r : By) (h0 : 0 ≤ t) (h1 : t ≤ 4294967295) : tg (wrT t ++ r) = some (t.toNat, r) := by
  rw [wrT, List.append_assoc, tg, nu_lows _ _ _ (by have : (256 : Nat) ^ 2 = 65536 := rfl; omega)]
  simp only []
  rw [nu_lows _ _ _ (by have : (256 : Nat) ^ 2 = 65536 := rfl; omega)]
  simp only []
  congr 2
  omega
theorem ze_zero (k : Nat) (a r : By) (hl : k = a.length) (h : le a = 0) : ze k (a ++ r) = some r := by
  rw [ze, nu, tk_app _ _ _ hl]
  simp [h]
theorem trim_rep (p : UInt8) (v : By) (h : v.getLast? ≠ some p) (j : Nat) : trimB p (v ++ List.replicate j p) = v := by
  unfold trimB
  rw [List.reverse_append, List.reverse_replicate]
  have e : ∀ (j : Nat) (u : By), (List.replicate j p ++ u).dropWhile (· == p) = u.dropWhile (· == p) := by
    intro j u
    induction j with
    | zero => rfl
    | succ j ih => rw [List.replicate_succ, List.cons_append, List.dropWhile_cons_of_pos (by simp), ih]
  rw [e]
  cases hv : v.reverse with
  | nil => simp at hv; subst hv; rfl
  | cons c u =>
    have hc : c ≠ p := by
      intro hcp
      subst hcp
      apply h
      rw [List.getLast?_eq_head?_reverse, hv]; rfl
    rw [List.dropWhile_cons_of_neg (by simpa using hc), ← hv, List.reverse_reverse]
theorem wrV_eq (p : Nat) (k v : By) : wrV p k v = v ++ List.replicate (v.length % 2 + 2 * p) (padB k) := by
  unfold wrV
  rcases Nat.mod_two_eq_zero_or_one v.length with h | h
  · rw [if_neg (by omega), h, Nat.zero_add]
  · rw [if_pos h, h, List.append_assoc, Nat.add_comm 1, List.replicate_succ]; rfl
theorem va_wr (p : Nat) (k v r : By) (h : v.getLast? ≠ some (padB k)) (hl : v.length ≤ 64) (hp : p ≤ 30000) : va k (lows 2 (wrV p k v).length ++ wrV p k v ++ r) = some (v, r) := by
  have hlen : (wrV p k v).length = v.length + (v.length % 2 + 2 * p) := by rw [wrV_eq]; simp
  rw [va, List.append_assoc, nu_lows _ _ _ (by have : (256 : Nat) ^ 2 = 65536 := rfl; omega)]
  simp only []
  rw [if_pos (by omega), tk_app _ _ _ rfl]
  simp only []
  rw [wrV_eq, trim_rep _ _ h]

/-- Its bytes are read as it. -/
def Rt {α : Type} (f : Nat → By → Option (α × By)) (e : α → By) (x : α) : Prop := ∀ r, ∃ t r', tg (e x ++ r) = some (t, r') ∧ t ≠ 4294893581 ∧ t ≠ 4294893789 ∧ f t r' = some (x, r)
theorem Rt.ne {α : Type} {f : Nat → By → Option (α × By)} {e : α → By} {x : α} (h : Rt f e x) : e x ≠ [] := by
  intro hn
  obtain ⟨t, r', h1, _⟩ := h []
  rw [hn] at h1
  cases h1
theorem toEnd_nil {α : Type} (f : Nat → By → Option (α × By)) (k : Nat) : toEnd f k [] = some [] := by cases k <;> rfl
theorem flat_le {α : Type} {f : Nat → By → Option (α × By)} {e : α → By} : ∀ (l : List α), (∀ x ∈ l, Rt f e x) → l.length ≤ ((l.map e).flatten).length
  | [], _ => by simp
  | x :: l, h => by
    have h1 := flat_le l (fun y hy => h y (List.mem_cons_of_mem _ hy))
    have h2 := List.length_pos_iff.2 (h x List.mem_cons_self).ne
    simp only [List.map_cons, List.flatten_cons, List.length_append, List.length_cons]
    omega
theorem toEnd_app {α : Type} {f : Nat → By → Option (α × By)} {e : α → By} (r : By) : ∀ (l : List α), (∀ x ∈ l, Rt f e x) → ∀ K, l.length ≤ K → toEnd f K ((l.map e).flatten ++ r) = (toEnd f (K - l.length) r).map (l ++ ·)
  | [], _, K, _ => by simp
  | x :: l, h, K, hK => by
    cases K with
    | zero => simp at hK
    | succ K =>
      simp only [List.length_cons] at hK
      obtain ⟨t, r', h1, _, _, h2⟩ := h x List.mem_cons_self ((l.map e).flatten ++ r)
      simp only [List.map_cons, List.flatten_cons, List.append_assoc]
      rw [toEnd, if_neg (by have := (h x List.mem_cons_self).ne; simp [this]), h1]
      simp only [h2]
      rw [toEnd_app r l (fun y hy => h y (List.mem_cons_of_mem _ hy)) K (by omega), List.length_cons, show K + 1 - (l.length + 1) = K - l.length by omega]
      cases toEnd f (K - l.length) r <;> rfl
theorem toMark_app {α : Type} {f : Nat → By → Option (α × By)} {e : α → By} (m : Nat) (hm : m = 4294893581 ∨ m = 4294893789) (a r r' : By) (h1 : tg (a ++ r) = some (m, r')) (h2 : ze 4 r' = some r) :
    ∀ (l : List α), (∀ x ∈ l, Rt f e x) → ∀ K, l.length < K → toMark m f K ((l.map e).flatten ++ (a ++ r)) = some (l, r)
  | [], _, K, hK => by
    cases K with
    | zero => simp at hK
    | succ K => simp only [List.map_nil, List.flatten_nil, List.nil_append, toMark, h1, h2, if_pos]
  | x :: l, h, K, hK => by
    cases K with
    | zero => simp at hK
    | succ K =>
      simp only [List.length_cons] at hK
      obtain ⟨t, r'', g1, g2, g3, g4⟩ := h x List.mem_cons_self ((l.map e).flatten ++ (a ++ r))
      simp only [List.map_cons, List.flatten_cons]
      rw [List.append_assoc (e x), toMark, g1]
      simp only []
      rw [if_neg (by rcases hm with rfl | rfl <;> assumption), g4]
      simp only []
      rw [toMark_app m hm a r r' h1 h2 l (fun y hy => h y (List.mem_cons_of_mem _ hy)) K (by omega)]
/-- Things behind their length, or up to a mark. -/
theorem lg_wr {α : Type} {f : Nat → By → Option (α × By)} {e : α → By} (o : Bool) (m : Nat) (hm : m = 4294893581 ∨ m = 4294893789) (a r : By) (h1 : tg (a ++ r) = some (m, [0, 0, 0, 0] ++ r)) (ha : 0 < a.length)
    (l : List α) (h : ∀ x ∈ l, Rt f e x) (hs : o = false → ((l.map e).flatten).length < 4294967295) :
    lg m f (sizeB o (l.map e).flatten ++ (l.map e).flatten ++ (if o then a else []) ++ r) = some (l, r) := by
  cases o with
  | true =>
    have e0 : sizeB true (l.map e).flatten = lows 4 4294967295 := rfl
    rw [e0, List.append_assoc, List.append_assoc, lg, nu_lows _ _ _ (by decide)]
    simp only [if_pos]
    refine toMark_app m hm a r _ h1 (ze_zero 4 [0, 0, 0, 0] r rfl rfl) l h _ ?_
    have := flat_le l h
    simp only [List.length_append]
    omega
  | false =>
    have hb := hs rfl
    have e0 : sizeB false (l.map e).flatten = lows 4 (l.map e).flatten.length := rfl
    have e1 : (if (false : Bool) = true then a else []) = ([] : By) := rfl
    rw [e0, e1, List.append_nil, List.append_assoc, lg, nu_lows _ _ _ (by have : (256 : Nat) ^ 4 = 4294967296 := rfl; omega)]
    simp only []
    rw [if_neg (by omega), tk_app _ _ _ rfl]
    simp only []
    have := toEnd_app (f := f) (e := e) [] l h (l.map e).flatten.length (flat_le l h)
    rw [List.append_nil] at this
    rw [this, toEnd_nil]
    simp

theorem tg4 (a b c d : UInt8) (r : By) : tg (a :: b :: c :: d :: r) = some (65536 * (a.toNat + 256 * b.toNat) + (c.toNat + 256 * d.toNat), r) := by
  simp [tg, nu, tk, le]
theorem tg_item (r : By) : tg ([254, 255, 0, 224] ++ r) = some (4294893568, r) := by
  rw [show ([254, 255, 0, 224] ++ r : By) = 254 :: 255 :: 0 :: 224 :: r from rfl, tg4, show 65536 * ((254 : UInt8).toNat + 256 * (255 : UInt8).toNat) + ((0 : UInt8).toNat + 256 * (224 : UInt8).toNat) = 4294893568 by decide +kernel]
theorem tg_itemEnd (r : By) : tg ([254, 255, 13, 224, 0, 0, 0, 0] ++ r) = some (4294893581, [0, 0, 0, 0] ++ r) := by
  rw [show ([254, 255, 13, 224, 0, 0, 0, 0] ++ r : By) = 254 :: 255 :: 13 :: 224 :: ([0, 0, 0, 0] ++ r) from rfl, tg4, show 65536 * ((254 : UInt8).toNat + 256 * (255 : UInt8).toNat) + ((13 : UInt8).toNat + 256 * (224 : UInt8).toNat) = 4294893581 by decide +kernel]
theorem tg_itemsEnd (r : By) : tg ([254, 255, 221, 224, 0, 0, 0, 0] ++ r) = some (4294893789, [0, 0, 0, 0] ++ r) := by
  rw [show ([254, 255, 221, 224, 0, 0, 0, 0] ++ r : By) = 254 :: 255 :: 221 :: 224 :: ([0, 0, 0, 0] ++ r) from rfl, tg4, show 65536 * ((254 : UInt8).toNat + 256 * (255 : UInt8).toNat) + ((221 : UInt8).toNat + 256 * (224 : UInt8).toNat) = 4294893789 by decide +kernel]

/- What is right. -/
theorem errI_mem {α : Type} {f : List α → Int} : ∀ {l : List (List α)}, errI f l = 0 → ∀ s ∈ l, f s = 0
  | [], _, s, hs => by cases hs
  | t :: l, h, s, hs => by
    rw [errI] at h
    by_cases ht : f t = 0
    · rw [if_pos ht] at h
      rcases List.mem_cons.1 hs with rfl | hs
      · exact ht
      · exact errI_mem h s hs
    · rw [if_neg ht] at h; exact absurd h ht
theorem errL_mem {α : Type} {e : Int → α → Int} {t : α → Int} : ∀ {l : List α} {b : Int}, errL e t b l = 0 → ∀ x ∈ l, ∃ b, e b x = 0
  | [], _, _, x, hx => by cases hx
  | y :: l, b, h, x, hx => by
    rw [errL] at h
    by_cases hy : e b y = 0
    · rw [if_pos hy] at h
      rcases List.mem_cons.1 hx with rfl | hx
      · exact ⟨b, hy⟩
      · exact errL_mem h x hx
    · rw [if_neg hy] at h; exact absurd h hy
/-- What an element is that is right. -/
theorem errE_ok {n : Nat} {g : Its n → Int} {d : Nat} {b : Int} {x : El (n + 1)} (h : errE g d b x = 0) :
    isK x.2.1 = true ∧ 0 ≤ x.1 ∧ x.1 ≤ 4294967295 ∧ x.1 / 65536 ≠ 65534 ∧ b < x.1 ∧ x.2.2.1.length ≤ 64 ∧ x.2.2.1.getLast? ≠ some (padB x.2.1) ∧ (x.2.1 = SQ → x.2.2.1 = []) ∧ (x.2.1 ≠ SQ → x.2.2.2 = []) ∧ x.2.2.2.length ≤ 8 ∧
      (x.2.1 = SQ → d < 2) ∧ g x.2.2.2 = 0 := by
  unfold errE at h
  by_cases h1 : isK x.2.1 = false
  · rw [if_pos h1] at h; cases h
  rw [if_neg h1] at h
  by_cases h2 : x.1 < 0 ∨ 4294967295 < x.1 ∨ x.1 / 65536 = 65534 ∨ x.1 ≤ b
  · rw [if_pos h2] at h; cases h
  rw [if_neg h2] at h
  by_cases h3 : 64 < x.2.2.1.length ∨ x.2.2.1.getLast? = some (padB x.2.1)
  · rw [if_pos h3] at h; cases h
  rw [if_neg h3] at h
  by_cases h4 : (x.2.1 = SQ ∧ x.2.2.1 ≠ []) ∨ (x.2.1 ≠ SQ ∧ x.2.2.2 ≠ [])
  · rw [if_pos h4] at h; cases h
  rw [if_neg h4] at h
  by_cases h5 : 8 < x.2.2.2.length
  · rw [if_pos h5] at h; cases h
  rw [if_neg h5] at h
  by_cases h6 : x.2.1 = SQ ∧ 2 ≤ d
  · rw [if_pos h6] at h; cases h
  rw [if_neg h6] at h
  refine ⟨by simpa using h1, by omega, by omega, by omega, by omega, by omega, fun hh => h3 (Or.inr hh), fun hq => ?_, fun hq => ?_, by omega, fun hq => ?_, h⟩
  · by_cases hv : x.2.2.1 = []
    · exact hv
    · exact absurd (Or.inl ⟨hq, hv⟩) h4
  · by_cases hv : x.2.2.2 = []
    · exact hv
    · exact absurd (Or.inr ⟨hq, hv⟩) h4
  · by_cases hd : 2 ≤ d
    · exact absurd ⟨hq, hd⟩ h6
    · omega
theorem isK_length {k : By} (h : isK k = true) : k.length = 2 := by
  unfold isK kinds at h
  rw [List.contains_iff_mem] at h
  simp only [List.mem_cons, List.not_mem_nil, or_false] at h
  rcases h with rfl | rfl | rfl | rfl | rfl | rfl | rfl | rfl <;> rfl
theorem mem_flat_le {α : Type} {e : α → By} : ∀ {l : List α} {x : α}, x ∈ l → (e x).length ≤ ((l.map e).flatten).length
  | y :: l, x, h => by
    simp only [List.map_cons, List.flatten_cons, List.length_append]
    rcases List.mem_cons.1 h with rfl | h
    · omega
    · have := mem_flat_le (e := e) h; omega

theorem wrS_succ (o : Bool) (p n : Nat) (l : List (El (n + 1))) : wrS o p (n + 1) l = (l.map (wrE (wrS o p n) o p)).flatten := rfl
/-- AN ELEMENT THAT IS RIGHT COMES BACK. -/
theorem rt_el (o : Bool) (p : Nat) (hp : p ≤ 30000) : ∀ (n d : Nat), 2 ≤ d + n → ∀ (b : Int) (x : El (n + 1)), errE (errI (errS n (d + 1))) d b x = 0 → (o = false → (wrE (wrS o p n) o p x).length < 4294967295) →
    ∀ m, n ≤ m → Rt (elP (m + 1) (n + 1)) (wrE (wrS o p n) o p) x := by
  intro n
  induction n with
  | zero =>
    intro d hd b x hx hs m hm r
    obtain ⟨h1, h2, h3, h4, h5, h6, h7, h8, h9, h10, h11, h12⟩ := errE_ok hx
    have hq : x.2.1 ≠ SQ := fun hq => by have := h11 hq; omega
    refine ⟨x.1.toNat, x.2.1 ++ (lows 2 (wrV p x.2.1 x.2.2.1).length ++ wrV p x.2.1 x.2.2.1) ++ r, ?_, by omega, by omega, ?_⟩
    · rw [wrE, if_neg hq, List.append_assoc (wrT _), List.append_assoc (wrT _)]
      exact tg_wrT _ _ h2 h3
    · rw [elP, if_neg (by omega), List.append_assoc, tk_app _ _ _ (isK_length h1).symm]
      simp only []
      rw [if_neg hq, va_wr p _ _ _ h7 h6 hp]
      simp only []
      obtain ⟨t, k, v, its⟩ := x
      have e1 : its = [] := h9 hq
      subst e1
      have e2 : ((t.toNat : Nat) : Int) = t := by simp only at h2; omega
      simp only [mkE, e2]
  | succ n ih =>
    intro d hd b x hx hs m hm r
    obtain ⟨h1, h2, h3, h4, h5, h6, h7, h8, h9, h10, h11, h12⟩ := errE_ok hx
    by_cases hq : x.2.1 = SQ
    · have hd2 := h11 hq
      have hv := h8 hq
      have hsets := errI_mem h12
      have hlen : o = false → ((x.2.2.2.map (wrI (wrS o p (n + 1)) o)).flatten).length < 4294967295 := fun ho => by
        have := hs ho
        rw [wrE, if_pos hq, wrQ] at this
        simp only [List.length_append] at this
        omega
      have hits : ∀ s ∈ x.2.2.2, Rt (itP (elP m (n + 1))) (wrI (wrS o p (n + 1)) o) s := by
        intro s hs' r1
        have hs1 := hsets s hs'
        rw [errS] at hs1
        by_cases h24 : 24 < s.length
        · rw [if_pos h24] at hs1; cases hs1
        rw [if_neg h24] at hs1
        have hbd : o = false → (wrS o p (n + 1) s).length < 4294967295 := fun ho => by
          have h1 := hlen ho
          have h2 := mem_flat_le (e := wrI (wrS o p (n + 1)) o) hs'
          rw [wrI] at h2
          simp only [List.length_append] at h2
          omega
        have hel : ∀ y ∈ s, Rt (elP m (n + 1)) (wrE (wrS o p n) o p) y := by
          intro y hy
          obtain ⟨b', hb'⟩ := errL_mem hs1 y hy
          obtain ⟨m, rfl⟩ : ∃ k, m = k + 1 := ⟨m - 1, by omega⟩
          refine ih (d + 1) (by omega) b' y hb' (fun ho => ?_) m (by omega)
          have h1 := hbd ho
          have h2 := mem_flat_le (e := wrE (wrS o p n) o p) hy
          rw [wrS_succ] at h1
          omega
        have key := lg_wr (f := elP m (n + 1)) (e := wrE (wrS o p n) o p) o 4294893581 (Or.inl rfl) [254, 255, 13, 224, 0, 0, 0, 0] r1 (tg_itemEnd r1) (by simp) s hel (fun ho => by have := hbd ho; rwa [wrS_succ] at this)
        refine ⟨4294893568, sizeB o (wrS o p (n + 1) s) ++ wrS o p (n + 1) s ++ (if o then [254, 255, 13, 224, 0, 0, 0, 0] else []) ++ r1, ?_, by omega, by omega, ?_⟩
        · rw [wrI, List.append_assoc, List.append_assoc, List.append_assoc, tg_item]
          simp only [List.append_assoc]
        · rw [itP, if_pos rfl, wrS_succ]
          exact key
      have key := lg_wr (f := itP (elP m (n + 1))) (e := wrI (wrS o p (n + 1)) o) o 4294893789 (Or.inr rfl) [254, 255, 221, 224, 0, 0, 0, 0] r (tg_itemsEnd r) (by simp) x.2.2.2 hits hlen
      refine ⟨x.1.toNat, x.2.1 ++ wrQ o (x.2.2.2.map (wrI (wrS o p (n + 1)) o)).flatten ++ r, ?_, by omega, by omega, ?_⟩
      · rw [wrE, if_pos hq, List.append_assoc (wrT _), List.append_assoc (wrT _)]
        exact tg_wrT _ _ h2 h3
      · rw [elP, if_neg (by omega), List.append_assoc, tk_app _ _ _ (isK_length h1).symm]
        simp only []
        rw [if_pos hq, wrQ]
        simp only [List.append_assoc]
        rw [ze_zero 2 [0, 0] _ rfl rfl]
        simp only [List.append_assoc] at key ⊢
        have key' : lg 4294893789 (itP (elP m (n + 1 + 1 - 1))) _ = some (x.2.2.2, r) := key
        rw [key']
        simp only []
        obtain ⟨t, k, v, its⟩ := x
        simp only at hv h2 hq
        have e2 : ((t.toNat : Nat) : Int) = t := by omega
        simp only [mkE, e2, hv]
    · refine ⟨x.1.toNat, x.2.1 ++ (lows 2 (wrV p x.2.1 x.2.2.1).length ++ wrV p x.2.1 x.2.2.1) ++ r, ?_, by omega, by omega, ?_⟩
      · rw [wrE, if_neg hq, List.append_assoc (wrT _), List.append_assoc (wrT _)]
        exact tg_wrT _ _ h2 h3
      · rw [elP, if_neg (by omega), List.append_assoc, tk_app _ _ _ (isK_length h1).symm]
        simp only []
        rw [if_neg hq, va_wr p _ _ _ h7 h6 hp]
        simp only []
        obtain ⟨t, k, v, its⟩ := x
        have e1 : its = [] := h9 hq
        subst e1
        have e2 : ((t.toNat : Nat) : Int) = t := by simp only at h2; omega
        simp only [mkE, e2]
/-- A DATA SET THAT IS RIGHT COMES BACK, and what stands behind it is read on. -/
theorem toEnd_wrS (o : Bool) (p : Nat) (hp : p ≤ 30000) (n d : Nat) (hd : 2 ≤ d + n) (l : List (El (n + 1))) (h : errS (n + 1) d l = 0) (hs : o = false → (wrS o p (n + 1) l).length < 4294967295) (m : Nat) (hm : n ≤ m) (r : By) (K : Nat) (hK : l.length ≤ K) :
    toEnd (elP (m + 1) (n + 1)) K (wrS o p (n + 1) l ++ r) = (toEnd (elP (m + 1) (n + 1)) (K - l.length) r).map (l ++ ·) ∧ l.length ≤ (wrS o p (n + 1) l).length := by
  rw [errS] at h
  by_cases h24 : 24 < l.length
  · rw [if_pos h24] at h; cases h
  rw [if_neg h24] at h
  have hel : ∀ y ∈ l, Rt (elP (m + 1) (n + 1)) (wrE (wrS o p n) o p) y := by
    intro y hy
    obtain ⟨b', hb'⟩ := errL_mem h y hy
    refine rt_el o p hp n d hd b' y hb' (fun ho => ?_) m hm
    have h1 := hs ho
    have h2 := mem_flat_le (e := wrE (wrS o p n) o p) hy
    rw [wrS_succ] at h1
    omega
  rw [wrS_succ]
  exact ⟨toEnd_app r l hel K hK, flat_le l hel⟩
end Go.Proofs.YtaokifbpakbgdaaGreatDoor

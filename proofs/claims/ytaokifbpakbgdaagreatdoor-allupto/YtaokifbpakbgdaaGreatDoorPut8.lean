/-
  Several texts in one; what each one has stands at its head.
-/
import Derived.Test.YtaokifbpakbgdaaGreatDoorPut4
import Derived.Test.YtaokifbpakbgdaaGreatDoorPut7
import Derived.Lib.AppendStr
import Derived.Laws.AppendOwnNone
/- A data set comes back out of its bytes, by lengths or by marks, however many pads (no program). -/
namespace Go.Proofs.YtaokifbpakbgdaaGreatDoor

theorem tk_app (a r : By) (k : Nat) (h : k = a.length) : tk k (a ++ r) = some (a, r) := by
  subst h
  simp [tk]
theorem nu_lows (k n : Nat) (r : By) (h : n < 256 ^ k) : nu k (lows k n ++ r) = some (n, r) := by
  rw [nu, tk_app _ _ _ (lows_length k n).symm]
  simp only []
  rw [le_lows, Nat.mod_eq_of_lt h]
theorem tg_wrT (t : Int) (r : By) (h0 : 0 ≤ t) (h1 : t ≤ 4294967295) : tg (wrT t ++ r) = some (t.toNat, r) := by
  rw [wrT, List.append_assoc, tg, nu_lows _ _ _ (by have : (256 : Nat) ^ 2 = 65536 := rfl; omega)]
  simp only []
  rw [nu_lows _ _ _ (by have : (256 : Nat) ^ 2 = 65536 := rfl; omega)]
  simp only []
  congr 2
  omega
theorem ze_zero (k : Nat) (a r : By) (hl : k = a.length) (h : le a = 0) : ze k (a ++ r) = some r := by
  rw [ze, nu, tk_app _ _ _ hl]
  simp [h]
theorem trim_rep (p : UInt8) (v : By) (h : v.getLast? ≠ some p) (j : Nat) : trimB p (v ++ List.replicate j p) = v := by
  unfold trimB
  rw [List.reverse_append, List.reverse_replicate]
  have e : ∀ (j : Nat) (u : By), (List.replicate j p ++ u).dropWhile (· == p) = u.dropWhile (· == p) := by
    intro j u
    induction j with
    | zero => rfl
    | succ j ih => rw [List.replicate_succ, List.cons_append, List.dropWhile_cons_of_pos (by simp), ih]
  rw [e]
  cases hv : v.reverse with
  | nil => simp at hv; subst hv; rfl
  | cons c u =>
    have hc : c ≠ p := by
      intro hcp
      subst hcp
      apply h
      rw [List.getLast?_eq_head?_reverse, hv]; rfl
    rw [List.dropWhile_cons_of_neg (by simpa using hc), ← hv, List.reverse_reverse]
theorem wrV_eq (p : Nat) (k v : By) : wrV p k v = v ++ List.replicate (v.length % 2 + 2 * p) (padB k) := by
  unfold wrV
  rcases Nat.mod_two_eq_zero_or_one v.length with h | h
  · rw [if_neg (by omega), h, Nat.zero_add]
  · rw [if_pos h, h, List.append_assoc, Nat.add_comm 1, List.replicate_succ]; rfl
theorem va_wr (p : Nat) (k v r : By) (h : v.getLast? ≠ some (padB k)) (hl : v.length ≤ 64) (hp : p ≤ 30000) : va k (lows 2 (wrV p k v).length ++ wrV p k v ++ r) = some (v, r) := by
  have hlen : (wrV p k v).length = v.length + (v.length % 2 + 2 * p) := by rw [wrV_eq]; simp
  rw [va, List.append_assoc, nu_lows _ _ _ (by have : (256 : Nat) ^ 2 = 65536 := rfl; omega)]
  simp only []
  rw [if_pos (by omega), tk_app _ _ _ rfl]
  simp only []
  rw [wrV_eq, trim_rep _ _ h]

/-- Its bytes are read as it. -/
def Rt {α : Type} (f : Nat → By → Option (α × By)) (e : α → By) (x : α) : Prop := ∀ r, ∃ t r', tg (e x ++ r) = some (t, r') ∧ t ≠ 4294893581 ∧ t ≠ 4294893789 ∧ f t r' = some (x, r)
theorem Rt.ne {α : Type} {f : Nat → By → Option (α × By)} {e : α → By} {x : α} (h : Rt f e x) : e x ≠ [] := by
  intro hn
  obtain ⟨t, r', h1, _⟩ := h []
  rw [hn] at h1
  cases h1
theorem toEnd_nil {α : Type} (f : Nat → By → Option (α × By)) (k : Nat) : toEnd f k [] = some [] := by cases k <;> rfl
theorem flat_le {α : Type} {f : Nat → By → Option (α × By)} {e : α → By} : ∀ (l : List α), (∀ x ∈ l, Rt f e x) → l.length ≤ ((l.map e).flatten).length
  | [], _ => by simp
  | x :: l, h => by
    have h1 := flat_le l (fun y hy => h y (List.mem_cons_of_mem _ hy))
    have h2 := List.length_pos_iff.2 (h x List.mem_cons_self).ne
    simp only [List.map_cons, List.flatten_cons, List.length_append, List.length_cons]
    omega
theorem toEnd_app {α : Type} {f : Nat → By → Option (α × By)} {e : α → By} (r : By) : ∀ (l : List α), (∀ x ∈ l, Rt f e x) → ∀ K, l.length ≤ K → toEnd f K ((l.map e).flatten ++ r) = (toEnd f (K - l.length) r).map (l ++ ·)
  | [], _, K, _ => by simp
  | x :: l, h, K, hK => by
    cases K with
    | zero => simp at hK
    | succ K =>
      simp only [List.length_cons] at hK
      obtain ⟨t, r', h1, _, _, h2⟩ := h x List.mem_cons_self ((l.map e).flatten ++ r)
      simp only [List.map_cons, List.flatten_cons, List.append_assoc]
      rw [toEnd, if_neg (by have := (h x List.mem_cons_self).ne; simp [this]), h1]
      simp only [h2]
      rw [toEnd_app r l (fun y hy => h y (List.mem_cons_of_mem _ hy)) K (by omega), List.length_cons, show K + 1 - (l.length + 1) = K - l.length by omega]
      cases toEnd f (K - l.length) r <;> rfl
theorem toMark_app {α : Type} {f : Nat → By → Option (α × By)} {e : α → By} (m : Nat) (hm : m = 4294893581 ∨ m = 4294893789) (a r r' : By) (h1 : tg (a ++ r) = some (m, r')) (h2 : ze 4 r' = some r) :
    ∀ (l : List α), (∀ x ∈ l, Rt f e x) → ∀ K, l.length < K → toMark m f K ((l.map e).flatten ++ (a ++ r)) = some (l, r)
  | [], _, K, hK => by
    cases K with
    | zero => simp at hK
    | succ K => simp only [List.map_nil, List.flatten_nil, List.nil_append, toMark, h1, h2, if_pos]
  | x :: l, h, K, hK => by
    cases K with
    | zero => simp at hK
    | succ K =>
      simp only [List.length_cons] at hK
      obtain ⟨t, r'', g1, g2, g3, g4⟩ := h x List.mem_cons_self ((l.map e).flatten ++ (a ++ r))
      simp only [List.map_cons, List.flatten_cons]
      rw [List.append_assoc (e x), toMark, g1]
      simp only []
      rw [if_neg (by rcases hm with rfl | rfl <;> assumption), g4]
      simp only []
      rw [toMark_app m hm a r r' h1 h2 l (fun y hy => h y (List.mem_cons_of_mem _ hy)) K (by omega)]
/-- Things behind their length, or up to a mark. -/
theorem lg_wr {α : Type} {f : Nat → By → Option (α × By)} {e : α → By} (o : Bool) (m : Nat) (hm : m = 4294893581 ∨ m = 4294893789) (a r : By) (h1 : tg (a ++ r) = some (m, [0, 0, 0, 0] ++ r)) (ha : 0 < a.length)
    (l : List α) (h : ∀ x ∈ l, Rt f e x) (hs : o = false → ((l.map e).flatten).length < 4294967295) :
    lg m f (sizeB o (l.map e).flatten ++ (l.map e).flatten ++ (if o then a else []) ++ r) = some (l, r) := by
  cases o with
  | true =>
    have e0 : sizeB true (l.map e).flatten = lows 4 4294967295 := rfl
    rw [e0, List.append_assoc, List.append_assoc, lg, nu_lows _ _ _ (by decide)]
    simp only [if_pos]
    refine toMark_app m hm a r _ h1 (ze_zero 4 [0, 0, 0, 0] r rfl rfl) l h _ ?_
    have := flat_le l h
    simp only [List.length_append]
    omega
  | false =>
    have hb := hs rfl
    have e0 : sizeB false (l.map e).flatten = lows 4 (l.map e).flatten.length := rfl
    have e1 : (if (false : Bool) = true then a else []) = ([] : By) := rfl
    rw [e0, e1, List.append_nil, List.append_assoc, lg, nu_lows _ _ _ (by have : (256 : Nat) ^ 4 = 4294967296 := rfl; omega)]
    simp only []
    rw [if_neg (by omega), tk_app _ _ _ rfl]
    simp only []
    have := toEnd_app (f := f) (e := e) [] l h (l.map e).flatten.length (flat_le l h)
    rw [List.append_nil] at this
    rw [this, toEnd_nil]
    simp

theorem tg4 (a b c d : UInt8) (r : By) : tg (a :: b :: c :: d :: r) = some (65536 * (a.toNat + 256 * b.toNat) + (c.toNat + 256 * d.toNat), r) := by
  simp [tg, nu, tk, le]
theorem tg_item (r : By) : tg ([254, 255, 0, 224] ++ r) = some (4294893568, r) := by
  rw [show ([254, 255, 0, 224] ++ r : By) = 254 :: 255 :: 0 :: 224 :: r from rfl, tg4, show 65536 * ((254 : UInt8).toNat + 256 * (255 : UInt8).toNat) + ((0 : UInt8).toNat + 256 * (224 : UInt8).toNat) = 4294893568 by decide +kernel]
theorem tg_itemEnd (r : By) : tg ([254, 255, 13, 224, 0, 0, 0, 0] ++ r) = some (4294893581, [0, 0, 0, 0] ++ r) := by
  rw [show ([254, 255, 13, 224, 0, 0, 0, 0] ++ r : By) = 254 :: 255 :: 13 :: 224 :: ([0, 0, 0, 0] ++ r) from rfl, tg4, show 65536 * ((254 : UInt8).toNat + 256 * (255 : UInt8).toNat) + ((13 : UInt8).toNat + 256 * (224 : UInt8).toNat) = 4294893581 by decide +kernel]
theorem tg_itemsEnd (r : By) : tg ([254, 255, 221, 224, 0, 0, 0, 0] ++ r) = some (4294893789, [0, 0, 0, 0] ++ r) := by
  rw [show ([254, 255, 221, 224, 0, 0, 0, 0] ++ r : By) = 254 :: 255 :: 221 :: 224 :: ([0, 0, 0, 0] ++ r) from rfl, tg4, show 65536 * ((254 : UInt8).toNat + 256 * (255 : UInt8).toNat) + ((221 : UInt8).toNat + 256 * (224 : UInt8).toNat) = 4294893789 by decide +kernel]

/- What is right. -/
theorem errI_mem {α : Type} {f : List α → Int} : ∀ {l : List (List α)}, errI f l = 0 → ∀ s ∈ l, f s = 0
  | [], _, s, hs => by cases hs
  | t :: l, h, s, hs => by
    rw [errI] at h
    by_cases ht : f t = 0
    · rw [if_pos ht] at h
      rcases List.mem_cons.1 hs with rfl | hs
      · exact ht
      · exact errI_mem h s hs
    · rw [if_neg ht] at h; exact absurd h ht
theorem errL_mem {α : Type} {e : Int → α → Int} {t : α → Int} : ∀ {l : List α} {b : Int}, errL e t b l = 0 → ∀ x ∈ l, ∃ b, e b x = 0
  | [], _, _, x, hx => by cases hx
  | y :: l, b, h, x, hx => by
    rw [errL] at h
    by_cases hy : e b y = 0
    · rw [if_pos hy] at h
      rcases List.mem_cons.1 hx with rfl | hx
      · exact ⟨b, hy⟩
      · exact errL_mem h x hx
    · rw [if_neg hy] at h; exact absurd h hy
/-- What an element is that is right. -/
theorem errE_ok {n : Nat} {g : Its n → Int} {d : Nat} {b : Int} {x : El (n + 1)} (h : errE g d b x = 0) :
    isK x.2.1 = true ∧ 0 ≤ x.1 ∧ x.1 ≤ 4294967295 ∧ x.1 / 65536 ≠ 65534 ∧ b < x.1 ∧ x.2.2.1.length ≤ 64 ∧ x.2.2.1.getLast? ≠ some (padB x.2.1) ∧ (x.2.1 = SQ → x.2.2.1 = []) ∧ (x.2.1 ≠ SQ → x.2.2.2 = []) ∧ x.2.2.2.length ≤ 8 ∧
      (x.2.1 = SQ → d < 2) ∧ g x.2.2.2 = 0 := by
  unfold errE at h
  by_cases h1 : isK x.2.1 = false
  · rw [if_pos h1] at h; cases h
  rw [if_neg h1] at h
  by_cases h2 : x.1 < 0 ∨ 4294967295 < x.1 ∨ x.1 / 65536 = 65534 ∨ x.1 ≤ b
  · rw [if_pos h2] at h; cases h
  rw [if_neg h2] at h
  by_cases h3 : 64 < x.2.2.1.length ∨ x.2.2.1.getLast? = some (padB x.2.1)
  · rw [if_pos h3] at h; cases h
  rw [if_neg h3] at h
  by_cases h4 : (x.2.1 = SQ ∧ x.2.2.1 ≠ []) ∨ (x.2.1 ≠ SQ ∧ x.2.2.2 ≠ [])
  · rw [if_pos h4] at h; cases h
  rw [if_neg h4] at h
  by_cases h5 : 8 < x.2.2.2.length
  · rw [if_pos h5] at h; cases h
  rw [if_neg h5] at h
  by_cases h6 : x.2.1 = SQ ∧ 2 ≤ d
  · rw [if_pos h6] at h; cases h
  rw [if_neg h6] at h
  refine ⟨by simpa using h1, by omega, by omega, by omega, by omega, by omega, fun hh => h3 (Or.inr hh), fun hq => ?_, fun hq => ?_, by omega, fun hq => ?_, h⟩
  · by_cases hv : x.2.2.1 = []
    · exact hv
    · exact absurd (Or.inl ⟨hq, hv⟩) h4
  · by_cases hv : x.2.2.2 = []
    · exact hv
    · exact absurd (Or.inr ⟨hq, hv⟩) h4
  · by_cases hd : 2 ≤ d
    · exact absurd ⟨hq, hd⟩ h6
    · omega
theorem isK_length {k : By} (h : isK k = true) : k.length = 2 := by
  unfold isK kinds at h
  rw [List.contains_iff_mem] at h
  simp only [List.mem_cons, List.not_mem_nil, or_false] at h
  rcases h with rfl | rfl | rfl | rfl | rfl | rfl | rfl | rfl <;> rfl
theorem mem_flat_le {α : Type} {e : α → By} : ∀ {l : List α} {x : α}, x ∈ l → (e x).length ≤ ((l.map e).flatten).length
  | y :: l, x, h => by
    simp only [List.map_cons, List.flatten_cons, List.length_append]
    rcases List.mem_cons.1 h with rfl | h
    · omega
    · have := mem_flat_le (e := e) h; omega

theorem wrS_succ (o : Bool) (p n : Nat) (l : List (El (n + 1))) : wrS o p (n + 1) l = (l.map (wrE (wrS o p n) o p)).flatten := rfl
/-- AN ELEMENT THAT IS RIGHT COMES BACK. -/
theorem rt_el (o : Bool) (p : Nat) (hp : p ≤ 30000) : ∀ (n d : Nat), 2 ≤ d + n → ∀ (b : Int) (x : El (n + 1)), errE (errI (errS n (d + 1))) d b x = 0 → (o = false → (wrE (wrS o p n) o p x).length < 4294967295) →
    ∀ m, n ≤ m → Rt (elP (m + 1) (n + 1)) (wrE (wrS o p n) o p) x := by
  intro n
  induction n with
  | zero =>
    intro d hd b x hx hs m hm r
    obtain ⟨h1, h2, h3, h4, h5, h6, h7, h8, h9, h10, h11, h12⟩ := errE_ok hx
    have hq : x.2.1 ≠ SQ := fun hq => by have := h11 hq; omega
    refine ⟨x.1.toNat, x.2.1 ++ (lows 2 (wrV p x.2.1 x.2.2.1).length ++ wrV p x.2.1 x.2.2.1) ++ r, ?_, by omega, by omega, ?_⟩
    · rw [wrE, if_neg hq, List.append_assoc (wrT _), List.append_assoc (wrT _)]
      exact tg_wrT _ _ h2 h3
    · rw [elP, if_neg (by omega), List.append_assoc, tk_app _ _ _ (isK_length h1).symm]
      simp only []
      rw [if_neg hq, va_wr p _ _ _ h7 h6 hp]
      simp only []
      obtain ⟨t, k, v, its⟩ := x
      have e1 : its = [] := h9 hq
      subst e1
      have e2 : ((t.toNat : Nat) : Int) = t := by simp only at h2; omega
      simp only [mkE, e2]
  | succ n ih =>
    intro d hd b x hx hs m hm r
    obtain ⟨h1, h2, h3, h4, h5, h6, h7, h8, h9, h10, h11, h12⟩ := errE_ok hx
    by_cases hq : x.2.1 = SQ
    · have hd2 := h11 hq
      have hv := h8 hq
      have hsets := errI_mem h12
      have hlen : o = false → ((x.2.2.2.map (wrI (wrS o p (n + 1)) o)).flatten).length < 4294967295 := fun ho => by
        have := hs ho
        rw [wrE, if_pos hq, wrQ] at this
        simp only [List.length_append] at this
        omega
      have hits : ∀ s ∈ x.2.2.2, Rt (itP (elP m (n + 1))) (wrI (wrS o p (n + 1)) o) s := by
        intro s hs' r1
        have hs1 := hsets s hs'
        rw [errS] at hs1
        by_cases h24 : 24 < s.length
        · rw [if_pos h24] at hs1; cases hs1
        rw [if_neg h24] at hs1
        have hbd : o = false → (wrS o p (n + 1) s).length < 4294967295 := fun ho => by
          have h1 := hlen ho
          have h2 := mem_flat_le (e := wrI (wrS o p (n + 1)) o) hs'
          rw [wrI] at h2
          simp only [List.length_append] at h2
          omega
        have hel : ∀ y ∈ s, Rt (elP m (n + 1)) (wrE (wrS o p n) o p) y := by
          intro y hy
          obtain ⟨b', hb'⟩ := errL_mem hs1 y hy
          obtain ⟨m, rfl⟩ : ∃ k, m = k + 1 := ⟨m - 1, by omega⟩
          refine ih (d + 1) (by omega) b' y hb' (fun ho => ?_) m (by omega)
          have h1 := hbd ho
          have h2 := mem_flat_le (e := wrE (wrS o p n) o p) hy
          rw [wrS_succ] at h1
          omega
        have key := lg_wr (f := elP m (n + 1)) (e := wrE (wrS o p n) o p) o 4294893581 (Or.inl rfl) [254, 255, 13, 224, 0, 0, 0, 0] r1 (tg_itemEnd r1) (by simp) s hel (fun ho => by have := hbd ho; rwa [wrS_succ] at this)
        refine ⟨4294893568, sizeB o (wrS o p (n + 1) s) ++ wrS o p (n + 1) s ++ (if o then [254, 255, 13, 224, 0, 0, 0, 0] else []) ++ r1, ?_, by omega, by omega, ?_⟩
        · rw [wrI, List.append_assoc, List.append_assoc, List.append_assoc, tg_item]
          simp only [List.append_assoc]
        · rw [itP, if_pos rfl, wrS_succ]
          exact key
      have key := lg_wr (f := itP (elP m (n + 1))) (e := wrI (wrS o p (n + 1)) o) o 4294893789 (Or.inr rfl) [254, 255, 221, 224, 0, 0, 0, 0] r (tg_itemsEnd r) (by simp) x.2.2.2 hits hlen
      refine ⟨x.1.toNat, x.2.1 ++ wrQ o (x.2.2.2.map (wrI (wrS o p (n + 1)) o)).flatten ++ r, ?_, by omega, by omega, ?_⟩
      · rw [wrE, if_pos hq, List.append_assoc (wrT _), List.append_assoc (wrT _)]
        exact tg_wrT _ _ h2 h3
      · rw [elP, if_neg (by omega), List.append_assoc, tk_app _ _ _ (isK_length h1).symm]
        simp only []
        rw [if_pos hq, wrQ]
        simp only [List.append_assoc]
        rw [ze_zero 2 [0, 0] _ rfl rfl]
        simp only [List.append_assoc] at key ⊢
        have key' : lg 4294893789 (itP (elP m (n + 1 + 1 - 1))) _ = some (x.2.2.2, r) := key
        rw [key']
        simp only []
        obtain ⟨t, k, v, its⟩ := x
        simp only at hv h2 hq
        have e2 : ((t.toNat : Nat) : Int) = t := by omega
        simp only [mkE, e2, hv]
    · refine ⟨x.1.toNat, x.2.1 ++ (lows 2 (wrV p x.2.1 x.2.2.1).length ++ wrV p x.2.1 x.2.2.1) ++ r, ?_, by omega, by omega, ?_⟩
      · rw [wrE, if_neg hq, List.append_assoc (wrT _), List.append_assoc (wrT _)]
        exact tg_wrT _ _ h2 h3
      · rw [elP, if_neg (by omega), List.append_assoc, tk_app _ _ _ (isK_length h1).symm]
        simp only []
        rw [if_neg hq, va_wr p _ _ _ h7 h6 hp]
        simp only []
        obtain ⟨t, k, v, its⟩ := x
        have e1 : its = [] := h9 hq
        subst e1
        have e2 : ((t.toNat : Nat) : Int) = t := by simp only at h2; omega
        simp only [mkE, e2]
/-- A DATA SET THAT IS RIGHT COMES BACK, and what stands behind it is read on. -/
theorem toEnd_wrS (o : Bool) (p : Nat) (hp : p ≤ 30000) (n d : Nat) (hd : 2 ≤ d + n) (l : List (El (n + 1))) (h : errS (n + 1) d l = 0) (hs : o = false → (wrS o p (n + 1) l).length < 4294967295) (m : Nat) (hm : n ≤ m) (r : By) (K : Nat) (hK : l.length ≤ K) :
    toEnd (elP (m + 1) (n + 1)) K (wrS o p (n + 1) l ++ r) = (toEnd (elP (m + 1) (n + 1)) (K - l.length) r).map (l ++ ·) ∧ l.length ≤ (wrS o p (n + 1) l).length := by
  rw [errS] at h
  by_cases h24 : 24 < l.length
  · rw [if_pos h24] at h; cases h
  rw [if_neg h24] at h
  have hel : ∀ y ∈ l, Rt (elP (m + 1) (n + 1)) (wrE (wrS o p n) o p) y := by
    intro y hy
    obtain ⟨b', hb'⟩ := errL_mem h y hy
    refine rt_el o p hp n d hd b' y hb' (fun ho => ?_) m hm
    have h1 := hs ho
    have h2 := mem_flat_le (e := wrE (wrS o p n) o p) hy
    rw [wrS_succ] at h1
    omega
  rw [wrS_succ]
  exact ⟨toEnd_app r l hel K hK, flat_le l hel⟩
end Go.Proofs.YtaokifbpakbgdaaGreatDoor

/- Package dataset's writer: a data set that is right, as bytes. -/
namespace Go.Proofs.YtaokifbpakbgdaaGreatDoor
open Go.RowKit

/-- Bytes as cells. -/
def cs8 (l : By) : List Value := l.map fun c => Value.int .u8 c.toNat
theorem cs8_append (a b : By) : cs8 (a ++ b) = cs8 a ++ cs8 b := List.map_append
theorem cs8_length (a : By) : (cs8 a).length = a.length := List.length_map _
theorem cs8_one (l : By) : ∀ u ∈ cs8 l, u.oneCell' = true := by
  intro u hu
  obtain ⟨c, _, rfl⟩ := List.mem_map.1 hu
  rfl
/-- The slice v is a row of one's own, and holds these bytes. -/
def B8 (w : World) (v : Value) (l : By) : Prop := w.ownsRow 0 5 1 v l.length (cs8 l)
theorem B8.nil (w : World) : B8 w (.slice none 0 0) [] := World.ownsRow_nil _ _ _ _
theorem B8.keep {w w' : World} {v : Value} {l : By} (h : B8 w v l) (k : ∀ j ∈ v.ownBlock.toList, w'.heap[j]? = w.heap[j]?) : B8 w' v l := ownsRow_keep h k
theorem B8.below {w w' : World} {v : Value} {l : By} (h : B8 w v l) (k : Below w.heap.size w w') : B8 w' v l := h.keep (fun j hj => k.block j (ownsRow_lt h j hj))
/-- From v to v': only its own row is written, and it stays there or is a new one. -/
def Gr (w : World) (v : Value) (w' : World) (v' : Value) : Prop := w.grownBy w' v.ownBlock ∧ Moved w v v'
theorem Gr.trans {w w1 w2 : World} {v v1 v2 : Value} (h : Gr w v w1 v1) (k : Gr w1 v1 w2 v2) : Gr w v w2 v2 := by
  obtain ⟨g1, m1⟩ := h
  obtain ⟨g2, m2⟩ := k
  refine ⟨⟨g2.os.trans g1.os, g2.tape.trans g1.tape, g2.output.trans g1.output, Nat.le_trans g1.size g2.size, fun j hj hne => ?_⟩, ?_⟩
  · rw [g2.block j (Nat.lt_of_lt_of_le hj g1.size) (fun e => ?_)]
    · exact g1.block j hj hne
    · rcases m1 with m | m
      · exact hne (e.trans m)
      · have := m j (by rw [← e]; simp)
        omega
  · rcases m2 with m | m
    · rcases m1 with m' | m'
      · exact Or.inl (m.trans m')
      · exact Or.inr (by rw [m]; exact m')
    · exact Or.inr (fun g hg => Nat.le_trans g1.size (m g hg))
theorem Gr.below {w w' : World} {v' : Value} (h : Gr w (.slice none 0 0) w' v') : Below w.heap.size w w' := ⟨h.1.os, h.1.tape, h.1.output, h.1.size, fun j hj => h.1.block j hj (by simp [Value.ownBlock])⟩
theorem Gr.of_below {w w' : World} (v : Value) (h : Below w.heap.size w w') : Gr w v w' v := ⟨⟨h.os, h.tape, h.output, h.size, fun j hj _ => h.block j hj⟩, Or.inl rfl⟩
/-- How a writer ends: it returns these bytes. -/
def W8 (w : World) (v : Value) (l : By) (e : Ending) (w' : World) : Prop := ∃ v', e = .returned v' ∧ B8 w' v' l ∧ Gr w v w' v'
/-- 'append(b, s...)', s a string. -/
theorem wpList_append_str {P : Program} (w : World) {ops : Array Oper} {rest : List Oper} {o : Oper} {a : Act} {Q : Exit → Act → World → Prop} (hgd : o.guard = none) (sl x : Operand) (t u : TypeId)
    (ho : o.op = .call { callee := .builtin .append, args := #[sl, x], argTypes := #[t, u] })
    (e : TypeId) (i : TypeInfo) (ht : P.underlying t = some (.slice e)) (hu : P.underlying u = some .string) (hi : P.info? e = some i) (hz : i.zero = some (.int .u8 0)) (hsize : i.size = 1) (hby : i.bytes = 1)
    (v : Value) (n : Nat) (xs : List Value) (hs : a.eval sl = v) (hown : w.ownsRow 0 e 1 v n xs) (s : ByteArray) (hx : a.eval x = .string s) (h63 : n + s.size ≤ maxLen) (hbytes : n + s.size ≤ 140737488355328)
    (h : ∀ v' w', w'.ownsRow 0 e 1 v' (n + s.size) (xs ++ Lib.strCells s) → w.grownBy w' v.ownBlock → Moved w v v' → wpList P ops Q rest (a.put o.dst v') w') : wpList P ops Q (o :: rest) a w := by
  refine wpList_plain hgd fun K hK => ?_
  have key : ∃ v' w', (Builtin.append_ #[t, u] o.type #[v, .string s]).run P w = .ok v' w' ∧ w'.ownsRow 0 e 1 v' (n + s.size) (xs ++ Lib.strCells s) ∧ w.grownBy w' v.ownBlock ∧ Moved w v v' := by
    have weak : ∀ {w' : World} {v' : Value} {k : Nat} {ys : List Value}, w'.ownsRow w.heap.size e 1 v' k ys → w'.ownsRow 0 e 1 v' k ys ∧ ∀ g ∈ v'.ownBlock.toList, w.heap.size ≤ g := by
      rintro w' v' k ys ⟨q1, q2⟩
      rcases q2 with ⟨rfl, q2⟩ | ⟨g, cap, cur, rfl, q2, q3⟩
      · exact ⟨⟨q1, Or.inl ⟨rfl, q2⟩⟩, fun g hg => by cases hg⟩
      · exact ⟨⟨q1, Or.inr ⟨g, cap, cur, rfl, Nat.zero_le _, q3⟩⟩, fun j hj => by simp [Value.ownBlock] at hj; omega⟩
    obtain ⟨k1, k2⟩ := id hown
    rcases k2 with ⟨rfl, rfl⟩ | ⟨g, cap, cur, rfl, _, hg, hnc, hcm, hcs, htake⟩
    · have : xs = [] := List.eq_nil_of_length_eq_zero (by simpa using k1)
      subst this
      obtain ⟨v', w', r1, r2, r3, _⟩ := Lib.run_append_own_string (P := P) w w.heap.size t u o.type e i ht hu hi hz hsize hby _ 0 [] (World.ownsRow_nil _ _ _ _) s h63 hbytes (Nat.le_refl _)
      exact ⟨v', w', r1, (weak r2).1, r3, Or.inr (weak r2).2⟩
    · obtain ⟨v', w', r1, r2, r3, _⟩ := Lib.run_append_own_string (P := P) w 0 t u o.type e i ht hu hi hz hsize hby _ n xs hown s h63 hbytes (Nat.zero_le _)
      refine ⟨v', w', r1, r2, r3, ?_⟩
      have hxl : xs.length = n := by simpa using k1
      have hsmall : n + s.size ≤ 9223372036854775807 := by simp only [maxLen] at h63; omega
      by_cases hroom : n + s.size ≤ cap
      · have hr := Lib.run_append_room_string (P := P) w t u o.type e i ht hu hi hsize g n cap cur hg s hroom (by omega)
        rw [r1] at hr
        simp only [Result.ok.injEq] at hr
        rw [hr.1]
        exact Or.inl rfl
      · have holds : ∀ j u, xs[j]? = some u → w.cell? ((⟨g, 0, none⟩ : Addr).add j) = some u := hown.cells (g := g) rfl
        have hr := Lib.run_append_grow_string (P := P) w t u o.type e i (.int .u8 0) ht hu hi hz ⟨g, 0, none⟩ n cap xs (by rw [hsize]; simpa using hxl) holds s (by omega) (by omega) (by rw [hby]; exact growslice_fits (by omega) (by omega))
        rw [r1] at hr
        simp only [Result.ok.injEq] at hr
        rw [hr.1]
        exact Or.inr (fun g hg => by simp [Value.ownBlock] at hg; omega)
  obtain ⟨v', w', hr, h2, h3, h4⟩ := key
  unfold Oper.wp execOp
  simp only [ho, resolve, invoke, builtin, Sem.run_bind, Sem.run_pure, Result.andThen_ok, List.map_toArray, List.map_cons, List.map_nil, hs, hx, hr]
  exact hK _ _ (h v' w' h2 h3 h4)
theorem info_8 : (Tryz.prog.info? 5).map (fun i => (i.zero, i.size, i.bytes)) = some (some (.int .u8 0), 1, 1) := by kernel_rfl
theorem ofNat_toNat (n : Nat) : ((UInt8.ofNat (n % 256)).toNat : Int) = ((n : Nat) : Int) % 256 := by
  rw [UInt8.toNat_ofNat']; omega
theorem two_cells (w : World) (T : TypeId) (n : Nat) : ∀ j u, (cs8 (lows 2 n))[j]? = some u → (w.alloc (.cells #[.int .u8 ((n : Int) % 256), .int .u8 ((n : Int) / 256 % 256)] T)).cell? ((⟨w.heap.size, 0, none⟩ : Addr).add j) = some u := by
  have e : cs8 (lows 2 n) = [.int .u8 ((n : Int) % 256), .int .u8 ((n : Int) / 256 % 256)] := by
    simp only [cs8, lows, List.map_cons, List.map_nil, ofNat_toNat]
    rfl
  rw [e]
  intro j u hj
  rw [Addr.add_lit]
  match j, hj with
  | 0, hj | 1, hj => simp at hj; subst hj; simp
  | j + 2, hj => simp at hj
theorem W8.mk {w w0 w' : World} {v v' : Value} {b c : By} (h0 : Below w.heap.size w w0) (hown : w'.ownsRow 0 5 1 v' (b.length + c.length) (cs8 b ++ cs8 c)) (hg : w0.grownBy w' v.ownBlock) (hm : Moved w0 v v') : W8 w v (b ++ c) (.returned v') w' :=
  ⟨v', rfl, by rw [B8, List.length_append, cs8_append]; exact hown, (Gr.of_below v h0).trans ⟨hg, hm⟩⟩
theorem W8.then {w w1 : World} {v v1 : Value} {l : By} {e : Ending} {w2 : World} (g : Gr w v w1 v1) (h : W8 w1 v1 l e w2) : W8 w v l e w2 := by
  obtain ⟨v', he, h1, h2⟩ := h
  exact ⟨v', he, h1, g.trans h2⟩
theorem appendTwo_any (w : World) (v : Value) (b : By) (n : Nat) (hb : B8 w v b) (hl : b.length ≤ 1099511627776) (_hn : n ≤ 1099511627776) :
    Calls Tryz.prog 119 #[v, .int .i64 n] w (W8 w v (b ++ lows 2 n)) := by
  obtain ⟨i0, hi, hz0, hz1, hz2⟩ := info_parts info_8
  have HI := hid hi
  have hb' := hid hb
  clear hi hb
  go_enter Tryz.func119, Tryz.ntmps119
  go_wp2_with (at_builtin; refine wpList_append_sep _ rfl _ _ 49 rfl 5 i0 (.int .u8 0) 1 1 Tryz.underlying49 HI.out hz0 hz1 hz2 rfl (by decide) _ _ _ rfl (hb'.out.alloc _) ⟨w.heap.size, 0, none⟩ 2 2 (cs8 (lows 2 n)) rfl rfl (two_cells _ _ _) (cs8_one _) (by unfold maxLen; omega) (by omega) ?_)
  intro v' w' hown hg hm
  have R := hid (W8.mk (c := lows 2 n) (Below.alloc (Below.refl _ _) (Nat.le_refl _) _) hown hg hm)
  clear hown hg hm
  go_wp2
  go_ret
  exact R.out
theorem lows2_mod (n : Nat) : lows 2 (n % 65536) = lows 2 n := by
  simp only [lows]
  rw [show n % 65536 % 256 = n % 256 by omega, show n % 65536 / 256 % 256 = n / 256 % 256 by omega]
theorem lows4 (n : Nat) : lows 2 n ++ lows 2 (n / 65536) = lows 4 n := by
  simp only [lows, List.cons_append, List.nil_append]
  rw [show n / 65536 % 256 = n / 256 / 256 % 256 by omega, show n / 65536 / 256 % 256 = n / 256 / 256 / 256 % 256 by omega]
theorem appendTag_any (w : World) (v : Value) (b : By) (t : Nat) (hb : B8 w v b) (hl : b.length ≤ 549755813888) (ht : t < 4294967296) :
    Calls Tryz.prog 118 #[v, .int .i64 t] w (W8 w v (b ++ wrT t)) := by
  have e : wrT (t : Int) = lows 2 (t / 65536) ++ lows 2 t := by
    unfold wrT
    rw [show ((t : Int) / 65536).toNat = t / 65536 by omega, show ((t : Int) % 65536).toNat = t % 65536 by omega, lows2_mod]
  rw [e, ← List.append_assoc]
  go_enter Tryz.func118, Tryz.ntmps118
  go_wp2_with fail
  go_at_call 119
  refine (appendTwo_any w v b (t / 65536) hb (by omega) (by omega)).mono ?_
  rintro e w1 ⟨v1, rfl, h1, u1⟩
  go_wp2_with fail
  go_at_call 119
  refine (appendTwo_any w1 v1 _ t h1 (by simp [lows_length]; omega) (by omega)).mono ?_
  rintro e w2 ⟨v2, rfl, h2, u2⟩
  go_wp2
  go_ret
  exact ⟨v2, rfl, h2, u1.trans u2⟩
theorem B8.cells {w : World} {g n cap : Nat} {l : By} (h : B8 w (.slice (some ⟨g, 0, none⟩) n cap) l) : n = l.length ∧ ∀ j u, (cs8 l)[j]? = some u → w.cell? ((⟨g, 0, none⟩ : Addr).add j) = some u := by
  have hn : n = l.length := by
    rcases h.2 with ⟨e, _⟩ | ⟨g', cap', cur, e, _⟩
    · cases e
    · simp only [Value.slice.injEq] at e; exact e.2.1
  subst hn
  refine ⟨rfl, fun j u hj => ?_⟩
  have hlt := (List.getElem?_eq_some_iff.1 hj).1
  rw [cs8_length] at hlt
  rw [Addr.add_lit, Nat.zero_add, World.ownsRow.cellAt h _ (by omega)]
  exact hj
theorem B8.shape {w : World} {v : Value} {l : By} (h : B8 w v l) : (v = .slice none 0 0 ∧ l = []) ∨ ∃ g cap, v = .slice (some ⟨g, 0, none⟩) l.length cap := by
  rcases h.2 with ⟨e, e2⟩ | ⟨g', cap', cur, e, _⟩
  · exact Or.inl ⟨e, List.eq_nil_of_length_eq_zero e2⟩
  · exact Or.inr ⟨g', cap', e⟩
theorem appendLong_any (w : World) (v v2 : Value) (b c : By) (hb : B8 w v b) (hc : B8 w v2 c) (hsep : ∀ k, v2.ownBlock = some k → v.ownBlock ≠ some k) (hl : b.length ≤ 549755813888) (hl2 : c.length ≤ 274877906944) :
    Calls Tryz.prog 120 #[v, v2] w (W8 w v (b ++ (lows 4 c.length ++ c))) := by
  obtain ⟨i0, hi, hz0, hz1, hz2⟩ := info_parts info_8
  have HI := hid hi
  have HC := hid hc
  clear hi
  obtain ⟨ad, cap, hv2⟩ : ∃ ad cap, v2 = .slice ad c.length cap := by
    rcases hc.shape with ⟨e, e2⟩ | ⟨g, cap, e⟩
    · exact ⟨none, 0, by rw [e, e2]; rfl⟩
    · exact ⟨_, _, e⟩
  have hsep' := hid hsep
  clear hc hsep
  subst hv2
  go_enter Tryz.func120, Tryz.ntmps120
  go_wp2_with fail
  go_at_call 119
  refine (appendTwo_any w v b c.length hb (by omega) (by omega)).mono ?_
  rintro e w1 ⟨v1, rfl, h1, u1⟩
  go_wp2_with fail
  go_at_call 119
  refine (appendTwo_any w1 v1 _ (c.length / 65536) h1 (by simp [lows_length]; omega) (by omega)).mono ?_
  rintro e w2 ⟨v2, rfl, h2, u2⟩
  have u12 := hid (u1.trans u2)
  have hc2 : Hid (B8 w2 (.slice ad c.length cap) c) := HC.out.keep (fun j hj => by
    have hj' : (Value.slice ad c.length cap).ownBlock = some j := by simpa using hj
    exact u12.out.1.block j (ownsRow_lt HC.out j hj) (fun e => hsep'.out j hj' e.symm))
  clear u1 u2 h1
  have h2' := hid h2
  clear h2
  have efin := hid (show b ++ lows 2 c.length ++ lows 2 (c.length / 65536) = b ++ lows 4 c.length by rw [List.append_assoc, lows4])
  have elen := hid (show (b ++ lows 2 c.length ++ lows 2 (c.length / 65536)).length = b.length + 4 by simp [lows_length])
  generalize b ++ lows 2 c.length ++ lows 2 (c.length / 65536) = b2 at h2' efin elen
  rcases hc2.out.shape with ⟨e, e2⟩ | ⟨g, cap', e⟩
  · simp only [Value.slice.injEq] at e
    obtain ⟨rfl, _, rfl⟩ := e
    subst e2
    go_wp2_with (at_builtin; refine wpList_append_own_none rfl _ _ 49 rfl 0 5 i0 1 Tryz.underlying49 HI.out _ _ _ rfl h2'.out rfl ?_)
    go_ret
    refine ⟨v2, rfl, ?_, u12.out⟩
    have := h2'.out
    rw [efin.out] at this
    rw [List.append_nil]
    exact this
  · simp only [Value.slice.injEq] at e
    obtain ⟨rfl, _, rfl⟩ := e
    go_wp2_with (at_builtin; refine wpList_append_sep _ rfl _ _ 49 rfl 5 i0 (.int .u8 0) 1 1 Tryz.underlying49 HI.out hz0 hz1 hz2 rfl (by decide) _ _ _ rfl h2'.out ⟨g, 0, none⟩ c.length cap (cs8 c) rfl (by rw [cs8_length, Nat.mul_one]) hc2.out.cells.2 (cs8_one _) (by unfold maxLen; rw [elen.out]; omega) (by rw [elen.out]; omega) ?_)
    intro v' w' hown hg hm
    have R := hid (W8.then u12.out (W8.mk (c := c) (Below.refl _ _) hown hg hm))
    clear hown hg hm
    go_wp2
    go_ret
    have := R.out
    rw [efin.out, List.append_assoc] at this
    exact this
theorem bs_append (a b : By) : bs a ++ bs b = bs (a ++ b) := by
  apply ByteArray.ext
  rw [ByteArray.data_append]
  apply Array.ext'
  simp [bs]
theorem strCells_bs (l : By) : Lib.strCells (bs l) = cs8 l := rfl
theorem appendValue_any (w : World) (v : Value) (b k u : By) (hb : B8 w v b) (hl : b.length ≤ 549755813888) (hu : u.length ≤ 64) :
    Calls Tryz.prog 122 #[v, .string (bs k), .string (bs u)] w (W8 w v (b ++ (lows 2 (wrV 0 k u).length ++ wrV 0 k u))) := by
  obtain ⟨i0, hi, hz0, hz1, hz2⟩ := info_parts info_8
  have HI := hid hi
  clear hi
  have hz := bs_size u
  by_cases hodd : u.length % 2 = 1
  · have d1 : ((u.length : Int) % 2 != 0) = true := by simp; omega
    have d2 : ((u.length : Int) % 2 == 0) = false := by simp; omega
    have e := hid (show wrV 0 k u = u ++ [padB k] by unfold wrV; rw [if_pos hodd]; simp)
    clear hodd
    have hz1' := bs_size [padB k]
    have happ := bs_append u [padB k]
    have hz3 : (bs (u ++ [padB k])).size = u.length + 1 := by rw [bs_size, List.length_append]; rfl
    go_enter Tryz.func122, Tryz.ntmps122
    go_wp2_with fail
    go_at_call 191
    refine (pad_any w k).mono ?_
    rintro e w1 ⟨rfl, rfl⟩
    go_wp2_with fail
    go_at_call 119
    refine (appendTwo_any w1 v b (u.length + 1) hb (by omega) (by omega)).mono ?_
    rintro e w2 ⟨v2, rfl, h2, u2⟩
    have h2' := hid h2
    have elen := hid (show (b ++ lows 2 (u.length + 1)).length = b.length + 2 by simp [lows_length])
    have efin := hid (show b ++ (lows 2 (wrV 0 k u).length ++ wrV 0 k u) = b ++ lows 2 (u.length + 1) ++ (u ++ [padB k]) by rw [‹Hid (wrV 0 k u = u ++ [padB k])›.out, List.length_append, List.append_assoc]; rfl)
    clear h2
    generalize b ++ lows 2 (u.length + 1) = b2 at h2' efin elen
    go_wp2_with (at_builtin; refine wpList_append_str _ rfl _ _ 49 9 rfl 5 i0 Tryz.underlying49 Tryz.underlying9 HI.out hz0 hz1 hz2 _ _ _ rfl h2'.out (bs (u ++ [padB k])) rfl (by unfold maxLen; rw [elen.out, hz3]; omega) (by rw [elen.out, hz3]; omega) ?_)
    intro v' w' hown hg hm
    have R := hid (W8.then u2 (W8.mk (b := b2) (c := u ++ [padB k]) (Below.refl _ _) (by rw [strCells_bs] at hown; rw [List.length_append]; exact hown) hg hm))
    clear hown hg hm
    go_wp2
    go_ret
    rw [efin.out]
    exact R.out
  · have d1 : ((u.length : Int) % 2 != 0) = false := by simp; omega
    have d2 : ((u.length : Int) % 2 == 0) = true := by simp; omega
    have e := hid (show wrV 0 k u = u by unfold wrV; rw [if_neg hodd]; simp)
    clear hodd
    go_enter Tryz.func122, Tryz.ntmps122
    go_wp2_with fail
    go_at_call 119
    refine (appendTwo_any w v b u.length hb (by omega) (by omega)).mono ?_
    rintro e w2 ⟨v2, rfl, h2, u2⟩
    have h2' := hid h2
    have elen := hid (show (b ++ lows 2 u.length).length = b.length + 2 by simp [lows_length])
    have efin := hid (show b ++ (lows 2 (wrV 0 k u).length ++ wrV 0 k u) = b ++ lows 2 u.length ++ u by rw [‹Hid (wrV 0 k u = u)›.out, List.append_assoc])
    clear h2
    generalize b ++ lows 2 u.length = b2 at h2' efin elen
    go_wp2_with (at_builtin; refine wpList_append_str _ rfl _ _ 49 9 rfl 5 i0 Tryz.underlying49 Tryz.underlying9 HI.out hz0 hz1 hz2 _ _ _ rfl h2'.out (bs u) rfl (by unfold maxLen; rw [elen.out, hz]; omega) (by rw [elen.out, hz]; omega) ?_)
    intro v' w' hown hg hm
    have R := hid (W8.then u2 (W8.mk (b := b2) (c := u) (Below.refl _ _) (by rw [strCells_bs] at hown; exact hown) hg hm))
    clear hown hg hm
    go_wp2
    go_ret
    rw [efin.out]
    exact R.out
end Go.Proofs.YtaokifbpakbgdaaGreatDoor

/-
  The data sets that numbers speak of (foliokeep's 'some'), and that they are right (no program).
-/
import Derived.Test.YtaokifbpakbgdaaDoorRound
namespace Go.Proofs.YtaokifbpakbgdaaDoor

def pk (k n : Int) : Int := (if k < 0 then -(k + 1) else k) % n
theorem pk_bd (k n : Int) (h : 0 < n) : 0 ≤ pk k n ∧ pk k n < n := ⟨Int.emod_nonneg _ (by omega), Int.emod_lt_of_pos _ h⟩
/-- The kinds that are spoken of. -/
def kd (b : Int) : By := if pk b 5 = 0 then [76, 79] else if pk b 5 = 1 then [85, 73] else if pk b 5 = 2 then [67, 83] else if pk b 5 = 3 then [83, 81] else [80, 78]
/-- Letters: from 97 + n down to 98. -/
def lt : Nat → By
  | 0 => []
  | n + 1 => UInt8.ofNat (97 + (n + 1)) :: lt n
def smE (d : Nat) (t b c : Int) (its : Its d) : El (d + 1) :=
  if kd b = SQ then (if d = 0 then (t, [76, 79], [], []) else (t, SQ, [], List.flatten (List.replicate (pk c 4).toNat its))) else (t, kd b, lt (pk c 9).toNat, [])
theorem smE_0 (d : Nat) (t b c : Int) (its : Its d) (hq : kd b = SQ) (hd : d = 0) : smE d t b c its = (t, [76, 79], [], []) := by unfold smE; exact (if_pos hq).trans (if_pos hd)
theorem smE_q (d : Nat) (t b c : Int) (its : Its d) (hq : kd b = SQ) (hd : d ≠ 0) : smE d t b c its = (t, SQ, [], List.flatten (List.replicate (pk c 4).toNat its)) := by unfold smE; exact (if_pos hq).trans (if_neg hd)
theorem smE_v (d : Nat) (t b c : Int) (its : Its d) (hq : kd b ≠ SQ) : smE d t b c its = (t, kd b, lt (pk c 9).toNat, []) := by unfold smE; exact if_neg hq
def smL (d : Nat) (f : List Int → Its d) : Nat → Int → List Int → List (El (d + 1))
  | 0, _, _ => []
  | k + 1, t, a :: b :: c :: r => smE d (t + 1 + pk a 70000) b c (f r) :: smL d f k (t + 1 + pk a 70000) (if kd b = SQ ∧ d ≠ 0 then r.drop (3 * (pk c 4).toNat) else r)
  | _ + 1, _, _ => []
def sm : (d : Nat) → List Int → List (El (d + 1))
  | 0, l => smL 0 (fun _ => []) 10 1 l
  | d + 1, l => smL (d + 1) (fun r => [sm d r]) 10 1 l

theorem kd_is (b : Int) : isK (kd b) = true := by
  unfold kd
  split
  · rfl
  split
  · rfl
  split
  · rfl
  split
  · rfl
  · rfl
theorem lt_len : ∀ n, (lt n).length = n
  | 0 => rfl
  | n + 1 => by rw [lt, List.length_cons, lt_len n]
theorem lt_mem : ∀ n, n ≤ 9 → ∀ c ∈ lt n, c ≠ 0 ∧ c ≠ 32
  | 0, _, c, h => by cases h
  | n + 1, hn, c, h => by
    rcases List.mem_cons.1 h with rfl | h
    · have : (UInt8.ofNat (97 + (n + 1))).toNat = 97 + (n + 1) := by rw [UInt8.toNat_ofNat']; omega
      constructor
      · intro e; rw [e] at this; simp at this
      · intro e; rw [e] at this; simp at this; omega
    · exact lt_mem n (by omega) c h
theorem lt_last (n : Nat) (hn : n ≤ 9) (k : By) : (lt n).getLast? ≠ some (padB k) := by
  intro h
  have hm := lt_mem n hn _ (List.mem_of_getLast? h)
  unfold padB at hm
  split at hm
  · exact hm.1 rfl
  · exact hm.2 rfl
theorem errI_zero {α : Type} {f : List α → Int} : ∀ {l : List (List α)}, (∀ s ∈ l, f s = 0) → errI f l = 0
  | [], _ => rfl
  | s :: l, h => by rw [errI, if_pos (h s List.mem_cons_self)]; exact errI_zero (fun t ht => h t (List.mem_cons_of_mem _ ht))
/-- When an element is right. -/
theorem errE_zero {n : Nat} {g : Its n → Int} {d : Nat} {b : Int} {x : El (n + 1)} (h1 : isK x.2.1 = true) (h2 : 0 ≤ x.1) (h3 : x.1 ≤ 4294967295) (h4 : x.1 / 65536 ≠ 65534) (h5 : b < x.1) (h6 : x.2.2.1.length ≤ 64)
    (h7 : x.2.2.1.getLast? ≠ some (padB x.2.1)) (h8 : x.2.1 = SQ → x.2.2.1 = []) (h9 : x.2.1 ≠ SQ → x.2.2.2 = []) (h10 : x.2.2.2.length ≤ 8) (h11 : x.2.1 = SQ → d < 2) (h12 : g x.2.2.2 = 0) : errE g d b x = 0 := by
  unfold errE
  rw [if_neg (by simp [h1]), if_neg (by omega), if_neg (by rintro (h | h); (· omega); exact h7 h), if_neg (by rintro (⟨h, h'⟩ | ⟨h, h'⟩); (· exact h' (h8 h)); exact h' (h9 h)), if_neg (by omega), if_neg (by rintro ⟨h, h'⟩; have := h11 h; omega)]
  exact h12
theorem smE_ok (D d : Nat) (hd : D = 0 ∨ d < 2) (g : Its D → Int) (t b c : Int) (its : Its D) (hi : its.length ≤ 1) (hg : ∀ s ∈ its, g [s] = 0) (gn : g [] = 0) (ga : ∀ l : Its D, (∀ s ∈ l, g [s] = 0) → g l = 0) (before : Int) (h0 : 0 ≤ t) (h1 : before < t) (h2 : t ≤ 800000) :
    errE g d before (smE D t b c its) = 0 := by
  by_cases hq : kd b = SQ
  · by_cases hD : D = 0
    · rw [smE_0 D t b c its hq hD]
      exact errE_zero rfl h0 (by simp only []; omega) (by simp only []; omega) h1 (by simp) (by simp) (fun _ => rfl) (fun _ => rfl) (by simp) (fun h => by simp at h) gn
    · rw [smE_q D t b c its hq hD]
      have hb := pk_bd c 4 (by decide)
      refine errE_zero rfl h0 (by simp only []; omega) (by simp only []; omega) h1 (by simp) (by simp) (fun _ => rfl) (fun h => absurd rfl h) ?_ (fun _ => by rcases hd with hd | hd; (· exact absurd hd hD); exact hd) (ga _ (fun s hs => ?_))
      · simp only [List.length_flatten, List.map_replicate, List.sum_replicate_nat]
        have : (pk c 4).toNat * its.length ≤ 3 * 1 := Nat.mul_le_mul (by omega) hi
        omega
      · obtain ⟨l, hl, hs⟩ := List.mem_flatten.1 hs
        exact hg s ((List.eq_of_mem_replicate hl) ▸ hs)
  · rw [smE_v D t b c its hq]
    have hb := pk_bd c 9 (by decide)
    exact errE_zero (kd_is b) h0 (by simp only []; omega) (by simp only []; omega) h1 (by simp only [lt_len]; omega) (lt_last _ (by omega) _) (fun h => absurd h hq) (fun _ => rfl) (by simp) (fun h => absurd h hq) gn
theorem smE_tag (D : Nat) (t b c : Int) (its : Its D) : (smE D t b c its).1 = t := by
  by_cases hq : kd b = SQ
  · by_cases hD : D = 0
    · rw [smE_0 D t b c its hq hD]
    · rw [smE_q D t b c its hq hD]
  · rw [smE_v D t b c its hq]
theorem smL_len (D : Nat) (f : List Int → Its D) : ∀ (k : Nat) (t : Int) (l : List Int), (smL D f k t l).length ≤ k
  | 0, _, _ => by simp [smL]
  | k + 1, t, a :: b :: c :: r => by
    have := smL_len D f k (t + 1 + pk a 70000) (if kd b = SQ ∧ D ≠ 0 then r.drop (3 * (pk c 4).toNat) else r)
    simp only [smL, List.length_cons]; omega
  | k + 1, t, [] => by simp [smL]
  | k + 1, t, [a] => by simp [smL]
  | k + 1, t, [a, b] => by simp [smL]
theorem smL_ok (D d : Nat) (hd : D = 0 ∨ d < 2) (g : Its D → Int) (f : List Int → Its D) (hf : ∀ l, (f l).length ≤ 1 ∧ ∀ s ∈ f l, g [s] = 0) (gn : g [] = 0) (ga : ∀ l : Its D, (∀ s ∈ l, g [s] = 0) → g l = 0) (tail : List (El (D + 1)))
    (ht : ∀ b : Int, b ≤ 800000 → errL (errE g d) (fun x => x.1) b tail = 0) :
    ∀ (k : Nat) (t : Int) (l : List Int) (b : Int), 0 ≤ t → b ≤ t → t + 70000 * k ≤ 800000 → errL (errE g d) (fun x => x.1) b (smL D f k t l ++ tail) = 0
  | 0, t, l, b, h0, h1, h2 => by simpa [smL] using ht b (by omega)
  | k + 1, t, a :: b :: c :: r, before, h0, h1, h2 => by
    have hp := pk_bd a 70000 (by decide)
    rw [smL, List.cons_append, errL, if_pos (smE_ok D d hd g _ b c _ (hf r).1 (hf r).2 gn ga before (by omega) (by omega) (by omega)), smE_tag]
    exact smL_ok D d hd g f hf gn ga tail ht k _ _ _ (by omega) (Int.le_refl _) (by omega)
  | k + 1, t, [], b, h0, h1, h2 => by simpa [smL] using ht b (by omega)
  | k + 1, t, [x], b, h0, h1, h2 => by simpa [smL] using ht b (by omega)
  | k + 1, t, [x, y], b, h0, h1, h2 => by simpa [smL] using ht b (by omega)
theorem sm_len : ∀ (d : Nat) (l : List Int), (sm d l).length ≤ 10
  | 0, _ => smL_len _ _ _ _ _
  | _ + 1, _ => smL_len _ _ _ _ _
theorem errI_all {α : Type} {f : List α → Int} (l : List (List α)) (h : ∀ s ∈ l, errI f [s] = 0) : errI f l = 0 := by
  refine errI_zero (fun s hs => ?_)
  have := h s hs
  rw [errI] at this
  by_cases e : f s = 0
  · exact e
  · rw [if_neg e] at this; exact absurd this e
theorem sm_ok : ∀ (n d : Nat), d + n = 2 → ∀ (tail : List (El (n + 1))), tail.length ≤ 10 → (∀ b : Int, b ≤ 800000 → errL (errE (errI (errS n (d + 1))) d) (fun x => x.1) b tail = 0) → ∀ l, errS (n + 1) d (sm n l ++ tail) = 0
  | 0, d, hd, tail, hl, ht, l => by
    have h1 := sm_len 0 l
    rw [errS, if_neg (by rw [List.length_append]; omega)]
    exact smL_ok 0 d (Or.inl rfl) _ _ (fun l => ⟨by simp, fun s hs => by cases hs⟩) rfl errI_all tail ht 10 1 l (-1) (by omega) (by omega) (by omega)
  | n + 1, d, hd, tail, hl, ht, l => by
    have h1 := sm_len (n + 1) l
    rw [errS, if_neg (by rw [List.length_append]; omega)]
    refine smL_ok (n + 1) d (Or.inr (by omega)) _ _ (fun r => ⟨by simp, fun s hs => ?_⟩) rfl errI_all tail ht 10 1 l (-1) (by omega) (by omega) (by omega)
    rcases List.mem_cons.1 hs with rfl | hs
    · have := sm_ok n (d + 1) (by omega) [] (by simp) (fun _ _ => rfl) r
      rw [List.append_nil] at this
      rw [errI, if_pos this]; rfl
    · cases hs
end Go.Proofs.YtaokifbpakbgdaaDoor

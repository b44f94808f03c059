/-
  What Back asks, on lists of bytes alone: how long the bytes of a data set can be; that it comes back; that a byte less, or one more, is no data set (no program).
-/
import Derived.Test.YtaokifbpakbgdaaDoorSm
import Derived.Test.YtaokifbpakbgdaaDoorFuel
namespace Go.Proofs.YtaokifbpakbgdaaDoor

def bnd (p : Nat) : Nat → Nat
  | 0 => 0
  | n + 1 => 24 * (300 + 2 * p + 8 * (16 + bnd p n))
theorem flat_bound {α : Type} {e : α → By} {B : Nat} : ∀ {l : List α}, (∀ x ∈ l, (e x).length ≤ B) → ((l.map e).flatten).length ≤ l.length * B
  | [], _ => by simp
  | x :: l, h => by
    have h1 := h x List.mem_cons_self
    have h2 := flat_bound (e := e) (l := l) (fun y hy => h y (List.mem_cons_of_mem _ hy))
    simp only [List.map_cons, List.flatten_cons, List.length_append, List.length_cons]
    rw [Nat.succ_mul]
    omega
theorem wrV_len (p : Nat) (k v : By) : (wrV p k v).length = v.length + (v.length % 2 + 2 * p) := by rw [wrV_eq]; simp
theorem wrS_bound (o : Bool) (p : Nat) : ∀ (n d : Nat) (l : List (El n)), errS n d l = 0 → (wrS o p n l).length ≤ bnd p n
  | 0, _, _, _ => by simp [wrS]
  | n + 1, d, l, h => by
    rw [errS] at h
    by_cases h24 : 24 < l.length
    · rw [if_pos h24] at h; cases h
    rw [if_neg h24] at h
    rw [wrS_succ, bnd]
    have hx : ∀ x ∈ l, (wrE (wrS o p n) o p x).length ≤ 300 + 2 * p + 8 * (16 + bnd p n) := by
      intro x hx
      obtain ⟨b, hb⟩ := errL_mem h x hx
      obtain ⟨e1, e2, e3, e4, e5, e6, e7, e8, e9, e10, e11, e12⟩ := errE_ok hb
      have hk := isK_length e1
      have hT : (wrT x.1).length = 4 := by simp [wrT, lows_length]
      unfold wrE
      rw [List.length_append, List.length_append, hT, hk]
      by_cases hq : x.2.1 = SQ
      · rw [if_pos hq]
        have hits := flat_bound (e := wrI (wrS o p n) o) (B := 16 + bnd p n) (l := x.2.2.2) (fun s hs => by
          have := wrS_bound o p n (d + 1) s (errI_mem e12 s hs)
          unfold wrI sizeB
          cases o <;> simp [lows_length] <;> omega)
        have h8 : x.2.2.2.length * (16 + bnd p n) ≤ 8 * (16 + bnd p n) := Nat.mul_le_mul_right _ e10
        unfold wrQ sizeB
        cases o <;> simp only [List.length_append, lows_length, List.length_cons, List.length_nil, if_true, if_false, Bool.false_eq_true] <;> omega
      · rw [if_neg hq, List.length_append, lows_length, wrV_len]
        omega
    have := flat_bound hx
    have h3 : l.length * (300 + 2 * p + 8 * (16 + bnd p n)) ≤ 24 * (300 + 2 * p + 8 * (16 + bnd p n)) := Nat.mul_le_mul_right _ (by omega)
    omega
theorem bnd_3 (p : Nat) (hp : p ≤ 100) : bnd p 3 ≤ 600000000 := by
  simp only [bnd]
  omega

/-- The element at the end. -/
def lastE : El 3 := ((4294967295 : Int), [85, 73], [49, 46, 50], [])
def setX (L : List Int) : List (El 3) := sm 2 L ++ [lastE]
theorem last_ok (b : Int) (hb : b ≤ 800000) : errL (errE (errI (errS 2 (0 + 1))) 0) (fun x => x.1) b [lastE] = 0 := by
  rw [errL, if_pos]
  · rfl
  · exact errE_zero (x := lastE) rfl (by decide) (by decide) (by decide) (by show b < 4294967295; omega) (by decide) (by decide) (fun h => by cases h) (fun _ => rfl) (by decide) (fun h => by cases h) rfl
theorem setX_ok (L : List Int) : errS 3 0 (setX L) = 0 := sm_ok 2 0 rfl [lastE] (by simp) last_ok L
theorem setX0_ok (L : List Int) : errS 3 0 (sm 2 L) = 0 := by
  have := sm_ok 2 0 rfl [] (by simp) (fun _ _ => rfl) L
  rwa [List.append_nil] at this
theorem wrS_len (o : Bool) (p : Nat) (hp : p ≤ 100) (L : List Int) : (wrS o p 3 (setX L)).length ≤ 600000000 := Nat.le_trans (wrS_bound o p 3 0 _ (setX_ok L)) (bnd_3 p hp)
theorem wrS_app (o : Bool) (p n : Nat) (a b : List (El (n + 1))) : wrS o p (n + 1) (a ++ b) = wrS o p (n + 1) a ++ wrS o p (n + 1) b := by
  simp only [wrS_succ, List.map_append, List.flatten_append]
theorem wrS_last (o : Bool) (p : Nat) : wrS o p 3 [lastE] = wrT 4294967295 ++ ([85, 73] ++ (lows 2 (wrV p [85, 73] [49, 46, 50]).length ++ wrV p [85, 73] [49, 46, 50])) := by
  rw [wrS_succ]
  simp only [List.map_cons, List.map_nil, List.flatten_cons, List.flatten_nil, List.append_nil]
  unfold wrE lastE
  rw [if_neg (by decide)]
  simp only [List.append_assoc]
theorem last_len (o : Bool) (p : Nat) : (wrS o p 3 [lastE]).length = 12 + 2 * p := by
  rw [wrS_last]
  simp only [List.length_append, lows_length, wrT, wrV_len, List.length_cons, List.length_nil]
  omega
theorem setX_len (o : Bool) (p : Nat) (L : List Int) : (wrS o p 3 (setX L)).length = (wrS o p 3 (sm 2 L)).length + (12 + 2 * p) := by
  rw [setX, wrS_app, List.length_append, last_len]
theorem set_le (o : Bool) (p : Nat) (hp : p ≤ 100) (l : List (El 3)) (h : errS 3 0 l = 0) : l.length ≤ (wrS o p 3 l).length :=
  (toEnd_wrS o p (by omega) 2 0 (by omega) l h (fun _ => Nat.lt_of_le_of_lt (Nat.le_trans (wrS_bound o p 3 0 l h) (bnd_3 p hp)) (by decide)) 2 (by omega) [] l.length (Nat.le_refl _)).2
theorem toEnd_set (o : Bool) (p : Nat) (hp : p ≤ 100) (l : List (El 3)) (h : errS 3 0 l = 0) (m : Nat) (hm : 2 ≤ m) (r : By) (K : Nat) (hK : l.length ≤ K) :
    toEnd (elP (m + 1) 3) K (wrS o p 3 l ++ r) = (toEnd (elP (m + 1) 3) (K - l.length) r).map (l ++ ·) :=
  (toEnd_wrS o p (by omega) 2 0 (by omega) l h (fun _ => Nat.lt_of_le_of_lt (Nat.le_trans (wrS_bound o p 3 0 l h) (bnd_3 p hp)) (by decide)) m hm r K hK).1
/-- It comes back. -/
theorem way_back (o : Bool) (p : Nat) (hp : p ≤ 100) (L : List Int) : parse 3 (wrS o p 3 (setX L)) = some (setX L) := by
  have hl := setX_len o p L
  have := toEnd_set o p hp (setX L) (setX_ok L) (wrS o p 3 (setX L)).length (by omega) [] (wrS o p 3 (setX L)).length (set_le o p hp _ (setX_ok L))
  rw [List.append_nil, toEnd_nil] at this
  unfold parse
  rw [this]
  simp
/-- With a byte more it is none. -/
theorem way_more (o : Bool) (p : Nat) (hp : p ≤ 100) (L : List Int) : parse 3 (wrS o p 3 (setX L) ++ [0]) = none := by
  have hl := setX_len o p L
  have hle := set_le o p hp _ (setX_ok L)
  unfold parse
  rw [List.length_append, List.length_singleton]
  have := toEnd_set o p hp (setX L) (setX_ok L) ((wrS o p 3 (setX L)).length + 1) (by omega) [0] ((wrS o p 3 (setX L)).length + 1) (by omega)
  rw [this]
  obtain ⟨k, hk⟩ : ∃ k, (wrS o p 3 (setX L)).length + 1 - (setX L).length = k + 1 := ⟨(wrS o p 3 (setX L)).length - (setX L).length, by omega⟩
  rw [hk]
  rfl
/-- With a byte less it is none. -/
theorem way_less (o : Bool) (p : Nat) (hp : p ≤ 100) (L : List Int) : parse 3 ((wrS o p 3 (setX L)).take ((wrS o p 3 (setX L)).length - 1)) = none := by
  have hl := setX_len o p L
  have hle := set_le o p hp _ (setX0_ok L)
  have e : (wrS o p 3 (setX L)).take ((wrS o p 3 (setX L)).length - 1) = wrS o p 3 (sm 2 L) ++ (wrS o p 3 [lastE]).take (11 + 2 * p) := by
    have eapp : wrS o p 3 (sm 2 L ++ [lastE]) = wrS o p 3 (sm 2 L) ++ wrS o p 3 [lastE] := wrS_app o p 2 _ _
    rw [hl, setX, eapp, List.take_append, List.take_of_length_le (by omega)]
    congr 2
    omega
  have hlen : ((wrS o p 3 [lastE]).take (11 + 2 * p)).length = 11 + 2 * p := by rw [List.length_take, last_len]; omega
  rw [e]
  unfold parse
  rw [List.length_append, hlen]
  have := toEnd_set o p hp (sm 2 L) (setX0_ok L) ((wrS o p 3 (sm 2 L)).length + (11 + 2 * p)) (by omega) ((wrS o p 3 [lastE]).take (11 + 2 * p)) ((wrS o p 3 (sm 2 L)).length + (11 + 2 * p)) (by omega)
  rw [this]
  obtain ⟨k, hk⟩ : ∃ k, (wrS o p 3 (sm 2 L)).length + (11 + 2 * p) - (sm 2 L).length = k + 1 := ⟨(wrS o p 3 (sm 2 L)).length + (10 + 2 * p) - (sm 2 L).length, by omega⟩
  rw [hk]
  have hv : (wrV p [85, 73] [49, 46, 50]).length = 4 + 2 * p := by rw [wrV_len]; simp; omega
  have hcut : (wrS o p 3 [lastE]).take (11 + 2 * p) = wrT 4294967295 ++ ([85, 73] ++ (lows 2 (4 + 2 * p) ++ (wrV p [85, 73] [49, 46, 50]).take (3 + 2 * p))) := by
    have ht : (wrT 4294967295).length = 4 := by simp [wrT, lows_length]
    rw [wrS_last, hv, List.take_append, List.take_of_length_le (by omega), List.take_append, List.take_of_length_le (by simp [ht]; omega), List.take_append, List.take_of_length_le (by simp [ht, lows_length]; omega)]
    simp only [ht, lows_length, List.length_cons, List.length_nil]
    congr 4
    omega
  rw [hcut, toEnd, if_neg (by simp [wrT, lows]), tg_wrT _ _ (by decide) (by decide)]
  simp only []
  have hel : elP ((wrS o p 3 (sm 2 L)).length + (11 + 2 * p) + 1) 3 (4294967295 : Int).toNat ([85, 73] ++ (lows 2 (4 + 2 * p) ++ (wrV p [85, 73] [49, 46, 50]).take (3 + 2 * p))) = none := by
    rw [elP, if_neg (by decide), tk_app [85, 73] _ 2 rfl]
    simp only []
    rw [if_neg (by decide), va, nu_lows 2 (4 + 2 * p) _ (by have : (256 : Nat) ^ 2 = 65536 := rfl; omega)]
    simp only []
    rw [if_pos (by omega), tk, if_neg (by rw [List.length_take, hv]; omega)]
  rw [hel]
  rfl
end Go.Proofs.YtaokifbpakbgdaaDoor

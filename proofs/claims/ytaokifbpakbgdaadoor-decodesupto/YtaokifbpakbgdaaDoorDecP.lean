/-
  What is right is small, and what was read is no more than the bytes (no program).
-/
import Derived.Test.YtaokifbpakbgdaaDoorBk2
import Derived.Test.YtaokifbpakbgdaaDoorKeep2
import Derived.Test.YtaokifbpakbgdaaDoorPlace
namespace Go.Proofs.YtaokifbpakbgdaaDoor
open Go.RowKit

def bbd : Nat → Nat
  | 0 => 24
  | n + 1 => 1 + 24 * (70 + 8 * (1 + bbd n))
theorem sum_le_mul {α : Type} {f : α → Nat} (c : Nat) : ∀ {l : List α}, (∀ x ∈ l, f x ≤ c) → (l.map f).sum ≤ l.length * c
  | [], _ => by simp
  | y :: l, h => by
    rw [List.map_cons, List.sum_cons, List.length_cons, Nat.succ_mul]
    have := sum_le_mul c (l := l) (fun x hx => h x (List.mem_cons_of_mem _ hx))
    have := h y List.mem_cons_self
    omega
theorem errS_all : ∀ (n d : Nat) (l : List (El n)), errS n d l = 0 → d ≤ 2 → 3 ≤ n + d → Full n l ∧ Sz n l ∧ blk n l ≤ bbd n
  | 0, d, l, _, hd, h3 => by omega
  | n + 1, d, l, he, hd, h3 => by
    rw [errS] at he
    by_cases h24 : 24 < l.length
    · rw [if_pos h24] at he; cases he
    rw [if_neg h24] at he
    have hels := errL_mem he
    have key : ∀ x ∈ l, (∀ s ∈ x.2.2.2, Full n s ∧ Sz n s ∧ blk n s ≤ bbd n) ∧ x.2.2.2.length ≤ 8 ∧ x.2.1.length = 2 ∧ x.2.2.1.length ≤ 64 := fun x hx => by
      obtain ⟨b, hb⟩ := hels x hx
      obtain ⟨e1, e2, e3, e4, e5, e6, e7, e8, e9, e10, e11, e12⟩ := errE_ok hb
      refine ⟨fun s hs => ?_, e10, isK_length e1, e6⟩
      by_cases hq : x.2.1 = SQ
      · exact errS_all n (d + 1) s (errI_mem e12 s hs) (by have := e11 hq; omega) (by omega)
      · rw [e9 hq] at hs
        exact nomatch hs
    refine ⟨fun x hx s hs => ((key x hx).1 s hs).1, ⟨by omega, fun x hx => ⟨(key x hx).2.1, fun s hs => ((key x hx).1 s hs).2.1⟩⟩, ?_⟩
    rw [blk_succ, bbd]
    have h1 := sum_le_mul (f := blkE (blk n)) (70 + 8 * (1 + bbd n)) (l := l) (fun x hx => by
      obtain ⟨k1, k2, k3, k4⟩ := key x hx
      have h2 := sum_le_mul (f := fun s => 1 + blk n s) (1 + bbd n) (l := x.2.2.2) (fun s hs => by have := (k1 s hs).2.2; omega)
      have h3 : x.2.2.2.length * (1 + bbd n) ≤ 8 * (1 + bbd n) := Nat.mul_le_mul_right _ k2
      unfold blkE
      omega)
    have h2 : l.length * (70 + 8 * (1 + bbd n)) ≤ 24 * (70 + 8 * (1 + bbd n)) := Nat.mul_le_mul_right _ (by omega)
    omega
/-- What was read is no more than the bytes. -/
def WE {α : Type} (f : Nat → By → Option (α × By)) (g : α → Nat) : Prop := ∀ t s x r, f t s = some (x, r) → g x + r.length ≤ s.length
theorem toEnd_we {α : Type} {f : Nat → By → Option (α × By)} {g : α → Nat} (hf : WE f g) : ∀ (k : Nat) (s : By) (l : List α), toEnd f k s = some l → (l.map g).sum ≤ s.length
  | 0, s, l, h => by
    rw [toEnd] at h
    split at h
    · cases h; simp
    · cases h
  | k + 1, s, l, h => by
    rw [toEnd] at h
    split at h
    · cases h; simp
    · split at h
      · cases h
      · rename_i t r1 e1
        have h1 := tg_len e1
        split at h
        · cases h
        · rename_i x r2 e2
          have h2 := hf _ _ _ _ e2
          split at h
          · cases h
          · rename_i l3 e3
            have h3 := toEnd_we hf k _ _ e3
            cases h
            rw [List.map_cons, List.sum_cons]
            omega
theorem toMark_we {α : Type} {M : Nat} {f : Nat → By → Option (α × By)} {g : α → Nat} (hf : WE f g) : ∀ (k : Nat) (s : By) (l : List α) (r : By), toMark M f k s = some (l, r) → (l.map g).sum + r.length ≤ s.length
  | 0, s, l, r, h => by cases h
  | k + 1, s, l, r, h => by
    rw [toMark] at h
    split at h
    · cases h
    · rename_i t r1 e1
      have h1 := tg_len e1
      split at h
      · split at h
        · cases h
        · rename_i r2 e2
          have h2 := ze_len e2
          cases h
          simp; omega
      · split at h
        · cases h
        · rename_i x r2 e2
          have h2 := hf _ _ _ _ e2
          split at h
          · cases h
          · rename_i l3 r3 e3
            have h3 := toMark_we hf k _ _ _ e3
            cases h
            rw [List.map_cons, List.sum_cons]
            omega
theorem lg_we {α : Type} {M : Nat} {f : Nat → By → Option (α × By)} {g : α → Nat} (hf : WE f g) {s r : By} {l : List α} (h : lg M f s = some (l, r)) : (l.map g).sum + r.length + 4 ≤ s.length := by
  unfold lg at h
  split at h
  · cases h
  · rename_i k r1 e1
    have h1 := nu_len e1
    split at h
    · have := toMark_we hf _ _ _ _ h
      omega
    · split at h
      · cases h
      · rename_i a r2 e2
        have h2 := tk_len e2
        split at h
        · cases h
        · rename_i l3 e3
          have h3 := toEnd_we hf _ _ _ e3
          cases h
          omega
theorem itP_we {α : Type} {f : Nat → By → Option (α × By)} {g : α → Nat} (hf : WE f g) : WE (itP f) (fun l => 1 + (l.map g).sum) := by
  intro t s x r h
  unfold itP at h
  split at h
  · have := lg_we hf h
    show 1 + (x.map g).sum + r.length ≤ s.length
    omega
  · cases h
def wE : (n : Nat) → El n → Nat
  | 0, _ => 0
  | n + 1, x => cntE (cnt n) x
theorem cnt_wE (n : Nat) (l : List (El n)) : cnt n l ≤ 1 + (l.map (wE n)).sum := by
  cases n with
  | zero => exact Nat.zero_le _
  | succ n => exact Nat.le_refl _
theorem sum_mono {α : Type} {f g : α → Nat} (h : ∀ x, f x ≤ g x) : ∀ l : List α, (l.map f).sum ≤ (l.map g).sum
  | [] => Nat.le_refl _
  | x :: l => by
    rw [List.map_cons, List.map_cons, List.sum_cons, List.sum_cons]
    have := sum_mono h l
    have := h x
    omega
theorem wE_mk (n : Nat) (t : Int) (k v : By) (its : Its (n - 1)) : wE n (mkE n t k v its) ≤ 1 + (its.map (fun l => 1 + (l.map (wE (n - 1))).sum)).sum := by
  cases n with
  | zero => exact Nat.zero_le _
  | succ n =>
    show 1 + (its.map (cnt n)).sum ≤ _
    have := sum_mono (fun s => cnt_wE n s) its
    exact Nat.add_le_add_left this 1
theorem elP_we : ∀ (m n : Nat), WE (elP m n) (wE n)
  | 0, n => by intro t s x r h; cases h
  | m + 1, n => by
    intro t s x r h
    rw [elP] at h
    split at h
    · cases h
    · split at h
      · cases h
      · rename_i k r1 e1
        have h1 := tk_len e1
        split at h
        · split at h
          · cases h
          · rename_i r2 e2
            have h2 := ze_len e2
            split at h
            · cases h
            · rename_i its r3 e3
              have h3 := lg_we (itP_we (elP_we m (n - 1))) e3
              cases h
              have := wE_mk n t k [] its
              omega
        · split at h
          · cases h
          · rename_i v r2 e2
            have h2 := va_len e2
            cases h
            have := wE_mk n t k v []
            simp at this
            omega
theorem parse_cnt {n : Nat} {s : By} {l : List (El n)} (h : parse n s = some l) : cnt n l ≤ 1 + s.length := by
  have h1 := toEnd_we (elP_we (s.length + 1) n) _ _ _ h
  have h2 := cnt_wE n l
  omega
/-- The data set that Decode answers. -/
def decL (n : Nat) (s : By) : List (El n) := if decE n s = 0 then (parse n s).getD [] else []
theorem DecEnd.out {n : Nat} {w : World} {s : By} {e : Ending} {w' : World} (h : DecEnd n w s e w') : Below w.heap.size w w' ∧ ∃ v bl, e = .returned (.tuple #[v, .int .i64 (decE n s)]) ∧ Ow w' n v (decL n s) bl ∧ New w w' bl := by
  obtain ⟨h1, ⟨h2, h3⟩ | ⟨h2, l, v, bl, h3, _, h5, h6, h7⟩⟩ := h
  · refine ⟨h1, .slice none 0 0, [], h3, ?_, New.nil _ _⟩
    rw [decL, if_neg h2]
    exact Ow.nil _ _
  · refine ⟨h1, v, bl, by rw [h5, h2], ?_, h7⟩
    rw [decL, if_pos h2, h3]
    exact h6
theorem decL_ok (s : By) : Full 3 (decL 3 s) ∧ Sz 3 (decL 3 s) ∧ blk 3 (decL 3 s) ≤ 1099511627776 ∧ cnt 3 (decL 3 s) ≤ 16385 := by
  by_cases h : decE 3 s = 0
  · have h' := h
    unfold decE at h'
    split at h'
    · cases h'
    · rename_i hs
      split at h'
      · cases h'
      · rename_i l hp
        have e : decL 3 s = l := by rw [decL, if_pos h, hp]; rfl
        rw [e]
        obtain ⟨a, b, c⟩ := errS_all 3 0 l h' (by decide) (by decide)
        have := parse_cnt hp
        exact ⟨a, b, Nat.le_trans c (by decide), by omega⟩
  · rw [decL, if_neg h]
    exact ⟨(fun x hx => nomatch hx), ⟨by decide, (fun x hx => nomatch hx)⟩, by decide, by decide⟩
end Go.Proofs.YtaokifbpakbgdaaDoor

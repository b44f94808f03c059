/-
  What follows for a data set in which nothing is wrong (no program).
-/
import Derived.Test.YtaokifbpakbgdaaGreatDoorArP
namespace Go.Proofs.YtaokifbpakbgdaaGreatDoor

theorem errE_props {n : Nat} {g : Its n → Int} {d : Nat} {b : Int} {x : El (n + 1)} (h : errE g d b x = 0) :
    isK x.2.1 = true ∧ (0 ≤ x.1 ∧ x.1 ≤ 4294967295 ∧ b < x.1) ∧ x.2.2.1.length ≤ 64 ∧ (x.2.1 ≠ SQ → x.2.2.2 = []) ∧ (x.2.1 = SQ → x.2.2.1 = []) ∧ x.2.2.2.length ≤ 8 ∧ g x.2.2.2 = 0 := by
  unfold errE at h
  by_cases h1 : isK x.2.1 = false
  · rw [if_pos h1] at h; cases h
  rw [if_neg h1] at h
  by_cases h2 : x.1 < 0 ∨ 4294967295 < x.1 ∨ x.1 / 65536 = 65534 ∨ x.1 ≤ b
  · rw [if_pos h2] at h; cases h
  rw [if_neg h2] at h
  by_cases h3 : 64 < x.2.2.1.length ∨ x.2.2.1.getLast? = some (padB x.2.1)
  · rw [if_pos h3] at h; cases h
  rw [if_neg h3] at h
  by_cases h4 : (x.2.1 = SQ ∧ x.2.2.1 ≠ []) ∨ (x.2.1 ≠ SQ ∧ x.2.2.2 ≠ [])
  · rw [if_pos h4] at h; cases h
  rw [if_neg h4] at h
  by_cases h5 : 8 < x.2.2.2.length
  · rw [if_pos h5] at h; cases h
  rw [if_neg h5] at h
  by_cases h6 : x.2.1 = SQ ∧ 2 ≤ d
  · rw [if_pos h6] at h; cases h
  rw [if_neg h6] at h
  refine ⟨by simpa using h1, ⟨by omega, by omega, by omega⟩, ?_, fun e => ?_, fun e => ?_, by omega, h⟩
  · have : ¬ 64 < x.2.2.1.length := fun h => h3 (Or.inl h)
    omega
  · exact Decidable.byContradiction fun c => h4 (Or.inr ⟨e, c⟩)
  · exact Decidable.byContradiction fun c => h4 (Or.inl ⟨e, c⟩)
theorem errL_props {n : Nat} {g : Its n → Int} {d : Nat} : ∀ {l : List (El (n + 1))} {b : Int}, errL (errE g d) (fun x => x.1) b l = 0 → (∀ x ∈ l, b < x.1 ∧ ∃ b', errE g d b' x = 0) ∧ l.Pairwise (fun x y => x.1 < y.1)
  | [], _, _ => ⟨(fun x hx => nomatch hx), List.Pairwise.nil⟩
  | x :: l, b, h => by
    rw [errL] at h
    by_cases he : errE g d b x = 0
    · rw [if_pos he] at h
      obtain ⟨h1, h2⟩ := errL_props h
      have h3 := (errE_props he).2.1.2.2
      refine ⟨fun y hy => ?_, List.pairwise_cons.2 ⟨fun y hy => (h1 y hy).1, h2⟩⟩
      rcases List.mem_cons.1 hy with rfl | hy
      · exact ⟨h3, b, he⟩
      · exact ⟨by have := (h1 y hy).1; omega, (h1 y hy).2⟩
    · rw [if_neg he] at h
      exact absurd h he
theorem errI_props {α : Type} {f : List α → Int} : ∀ {l : List (List α)}, errI f l = 0 → ∀ s ∈ l, f s = 0
  | [], _, s, hs => nomatch hs
  | t :: l, h, s, hs => by
    rw [errI] at h
    by_cases he : f t = 0
    · rw [if_pos he] at h
      rcases List.mem_cons.1 hs with rfl | hs
      · exact he
      · exact errI_props h s hs
    · rw [if_neg he] at h
      exact absurd h he
theorem errS_props {n d : Nat} {l : List (El (n + 1))} (h : errS (n + 1) d l = 0) : l.length ≤ 24 ∧ l.Pairwise (fun x y => x.1 < y.1) ∧ ∀ x ∈ l, isK x.2.1 = true ∧ (0 ≤ x.1 ∧ x.1 ≤ 4294967295) ∧ x.2.2.1.length ≤ 64 ∧ (x.2.1 ≠ SQ → x.2.2.2 = []) ∧ (x.2.1 = SQ → x.2.2.1 = []) ∧ x.2.2.2.length ≤ 8 ∧ ∀ s ∈ x.2.2.2, errS n (d + 1) s = 0 := by
  rw [errS] at h
  by_cases h1 : 24 < l.length
  · rw [if_pos h1] at h; cases h
  rw [if_neg h1] at h
  obtain ⟨h2, h3⟩ := errL_props h
  refine ⟨by omega, h3, fun x hx => ?_⟩
  obtain ⟨_, b', he⟩ := h2 x hx
  obtain ⟨p1, p2, p3, p4, p5, p6, p7⟩ := errE_props he
  exact ⟨p1, ⟨p2.1, p2.2.1⟩, p3, p4, p5, p6, errI_props p7⟩
/-- What is asked of a data set that is looked at as a description. -/
def Sane {n : Nat} (l : List (El (n + 2))) : Prop := l.length ≤ 24 ∧ ∀ x ∈ l, x.2.2.1.length ≤ 64 ∧ x.2.2.2.length ≤ 8 ∧ ∀ s ∈ x.2.2.2, s.length ≤ 24 ∧ ∀ y ∈ s, y.2.2.1.length ≤ 64
theorem sane_of {n d : Nat} {l : List (El (n + 2))} (h : errS (n + 2) d l = 0) : Sane l := by
  obtain ⟨h1, _, h2⟩ := errS_props (n := n + 1) h
  refine ⟨h1, fun x hx => ?_⟩
  obtain ⟨_, _, p3, _, _, p6, p7⟩ := h2 x hx
  refine ⟨p3, p6, fun s hs => ?_⟩
  obtain ⟨q1, _, q2⟩ := errS_props (n := n) (p7 s hs)
  exact ⟨q1, fun y hy => (q2 y hy).2.2.1⟩
end Go.Proofs.YtaokifbpakbgdaaGreatDoor

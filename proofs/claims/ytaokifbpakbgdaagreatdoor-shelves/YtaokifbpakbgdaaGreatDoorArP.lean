/-
  An archive as a list of data sets, the one that was laid in last at its end: the kinds of the tags, names, what is wrong with a description, what is laid in, taken out and counted (no program).
-/
import Derived.Test.YtaokifbpakbgdaaGreatDoorTree
import Derived.Test.YtaokifbpakbgdaaGreatDoorText
namespace Go.Proofs.YtaokifbpakbgdaaGreatDoor

abbrev LO : By := [76, 79]
def findE {n : Nat} (l : List (El (n + 1))) (t : Int) : Option (El (n + 1)) := l.find? (fun x => decide (x.1 = t))
def textE {n : Nat} (l : List (El (n + 1))) (t : Int) : By := match findE l t with
  | some x => x.2.2.1
  | none => []
/-- The kind of a tag of the table; empty: it is none. -/
def kindT (t : Int) : By :=
  if t = 524312 ∨ t = 2097165 ∨ t = 2097166 then [85, 73]
  else if t = 524320 ∨ t = 1048624 then [68, 65]
  else if t = 524336 then [84, 77]
  else if t = 524368 ∨ t = 1048608 then [76, 79]
  else if t = 524370 ∨ t = 524384 then [67, 83]
  else if t = 1048592 then [80, 78]
  else if t = 2097169 ∨ t = 2097171 ∨ t = 2101760 ∨ t = 2101766 ∨ t = 2101769 then [73, 83]
  else if t = 533016 then [83, 81]
  else []
def isWord (t : Int) : Bool := t == 524544 || t == 524548
def isKept (t : Int) : Bool := if t = 524370 ∨ t = 2101760 ∨ t = 2101766 ∨ t = 2101769 then false else decide (kindT t ≠ [])
/-- Word and Meaning in items: is something wrong with the kinds, and with the values? -/
def badY {n : Nat} (v : Bool) (y : El (n + 1)) : Bool := isWord y.1 && (decide (y.2.1 ≠ LO) || (v && decide (chk LO y.2.2.1 ≠ 0)))
def badI {n : Nat} (v : Bool) (its : Its (n + 1)) : Bool := its.any (fun s => s.any (badY v))
def bad1 {n : Nat} (x : El (n + 2)) : Bool := decide (kindT x.1 ≠ []) && (decide (x.2.1 ≠ kindT x.1) || badI false x.2.2.2)
def bad2 {n : Nat} (x : El (n + 2)) : Bool := decide (kindT x.1 ≠ []) && (if kindT x.1 = SQ then badI true x.2.2.2 else decide (chk (kindT x.1) x.2.2.1 ≠ 0))
/-- The tags of the names; the name of a level. -/
def nameT (i : Nat) : Int := if i = 0 then 1048608 else if i = 1 then 2097165 else if i = 2 then 2097166 else 524312
def nm {n : Nat} (i : Nat) (l : List (El (n + 1))) : By := textE l (nameT i)
/-- What is wrong with a description. -/
def desE {n : Nat} (l : List (El (n + 2))) : Int := if l.any bad1 then 2 else if l.any bad2 then 6 else if nm 0 l = [] ∨ nm 1 l = [] ∨ nm 2 l = [] ∨ nm 3 l = [] then 7 else 0
/-- The descriptions without that of a picture. -/
def outA {n : Nat} (A : List (List (El (n + 1)))) (s : By) : List (List (El (n + 1))) := A.filter (fun o => decide (nm 3 o ≠ s))
def clash {n : Nat} (l o : List (El (n + 1))) : Bool := (decide (nm 2 o = nm 2 l) && decide (nm 1 o ≠ nm 1 l)) || (decide (nm 1 o = nm 1 l) && decide (nm 0 o ≠ nm 0 l))
/-- What laying in answers, and what lies there behind it. -/
def layE {n : Nat} (A : List (List (El (n + 2)))) (l : List (El (n + 2))) : Int := if desE l ≠ 0 then desE l else if (outA A (nm 3 l)).any (clash l) then 8 else if 48 ≤ (outA A (nm 3 l)).length then 9 else 0
def layA {n : Nat} (A : List (List (El (n + 2)))) (l : List (El (n + 2))) : List (List (El (n + 2))) := if layE A l = 0 then outA A (nm 3 l) ++ [l] else A
/-- The names of a level, each once. -/
def seenA {n : Nat} (i : Nat) : List (List (El (n + 1))) → List By → List By
  | [], s => s
  | o :: A, s => seenA i A (if s.contains (nm i o) then s else s ++ [nm i o])
def cntA {n : Nat} (A : List (List (El (n + 1)))) (i : Nat) : Nat := (seenA i A []).length
theorem seenA_nodup {n : Nat} (i : Nat) : ∀ (A : List (List (El (n + 1)))) (s : List By), s.Nodup → (seenA i A s).Nodup
  | [], s, h => h
  | o :: A, s, h => by
    rw [seenA]
    refine seenA_nodup i A _ ?_
    by_cases hc : s.contains (nm i o) = true
    · rw [if_pos hc]; exact h
    · rw [if_neg hc]
      refine List.nodup_append.2 ⟨h, List.nodup_cons.2 ⟨by simp, List.nodup_nil⟩, fun a ha b hb e => ?_⟩
      simp only [List.mem_singleton] at hb
      subst hb
      subst e
      exact hc (by simpa using ha)
theorem seenA_mem {n : Nat} (i : Nat) (x : By) : ∀ (A : List (List (El (n + 1)))) (s : List By), x ∈ seenA i A s ↔ x ∈ s ∨ ∃ o ∈ A, nm i o = x
  | [], s => by simp [seenA]
  | o :: A, s => by
    rw [seenA, seenA_mem i x A]
    by_cases hc : s.contains (nm i o) = true
    · rw [if_pos hc]
      constructor
      · rintro (h | ⟨p, hp, e⟩)
        · exact Or.inl h
        · exact Or.inr ⟨p, List.mem_cons_of_mem _ hp, e⟩
      · rintro (h | ⟨p, hp, e⟩)
        · exact Or.inl h
        · rcases List.mem_cons.1 hp with rfl | hp
          · exact Or.inl (by rw [← e]; simpa using hc)
          · exact Or.inr ⟨p, hp, e⟩
    · rw [if_neg hc]
      constructor
      · rintro (h | ⟨p, hp, e⟩)
        · rcases List.mem_append.1 h with h | h
          · exact Or.inl h
          · exact Or.inr ⟨o, List.mem_cons_self, (List.mem_singleton.1 h).symm⟩
        · exact Or.inr ⟨p, List.mem_cons_of_mem _ hp, e⟩
      · rintro (h | ⟨p, hp, e⟩)
        · exact Or.inl (List.mem_append_left _ h)
        · rcases List.mem_cons.1 hp with rfl | hp
          · exact Or.inl (List.mem_append_right _ (List.mem_singleton.2 e.symm))
          · exact Or.inr ⟨p, hp, e⟩
end Go.Proofs.YtaokifbpakbgdaaGreatDoor

/-
  Data sets that are known down to their leaves, how much there is of them, and how long their bytes are (no program).
-/
import Derived.Test.YtaokifbpakbgdaaDoorRound
namespace Go.Proofs.YtaokifbpakbgdaaDoor

/-- The whole tree is known. -/
def Full : (n : Nat) → List (El n) → Prop
  | 0, _ => False
  | n + 1, l => ∀ x ∈ l, ∀ s ∈ x.2.2.2, Full n s
/-- How much there is of an element, of a list. -/
def blkE {n : Nat} (f : List (El n) → Nat) (x : El (n + 1)) : Nat := 4 + x.2.1.length + x.2.2.1.length + (x.2.2.2.map (fun s => 1 + f s)).sum
def blk : (n : Nat) → List (El n) → Nat
  | 0, l => l.length
  | n + 1, l => 1 + (l.map (blkE (blk n))).sum
theorem blk_succ (n : Nat) (l : List (El (n + 1))) : blk (n + 1) l = 1 + (l.map (blkE (blk n))).sum := rfl
theorem sum_mem {α : Type} {f : α → Nat} : ∀ {l : List α} {x : α}, x ∈ l → f x ≤ (l.map f).sum
  | y :: l, x, h => by
    rw [List.map_cons, List.sum_cons]
    rcases List.mem_cons.1 h with rfl | h
    · omega
    · have := sum_mem (f := f) h; omega
theorem sum_len {α : Type} {f : α → Nat} (k : Nat) : ∀ {l : List α}, (∀ x ∈ l, k ≤ f x) → k * l.length ≤ (l.map f).sum
  | [], _ => by simp
  | y :: l, h => by
    rw [List.map_cons, List.sum_cons, List.length_cons, Nat.mul_succ]
    have := sum_len k (l := l) (fun x hx => h x (List.mem_cons_of_mem _ hx))
    have := h y List.mem_cons_self
    omega
theorem sum_take {α : Type} (f : α → Nat) (l : List α) (k : Nat) (hk : k < l.length) : ((l.take (k + 1)).map f).sum = ((l.take k).map f).sum + f l[k] := by
  rw [List.take_succ_eq_append_getElem hk, List.map_append, List.sum_append]; simp
theorem sum_take_le {α : Type} (f : α → Nat) (l : List α) (k : Nat) : ((l.take k).map f).sum ≤ (l.map f).sum := by
  have : (l.map f).sum = ((l.take k).map f).sum + ((l.drop k).map f).sum := by rw [← List.sum_append, ← List.map_append, List.take_append_drop]
  omega
theorem blkE_pos {n : Nat} (f : List (El n) → Nat) (x : El (n + 1)) : 4 ≤ blkE f x := by unfold blkE; omega
theorem blk_len : ∀ (n : Nat) (l : List (El n)), l.length ≤ blk n l
  | 0, l => Nat.le_refl _
  | n + 1, l => by
    have := sum_len (f := blkE (blk n)) 4 (l := l) (fun x _ => blkE_pos _ x)
    rw [blk_succ]; omega
theorem blk_el {n : Nat} {l : List (El (n + 1))} {x : El (n + 1)} (h : x ∈ l) : blkE (blk n) x ≤ blk (n + 1) l := by
  have := sum_mem (f := blkE (blk n)) h
  rw [blk_succ]; omega
theorem blkE_its {n : Nat} (f : List (El n) → Nat) (x : El (n + 1)) : x.2.2.2.length ≤ blkE f x := by
  have := sum_len (f := fun s => 1 + f s) 1 (l := x.2.2.2) (fun s _ => by omega)
  unfold blkE; omega
theorem blkE_it {n : Nat} {f : List (El n) → Nat} {x : El (n + 1)} {s : List (El n)} (h : s ∈ x.2.2.2) : f s ≤ blkE f x := by
  have : 1 + f s ≤ (x.2.2.2.map (fun s => 1 + f s)).sum := sum_mem (f := fun s => 1 + f s) h
  unfold blkE; omega
theorem sum_le_len {α : Type} {f : α → By} {g : α → Nat} (c : Nat) : ∀ {l : List α}, (∀ x ∈ l, (f x).length ≤ c * g x) → ((l.map f).flatten).length ≤ c * (l.map g).sum
  | [], _ => by simp
  | y :: l, h => by
    rw [List.map_cons, List.map_cons, List.flatten_cons, List.length_append, List.sum_cons, Nat.mul_add]
    have := sum_le_len c (l := l) (fun x hx => h x (List.mem_cons_of_mem _ hx))
    have := h y List.mem_cons_self
    omega
/-- The bytes of a list. -/
theorem wrS_blk : ∀ (n : Nat) (l : List (El n)), (wrS false 0 n l).length ≤ 8 * blk n l
  | 0, l => by simp [wrS]
  | n + 1, l => by
    show ((l.map (wrE (wrS false 0 n) false 0)).flatten).length ≤ _
    have h := sum_le_len (f := wrE (wrS false 0 n) false 0) (g := blkE (blk n)) 8 (l := l) (fun x _ => ?_)
    · rw [blk_succ]; omega
    · obtain ⟨t, k, v, its⟩ := x
      have hi := sum_le_len (f := wrI (wrS false 0 n) false) (g := fun s => 1 + blk n s) 8 (l := its) (fun s _ => by
        have := wrS_blk n s
        have e : (wrI (wrS false 0 n) false s).length = 8 + (wrS false 0 n s).length := by
          unfold wrI sizeB
          simp [lows_length]; omega
        rw [e]; omega)
      have hv : (wrV 0 k v).length ≤ v.length + 1 := by
        unfold wrV
        split <;> simp
      have hq : (wrQ false (List.map (wrI (wrS false 0 n) false) its).flatten).length = 6 + ((List.map (wrI (wrS false 0 n) false) its).flatten).length := by
        unfold wrQ sizeB
        simp [lows_length]; omega
      have ht : (wrT t).length = 4 := by simp [wrT, lows_length]
      show (wrT t ++ k ++ (if k = SQ then wrQ false (List.map (wrI (wrS false 0 n) false) its).flatten else lows 2 (wrV 0 k v).length ++ wrV 0 k v)).length ≤ 8 * (4 + k.length + v.length + (List.map (fun s => 1 + blk n s) its).sum)
      rw [List.length_append, List.length_append, ht]
      split
      · rw [hq]; omega
      · rw [List.length_append, lows_length]; omega
end Go.Proofs.YtaokifbpakbgdaaDoor

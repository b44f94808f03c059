/-
  Package dataset's 'read': what is raised further down ends here.
-/
import Derived.Test.YtaokifbpakbgdaaGreatDoorRec4
namespace Go.Proofs.YtaokifbpakbgdaaGreatDoor
open Go.RowKit

theorem catch_panicking (P Q : Nat) (a b : Value) (u : TypeId) (pv : Value) (older : List PanicEntry) (w : World) (hc : w.cell? ⟨P, 0, none⟩ = some a) (hz : w.frozen? ⟨P, 0, none⟩ = false) (hc' : w.cell? ⟨Q, 0, none⟩ = some b) (hz' : w.frozen? ⟨Q, 0, none⟩ = false) (hne : ¬ P = Q) :
    CallsD Tryz.prog 173 #[ptr P, ptr Q] (.panicking ({ v := .iface u pv, recovered := false } :: older)) w fun e u' w' =>
      e = .returned (.tuple #[]) ∧ u' = .panicking ({ v := .iface u pv, recovered := true } :: older) ∧ w' = (w.setCell ⟨P, 0, none⟩ (.slice none 0 0)).setCell ⟨Q, 0, none⟩ (.int .i64 1) := by
  refine callsD_of_wpS Tryz.func173 rfl fun c₀ cs hu => ?_
  apply wpS_seq
  apply wpS_region
  simp [wpOpsS, go_sem, recoverD, hu, Tryz.ntmps173, Exit.thenS]
  refine wpS_cond (t := true) (by simp [Act.eval, Array.replicate]) ?_
  simp only [if_true]
  apply wpS_region
  simp [wpOpsS, go_sem, hc, hz, hc', hz', bodyPostS, results, Tryz.results173]
theorem catch_idle (p q : Addr) (w : World) :
    CallsD Tryz.prog 173 #[.pointer (some p), .pointer (some q)] .returning w fun e u' w' => e = .returned (.tuple #[]) ∧ u' = .returning ∧ w' = w := by
  refine callsD_of_wpS Tryz.func173 rfl fun c₀ cs hu => ?_
  apply wpS_seq
  apply wpS_region
  simp [wpOpsS, go_sem, recoverD, hu, Tryz.ntmps173, Exit.thenS]
  refine wpS_cond (t := false) (by simp [Act.eval, Array.replicate]) ?_
  simp only [Bool.false_eq_true, if_false]
  refine wpS_of_wp (wp_skip ?_)
  cases c₀
  simp_all [bodyPostS, results, Tryz.results173]
/-- How reading ends. -/
def ReadEnd (n : Nat) (w : World) (o : Option (List (El n))) (e : Ending) (w' : World) : Prop := Below w.heap.size w w' ∧ match o with
  | none => e = .returned (.tuple #[.slice none 0 0, .int .i64 1])
  | some l => ∃ v bl, e = .returned (.tuple #[v, .int .i64 0]) ∧ Ow w' n v l bl ∧ New w w' bl
theorem read_any (w : World) (n : Nat) (s : By) (hs : s.length ≤ 16384) :
    Calls Tryz.prog 108 #[.string (bs s)] w (ReadEnd n w (parse n s)) := by
  have hmf : ∀ (fn : Fn) (first cap : Array Value) (w : World), (Instr.makeFunc fn first cap).run Tryz.prog w = .ok (.func fn first cap) w := fun _ _ _ _ => rfl
  go_enter_defers Tryz.func108, Tryz.ntmps108
  go_wp2_with fail
  go_at_call 174
  have hR := Rdr.new ((w.alloc (.cells #[.slice none 0 0] 59)).alloc (.cells #[.int .i64 0] 22)) s
  have hb : ((w.alloc (.cells #[.slice none 0 0] 59)).alloc (.cells #[.int .i64 0] 22)).heap.size = w.heap.size + 1 + 1 := by simp
  rw [hb] at hR
  have hz3 : (((w.alloc (.cells #[.slice none 0 0] 59)).alloc (.cells #[.int .i64 0] 22)).alloc (.cells #[.string (bs s)] 208)).heap.size = w.heap.size + 1 + 1 + 1 := by simp
  have hl0 : (((w.alloc (.cells #[.slice none 0 0] 59)).alloc (.cells #[.int .i64 0] 22)).alloc (.cells #[.string (bs s)] 208)).heap[w.heap.size]? = some (.cells #[.slice none 0 0] 59 (0, 0)) := by
    rw [Below.heap_alloc _ _ _ (by simp; omega), Below.heap_alloc _ _ _ (by simp)]; exact heap_alloc_new _ _
  have he0 : (((w.alloc (.cells #[.slice none 0 0] 59)).alloc (.cells #[.int .i64 0] 22)).alloc (.cells #[.string (bs s)] 208)).heap[w.heap.size + 1]? = some (.cells #[.int .i64 0] 22 (0, 0)) := by
    rw [Below.heap_alloc _ _ _ (by simp)]
    have := heap_alloc_new (w.alloc (.cells #[.slice none 0 0] 59)) (.cells #[.int .i64 0] 22)
    simpa using this
  have hbel := hid (Below.alloc (Below.alloc (Below.alloc (Below.refl w.heap.size w) (Nat.le_refl _) (.cells #[.slice none 0 0] 59)) (by simp) (.cells #[.int .i64 0] 22)) (by simp; omega) (.cells #[.string (bs s)] 208))
  refine (set_any (s.length + 1) (element_all _) n _ _ s hR hs (by omega)).mono ?_
  generalize ((w.alloc (.cells #[.slice none 0 0] 59)).alloc (.cells #[.int .i64 0] 22)).alloc (.cells #[.string (bs s)] 208) = w3 at hR hl0 he0 hbel hz3 ⊢
  have hpar := hid (show toEnd (elP (s.length + 1) n) s.length s = parse n s from rfl)
  rw [hpar.out]
  cases hp : parse n s with
  | none =>
    rintro e w4 ⟨u4, rfl⟩
    have hl4 := (u4.block (lt_of_block hl0) (by omega)).trans hl0
    have he4 := (u4.block (lt_of_block he0) (by omega)).trans he0
    have c1 := cell_of_one hl4
    have c2 := free_of_one hl4
    have c3 := cell_of_one he4
    have c4 := free_of_one he4
    go_wp2
    refine leaves_cons (f := 173) (args := #[ptr w.heap.size, ptr (w.heap.size + 1)]) (by simp) (by simp [go_sem]) ?_
    refine (catch_panicking w.heap.size (w.heap.size + 1) _ _ _ _ [] w4 c1 c2 c3 c4 (by omega)).mono ?_
    rintro e u' w'' ⟨rfl, rfl, rfl⟩
    simp [Leaves, settle, results, Tryz.results108, go_sem, c1, c3]
    refine ⟨?_, by first | rfl | rw [hp]⟩
    have h1 := hbel.out.trans (u4.below (B := w.heap.size) (by omega) (by omega))
    exact (h1.setCell (Nat.le_refl _) _).setCell (by simp) _
  | some l =>
    rintro e w4 ⟨u4, v, rfl, r4, bl, how, hbl⟩
    have hl4 := (u4.block (lt_of_block hl0) (by omega)).trans hl0
    have he4 := (u4.block (lt_of_block he0) (by omega)).trans he0
    have c1 := cell_of_one hl4
    have c2 := free_of_one hl4
    have c3 := cell_of_one he4
    have c4 := free_of_one he4
    obtain ⟨ad, cap, rfl⟩ := how.slice
    go_wp2
    refine leaves_cons (f := 173) (args := #[ptr w.heap.size, ptr (w.heap.size + 1)]) (by simp) (by simp [go_sem]) ?_
    refine (catch_idle ⟨w.heap.size, 0, none⟩ ⟨w.heap.size + 1, 0, none⟩ _).mono ?_
    rintro e u' w'' ⟨rfl, rfl, rfl⟩
    simp [Leaves, settle, results, Tryz.results108, go_sem, c1, c3]
    have h1 := hbel.out.trans (u4.below (B := w.heap.size) (by omega) (by omega))
    refine ⟨(h1.setCell (Nat.le_refl _) _).setCell (by simp) _, ?_⟩
    try rw [hp]
    refine ⟨_, bl, rfl, how.keep _ _ _ _ (fun j hj => ?_), hbl.1, fun j hj => ?_⟩
    · have := (hbl.2 j hj).1
      rw [Below.heap_setCell _ _ _ _ (by simp; omega), Below.heap_setCell _ _ _ _ (by simp; omega)]
    · have := hbl.2 j hj
      simp
      omega
end Go.Proofs.YtaokifbpakbgdaaGreatDoor

/-
  What the statements' frames share: the listed variables give what the walks ask; an input that fits; the number that a raw number picks.
-/
import Derived.Test.YtaokifbpakbgdaaGreatDoorMatch2
import Derived.Test.YtaokifbpakbgdaaGreatDoorCards
import Derived.Test.YtaokifbpakbgdaaGreatDoorTie
import Derived.ProofKit
import Derived.OpenShut
import Derived.Deep.DeepHandedRow
import Derived.LaidLaws
import Derived.Lay
import Derived.Laws.IdiomStrings
namespace Go.Proofs.YtaokifbpakbgdaaGreatDoor
open Go.ChangeShapes Go.WideShapes Go.ChangeAt Go.RowKit

def vpk (k n : Int) : Int := (if k < 0 then -(k + 1) else k) % n
theorem vpick_any (k n : Int) (w : World) (h1 : -9223372036854775808 ≤ k) (h2 : k ≤ 9223372036854775807) (h3 : 0 < n) (h4 : n ≤ 9223372036854775807) :
    Calls Tryz.prog 24 #[.int .i64 k, .int .i64 n] w fun e w' => e = .returned (.int .i64 (vpk k n)) ∧ w' = w := by
  by_cases h : k < 0
  · have e : Hid (vpk k n = -(k + 1) % n) := by unfold Hid vpk; rw [if_pos h]
    go_enter Tryz.func24, Tryz.ntmps24
    go_wp2
    go_ret
    refine ⟨vret_int ?_, rfl⟩
    rw [e.out, ← Int.neg_tmod, Int.tmod_eq_emod_of_nonneg (by omega)]
  · have e : Hid (vpk k n = k % n) := by unfold Hid vpk; rw [if_neg h]
    go_enter Tryz.func24, Tryz.ntmps24
    go_wp2
    go_ret
    exact ⟨vret_int e.out.symm, rfl⟩
theorem vpk_bd (k n : Int) (h : 0 < n) : 0 ≤ vpk k n ∧ vpk k n < n := ⟨Int.emod_nonneg _ (by omega), Int.emod_lt_of_pos _ h⟩

theorem own : ownKnob Tryz.prog.godebug = none := by kernel_rfl
theorem g_syntax : Tryz.prog.globalNamed "strconv.ErrSyntax" = some 7 := by kernel_rfl
theorem g_range : Tryz.prog.globalNamed "strconv.ErrRange" = some 8 := by kernel_rfl
theorem t_syntax : (Tryz.prog.globals[7]?).map (·.type) = some 165 := by kernel_rfl
theorem t_range : (Tryz.prog.globals[8]?).map (·.type) = some 165 := by kernel_rfl
theorem iface_cell {W : World} {n : String} {g : Nat} {cs : Array Value} {fuel : Nat} {nm : String} {d : DataW Unit} {p : List MemPlace} (hg : Tryz.prog.globalNamed n = some g)
    (hv : W.var? Tryz.prog n = some cs) (hd : DataW.trod (fun _ => ()) Tryz.prog W 0 (fun _ => true) false fuel 165 cs.toList = some (.iface nm d, p)) :
    ∃ ev, W.cell? ⟨g, 0, none⟩ = some ev ∧ (ev = .nilIface ∨ ∃ te pe, ev = .iface te pe) := by
  obtain ⟨l⟩ := cs
  obtain ⟨f1, u, v, rfl, _, _⟩ := iface_of_trod Tryz.underlying165 hd
  exact ⟨.iface u v, by simpa using World.var?_cell hg hv 0, Or.inr ⟨u, v, rfl⟩⟩
/-- THE LISTED VARIABLES, AND THE WORLD's SHAPE: what the walks ask of the library's variables. -/
theorem vars_of {W : World} (h : laidMetH Tryz.prog Rows.knownRow.laid W) (hsh : W.ShapedOpen Tryz.prog) : Vars W := by
  refine ⟨Tryz.laysM145.s1_3 W hsh, ?_, ?_⟩
  · rw [MakeChecks.laidMetH_plain _ _ _ (by kernel_rfl)] at h
    obtain ⟨ps, ⟨_, _, _, _, _, _, _, _, _, _, ⟨_, _, _, _, _, _, _, _, _, _, ⟨_, _, _, _, _, _, _, _, _, _, ⟨_, _, _, _, _, _, _, _, _, _, ⟨_, _, _, _, _, _, _, _, _, _, ⟨g, t, cs, fuel, p, q, hg, ht, hv, hd, _, _⟩, _⟩, _⟩, _⟩, _⟩, _⟩, _, _⟩ := h
    obtain rfl := Option.some.inj (g_syntax.symm.trans hg)
    obtain rfl := Option.some.inj (t_syntax.symm.trans ht)
    exact iface_cell g_syntax hv hd
  · rw [MakeChecks.laidMetH_plain _ _ _ (by kernel_rfl)] at h
    obtain ⟨ps, ⟨_, _, _, _, _, _, _, _, _, _, ⟨_, _, _, _, _, _, _, _, _, _, ⟨_, _, _, _, _, _, _, _, _, _, ⟨_, _, _, _, _, _, _, _, _, _, ⟨g, t, cs, fuel, p, q, hg, ht, hv, hd, _, _⟩, _⟩, _⟩, _⟩, _⟩, _, _⟩ := h
    obtain rfl := Option.some.inj (g_range.symm.trans hg)
    obtain rfl := Option.some.inj (t_range.symm.trans ht)
    exact iface_cell g_range hv hd

/-- THERE IS AN INPUT THAT FITS, at a world in which the listed variables are laid. -/
theorem witness_laid {H : Type} {enc : TypeId × Value → H} {os : Os} {f : FuncId} {fn : Func} {s : OpenSpec} {conds : List PathCond} {apart : Bool} {laid : List (String × DataW Unit)} (w0 : World) (args : Array Value) (hos : w0.os = os)
    (hsh : (w0.forCall (fun _ _ => 0) ⟨#[], args, []⟩).Shaped Tryz.checked.prog)
    (hok : Input.okWideB Tryz.checked.prog (w0.forCall (fun _ _ => 0) ⟨#[], args, []⟩) f ⟨#[], args, []⟩ = true)
    (hrow : s.preRow enc Tryz.checked.prog fn conds apart laid (w0.forCall (fun _ _ => 0) ⟨#[], args, []⟩).memory args) :
    ∃ (w : World) (tape : Tape) (i : Input), w.os = os ∧ (w.forCall tape i).Shaped Tryz.checked.prog ∧ i.vars = [] ∧ Input.okWide Tryz.checked.prog (w.forCall tape i) .any w.heap.size f i ∧
      s.preRow enc Tryz.checked.prog fn conds apart laid (w.forCall tape i).memory i.args ∧ ({} : Assume).holds Tryz.checked.prog (lone (Frame.enter Tryz.checked.prog f i.args .normal) [] (w.forCall tape i)) :=
  ⟨w0, fun _ _ => 0, ⟨#[], args, []⟩, hos, hsh, (Input.okWide_of_okWideB (base := 0) hok).1, (Input.okWide_of_okWideB hok).2, hrow, by
    simp only [Assume.holds]
    exact ⟨by simp, by simp, fun _ => Modest.zero, by simp, by simp⟩⟩
/-- string([]byte{z}): the text of one byte. -/
def oneB (z : Int) : ByteArray := ⟨#[UInt8.ofNat z.toNat]⟩
theorem one_data (z : Int) : (oneB z).data.toList = [UInt8.ofNat z.toNat] := rfl
theorem one_size (z : Int) : (oneB z).size = 1 := rfl
theorem conv_one (w : World) (z : Int) (h0 : 0 ≤ z) (h1 : z ≤ 255) :
    (convert 49 9 (.slice (some ⟨w.heap.size, 0, none⟩) 1 1)).run Tryz.prog (w.alloc (.cells #[.int .u8 z] 5)) = .ok (.string (oneB z)) (w.alloc (.cells #[.int .u8 z] 5)) := by
  refine run_convert_bytes_back (P := Tryz.prog) _ 49 9 5 ⟨w.heap.size, 0, none⟩ 1 [UInt8.ofNat z.toNat] Tryz.underlying49 Tryz.underlying5 Tryz.underlying9 (fun j hj => ?_)
  obtain rfl : j = 0 := by simpa using hj
  have e : (UInt8.ofNat z.toNat).toNat = z.toNat := by rw [UInt8.toNat_ofNat']; omega
  have e2 : ((⟨w.heap.size, 0, none⟩ : Addr).add 0) = ⟨w.heap.size, 0, none⟩ := rfl
  rw [e2, World.cell?_alloc_new]
  simp [e]
  omega
theorem int_bd {k : Int} (wk : (Lit.int .i64 k).wf = true) : -9223372036854775808 ≤ k ∧ k ≤ 9223372036854775807 := by
  simp [Lit.wf] at wk
  exact wk
set_option maxRecDepth 100000 in
theorem laid_met (os : Os) (args : Array Value) : laidMet Tryz.prog Rows.knownRow.laid ((World.laidAll Tryz.prog os Rows.knownRow.laid).forCall (fun _ _ => 0) ⟨#[], args, []⟩).memory :=
  laidMet_laidAll _ (by kernel_rfl) (by kernel_rfl)
set_option maxRecDepth 100000 in
theorem laid_shaped (os : Os) (args : Array Value) : ((World.laidAll Tryz.prog os Rows.knownRow.laid).forCall (fun _ _ => 0) ⟨#[], args, []⟩).Shaped Tryz.checked.prog :=
  World.shaped_of_ZipB (by kernel_rfl) (by kernel_rfl)
end Go.Proofs.YtaokifbpakbgdaaGreatDoor

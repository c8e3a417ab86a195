/-
  A list of numbers that came in, as the row reads it: it lies in memory as 'RawAt' says.
-/
import Derived.Test.YtphjbbbnbmafnabGreatDoorKMade
import Derived.SizedLaws
import Derived.OpenShut
import Derived.ShutString
import Derived.ChangeOld
import Derived.Deep.Slices
namespace Go.Proofs.YtphjbbbnbmafnabGreatDoor.OpenI
open Go.ChangeShapes Go.WideShapes Go.ChangeAt Go.RowKit

theorem own : ownKnob Tryz.prog.godebug = none := by kernel_rfl
theorem laidOut : laidOutB Tryz.prog = true := by kernel_rfl
theorem cellsI : Tryz.prog.cellsOf 3 = 1 := by kernel_rfl
def asInt : Value → Int
  | .int _ n => n
  | _ => 0
theorem addr_add (b off i : Nat) : (⟨b, off, none⟩ : Addr).add i = ⟨b, off + i, none⟩ := by
  by_cases e : i = 0
  · subst e; simp [Addr.add]
  · simp [Addr.add, e]
theorem ints_of {H : Type} {enc : TypeId × Value → H} {W : World} {a0 : Option Addr} {len0 cap0 fuel : Nat} {x : DataW H × List MemPlace} (hf : DataW.trod enc Tryz.prog W 0 (fun _ => true) true fuel 22 [.slice a0 len0 cap0] = some x) :
    ∃ B : Nat → Int, G.RawAt W a0 len0 B := by
  rcases Deep.open_slice1 Tryz.underlying22 cellsI hf with ⟨hcs, _⟩ | ⟨x, l, c, m, n, V, D, Pl, hcs, _, hl, hm, hmm, _, hx⟩
  · simp only [List.cons.injEq, Value.slice.injEq, and_true] at hcs
    obtain ⟨rfl, rfl, rfl⟩ := hcs
    exact ⟨fun _ => 0, .inl rfl, fun i hi => absurd hi (Nat.not_lt_zero _)⟩
  · simp only [List.cons.injEq, Value.slice.injEq, and_true] at hcs
    obtain ⟨rfl, rfl, rfl⟩ := hcs
    simp only [if_true] at hmm
    subst hmm
    refine ⟨fun i => asInt (V i), ?_, ?_⟩
    · by_cases e : len0 = 0
      · exact .inl e
      · obtain ⟨b, off, spot⟩ := x
        have hspot : spot = none := by simpa [Addr.add] using World.cell?_spot (hx 0 (by omega)).1
        subst hspot
        refine .inr ⟨b, off, rfl, fun i hi => ?_⟩
        obtain ⟨hc, ht⟩ := hx i (by omega)
        obtain ⟨y, hy, _⟩ := DataW.trod_int Tryz.underlying3 ht
        have hv : V i = .int .i64 y := by simpa using hy
        rw [hv] at hc
        show W.cell? ⟨b, off + i, none⟩ = some (.int .i64 (asInt (V i)))
        rw [hv]
        rw [addr_add] at hc
        exact hc
    · intro i hi
      obtain ⟨hc, ht⟩ := hx i (by omega)
      obtain ⟨y, hy, _, hwf⟩ := DataW.trod_int Tryz.underlying3 ht
      have hv : V i = .int .i64 y := by simpa using hy
      show -9223372036854775808 ≤ asInt (V i) ∧ asInt (V i) ≤ 9223372036854775807
      rw [hv]
      simpa [asInt, Lit.wf, IntKind.min, IntKind.max, IntKind.signed, IntKind.bits] using hwf
theorem i64_bd {a : Int} (h : Lit.wf (.int .i64 a) = true) : -9223372036854775808 ≤ a ∧ a ≤ 9223372036854775807 := by
  simpa [Lit.wf, IntKind.min, IntKind.max, IntKind.signed, IntKind.bits] using h
end Go.Proofs.YtphjbbbnbmafnabGreatDoor.OpenI

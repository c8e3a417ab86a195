/-
  What '==' of two edges is.
-/
import Derived.Test.YtphjbbbnbmafnaaGreatDoorEdges
import Derived.Deep.RegionHeld
import Derived.Laws.StructEq
import Derived.Laws.Tables
import Derived.Laws.Cover2
namespace Go.Proofs.YtphjbbbnbmafnaaGreatDoor.G
open Go.RowKit

theorem eqE (a b c d e f : Int) (w : World) : (Op.equalIn 10000 38 (.agg #[.int .i64 a, .int .i64 b, .int .i64 c]) (.agg #[.int .i64 d, .int .i64 e, .int .i64 f])).run Tryz.prog w = .ok (decide ((a, b, c) = (d, e, f))) w := by
  have u3 := Tryz.underlying3
  have hS : Tryz.prog.underlying 38 = some (.struct (Tryz.prog.fieldsOf 38)) := by kernel_rfl
  rw [show (10000 : Nat) = 9999 + 1 from rfl, run_equalIn_agg w 9999 38 _ _ hS (by kernel_rfl)]
  simp only [Program.fieldsOf, Tryz.underlying38]
  go_simp
  by_cases h1 : a = d <;> by_cases h2 : b = e <;> by_cases h3 : c = f <;> simp [h1, h2, h3]
theorem eqlE (a b c d e f : Int) (x : Bool) (hx : decide ((a, b, c) = (d, e, f)) = x) (w : World) : (Op.equalIn 10000 38 (.agg #[.int .i64 a, .int .i64 b, .int .i64 c]) (.agg #[.int .i64 d, .int .i64 e, .int .i64 f])).run Tryz.prog w = .ok x w := by
  rw [eqE, hx]
theorem guardE : Tryz.prog.eqGuardType Tryz.prog.depth 38 = false := by kernel_rfl
end Go.Proofs.YtphjbbbnbmafnaaGreatDoor.G

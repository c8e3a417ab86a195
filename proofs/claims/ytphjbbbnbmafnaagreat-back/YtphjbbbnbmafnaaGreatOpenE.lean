/-
  A list of edges that came in, as the row reads it: it lies in memory as the text Edges says, no longer than its room.
-/
import Derived.Test.YtphjbbbnbmafnaaGreatEdges
import Derived.Test.YtphjbbbnbmafnaaGreatRefPages
import Derived.SizedLaws
import Derived.OpenShut
import Derived.ShutString
import Derived.ChangeOld
import Derived.Deep.Slices
namespace Go.Proofs.YtphjbbbnbmafnaaGreat.OpenE
open Go.ChangeShapes Go.WideShapes Go.ChangeAt Go.RowKit

theorem own : ownKnob Tryz.prog.godebug = none := by kernel_rfl
theorem laidOut : laidOutB Tryz.prog = true := by kernel_rfl
theorem cellsE : Tryz.prog.cellsOf 26 = 3 := by kernel_rfl
theorem cellsI : Tryz.prog.cellsOf 3 = 1 := by kernel_rfl
theorem bytesE : Tryz.prog.bytesOf 26 = 24 := by kernel_rfl
theorem some_at {α : Type} {l : List α} {n i : Nat} (h : l.length = n) (hi : i < n) : ∃ y, l[i]? = some y := ⟨l[i]'(by omega), by simp [h, hi]⟩
section
variable {H : Type} {enc : TypeId × Value → H} {w : World} {base : Nat} {spare : Nat → Bool} {held : Bool} {fuel : Nat}
theorem three {cs : List Value} (h : cs.length = 3) : ∃ c0 c1 c2, cs = [c0, c1, c2] := by
  match cs, h with
  | [c0, c1, c2], _ => exact ⟨c0, c1, c2, rfl⟩
theorem edge_ints {cs : List Value} {x : DataW H × List MemPlace} (h : DataW.trod enc Tryz.prog w base spare held fuel 26 cs = some x) : ∃ a0 a1 a2 : Int, cs = [.int .i64 a0, .int .i64 a1, .int .i64 a2] := by
  obtain ⟨xs, n, rfl, rfl, hl, hxl, hf⟩ := DataW.trod_struct Tryz.underlying26 h
  rw [cellsE] at hl
  obtain ⟨c0, c1, c2, rfl⟩ := three hl
  have hxl3 : xs.length = 3 := hxl
  obtain ⟨y0, hy0⟩ := some_at hxl3 (show 0 < 3 by decide)
  obtain ⟨y1, hy1⟩ := some_at hxl3 (show 1 < 3 by decide)
  obtain ⟨y2, hy2⟩ := some_at hxl3 (show 2 < 3 by decide)
  have h0 := (hf 0 { name := "From", type := 3, offset := 0, embedded := false, tag := "", pkgPath := "", byteOffset := 0 } (by simp)).trans hy0
  have h1 := (hf 1 { name := "Label", type := 3, offset := 1, embedded := false, tag := "", pkgPath := "", byteOffset := 8 } (by simp)).trans hy1
  have h2 := (hf 2 { name := "To", type := 3, offset := 2, embedded := false, tag := "", pkgPath := "", byteOffset := 16 } (by simp)).trans hy2
  simp only [cellsI, List.drop_zero, List.drop_succ_cons, List.take_succ_cons, List.take_zero] at h0 h1 h2
  obtain ⟨a0, e0, _⟩ := DataW.trod_int Tryz.underlying3 h0
  obtain ⟨a1, e1, _⟩ := DataW.trod_int Tryz.underlying3 h1
  obtain ⟨a2, e2, _⟩ := DataW.trod_int Tryz.underlying3 h2
  simp only [List.cons.injEq, and_true] at e0 e1 e2
  subst e0 e1 e2
  exact ⟨a0, a1, a2, rfl⟩
end
def asI : Option Value → Int
  | some (.int _ n) => n
  | _ => 0
theorem edges_of {H : Type} {enc : TypeId × Value → H} {W : World} {a0 : Option Addr} {len cap fuel : Nat} {x : DataW H × List MemPlace} (hf : DataW.trod enc Tryz.prog W 0 (fun _ => true) true fuel 27 [.slice a0 len cap] = some x) :
    ∃ l : List G.E3, l.length = len ∧ G.EdgesAt W (.slice a0 len cap) l ∧ len ≤ cap ∧ (len = 0 ∨ ∃ elems spare, x.1 = .slice elems spare ∧ elems.length = len) := by
  rcases Deep.open_slice Tryz.underlying27 hf with ⟨hcs, _⟩ | ⟨a, l, c, m, n, D, Pl, hcs, _, hl, hm, hmm, hd, hx⟩
  · simp only [List.cons.injEq, Value.slice.injEq, and_true] at hcs
    obtain ⟨rfl, rfl, rfl⟩ := hcs
    exact ⟨[], rfl, ⟨none, 0, rfl, fun j e hj => by cases hj⟩, Nat.le_refl _, .inl rfl⟩
  · simp only [List.cons.injEq, Value.slice.injEq, and_true] at hcs
    obtain ⟨rfl, rfl, rfl⟩ := hcs
    simp only [if_true] at hmm
    subst hmm
    refine ⟨(List.range len).map fun i => (asI (W.cell? (a.add (i * 3))), asI (W.cell? ((a.add (i * 3)).add 1)), asI (W.cell? ((a.add (i * 3)).add 2))), by simp, ?_, hl, .inr ⟨_, _, by rw [hd], by simp⟩⟩
    refine ⟨some a, m, by simp, fun j e hj => ?_⟩
    have hjl : j < len := by
      have := (List.getElem?_eq_some_iff.1 hj).1
      simpa using this
    rw [List.getElem?_map, List.getElem?_range hjl] at hj
    simp only [Option.map_some, Option.some.injEq] at hj
    subst hj
    rw [cellsE] at hx
    obtain ⟨cs, h1, h2⟩ := hx j (by omega)
    obtain ⟨_, h4, h5⟩ := World.cells?_some h1
    obtain ⟨b0, b1, b2, rfl⟩ := edge_ints h2
    have k0 := h5 0 (by decide)
    have k1 := h5 1 (by decide)
    have k2 := h5 2 (by decide)
    obtain ⟨b, off, spot⟩ := a
    have hspot : spot = none := by
      obtain ⟨cs0, g1, g2⟩ := hx 0 (by omega)
      obtain ⟨_, g4, g5⟩ := World.cells?_some g1
      obtain ⟨_, _, _, rfl⟩ := edge_ints g2
      have := g5 0 (by decide)
      simpa [Addr.add] using World.cell?_spot this
    subst hspot
    refine ⟨b, off, rfl, ?_⟩
    rw [G.addr_add] at k0 k1 k2
    rw [G.addr_add] at k0 k1 k2
    simp only [G.addr_add]
    simp only [Nat.add_zero] at k0
    rw [k0, k1, k2]
    exact ⟨rfl, rfl, rfl⟩
end Go.Proofs.YtphjbbbnbmafnaaGreat.OpenE

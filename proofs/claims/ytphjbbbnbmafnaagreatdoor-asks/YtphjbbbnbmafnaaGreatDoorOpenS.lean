/-
  A list of edges that came in, as the row reads it: it lies in memory as the text Edges says, no longer than its room.
  A script that came in, and sizes, as the row reads them: they lie as the text Play says.
-/
import Derived.Test.YtphjbbbnbmafnaaGreatDoorEdges
import Derived.Test.YtphjbbbnbmafnaaGreatDoorGBits
import Derived.SizedLaws
import Derived.OpenShut
import Derived.ShutString
import Derived.ChangeOld
import Derived.Deep.Slices
import Derived.Test.YtphjbbbnbmafnaaGreatDoorPlay
import Derived.Lib.SmallJoins
namespace Go.Proofs.YtphjbbbnbmafnaaGreatDoor.OpenE
open Go.ChangeShapes Go.WideShapes Go.ChangeAt Go.RowKit

theorem own : ownKnob Tryz.prog.godebug = none := by kernel_rfl
theorem laidOut : laidOutB Tryz.prog = true := by kernel_rfl
theorem cellsE : Tryz.prog.cellsOf 38 = 3 := by kernel_rfl
theorem cellsI : Tryz.prog.cellsOf 3 = 1 := by kernel_rfl
theorem bytesE : Tryz.prog.bytesOf 38 = 24 := by kernel_rfl
theorem some_at {α : Type} {l : List α} {n i : Nat} (h : l.length = n) (hi : i < n) : ∃ y, l[i]? = some y := ⟨l[i]'(by omega), by simp [h, hi]⟩
section
variable {H : Type} {enc : TypeId × Value → H} {w : World} {base : Nat} {spare : Nat → Bool} {held : Bool} {fuel : Nat}
theorem three {cs : List Value} (h : cs.length = 3) : ∃ c0 c1 c2, cs = [c0, c1, c2] := by
  match cs, h with
  | [c0, c1, c2], _ => exact ⟨c0, c1, c2, rfl⟩
theorem edge_ints {cs : List Value} {x : DataW H × List MemPlace} (h : DataW.trod enc Tryz.prog w base spare held fuel 38 cs = some x) : ∃ a0 a1 a2 : Int, cs = [.int .i64 a0, .int .i64 a1, .int .i64 a2] := by
  obtain ⟨xs, n, rfl, rfl, hl, hxl, hf⟩ := DataW.trod_struct Tryz.underlying38 h
  rw [cellsE] at hl
  obtain ⟨c0, c1, c2, rfl⟩ := three hl
  have hxl3 : xs.length = 3 := hxl
  obtain ⟨y0, hy0⟩ := some_at hxl3 (show 0 < 3 by decide)
  obtain ⟨y1, hy1⟩ := some_at hxl3 (show 1 < 3 by decide)
  obtain ⟨y2, hy2⟩ := some_at hxl3 (show 2 < 3 by decide)
  have h0 := (hf 0 { name := "From", type := 3, offset := 0, embedded := false, tag := "", pkgPath := "", byteOffset := 0 } (by simp)).trans hy0
  have h1 := (hf 1 { name := "Label", type := 3, offset := 1, embedded := false, tag := "", pkgPath := "", byteOffset := 8 } (by simp)).trans hy1
  have h2 := (hf 2 { name := "To", type := 3, offset := 2, embedded := false, tag := "", pkgPath := "", byteOffset := 16 } (by simp)).trans hy2
  simp only [cellsI, List.drop_zero, List.drop_succ_cons, List.take_succ_cons, List.take_zero] at h0 h1 h2
  obtain ⟨a0, e0, _⟩ := DataW.trod_int Tryz.underlying3 h0
  obtain ⟨a1, e1, _⟩ := DataW.trod_int Tryz.underlying3 h1
  obtain ⟨a2, e2, _⟩ := DataW.trod_int Tryz.underlying3 h2
  simp only [List.cons.injEq, and_true] at e0 e1 e2
  subst e0 e1 e2
  exact ⟨a0, a1, a2, rfl⟩
end
def asI : Option Value → Int
  | some (.int _ n) => n
  | _ => 0
theorem edges_of {H : Type} {enc : TypeId × Value → H} {W : World} {a0 : Option Addr} {len cap fuel : Nat} {x : DataW H × List MemPlace} (hf : DataW.trod enc Tryz.prog W 0 (fun _ => true) true fuel 24 [.slice a0 len cap] = some x) :
    ∃ l : List G.E3, l.length = len ∧ G.EdgesAt W (.slice a0 len cap) l ∧ len ≤ cap ∧ (len = 0 ∨ ∃ elems spare, x.1 = .slice elems spare ∧ elems.length = len) := by
  rcases Deep.open_slice Tryz.underlying24 hf with ⟨hcs, _⟩ | ⟨a, l, c, m, n, D, Pl, hcs, _, hl, hm, hmm, hd, hx⟩
  · simp only [List.cons.injEq, Value.slice.injEq, and_true] at hcs
    obtain ⟨rfl, rfl, rfl⟩ := hcs
    exact ⟨[], rfl, ⟨none, 0, rfl, fun j e hj => by cases hj⟩, Nat.le_refl _, .inl rfl⟩
  · simp only [List.cons.injEq, Value.slice.injEq, and_true] at hcs
    obtain ⟨rfl, rfl, rfl⟩ := hcs
    simp only [if_true] at hmm
    subst hmm
    refine ⟨(List.range len).map fun i => (asI (W.cell? (a.add (i * 3))), asI (W.cell? ((a.add (i * 3)).add 1)), asI (W.cell? ((a.add (i * 3)).add 2))), by simp, ?_, hl, .inr ⟨_, _, by rw [hd], by simp⟩⟩
    refine ⟨some a, m, by simp, fun j e hj => ?_⟩
    have hjl : j < len := by
      have := (List.getElem?_eq_some_iff.1 hj).1
      simpa using this
    rw [List.getElem?_map, List.getElem?_range hjl] at hj
    simp only [Option.map_some, Option.some.injEq] at hj
    subst hj
    rw [cellsE] at hx
    obtain ⟨cs, h1, h2⟩ := hx j (by omega)
    obtain ⟨_, h4, h5⟩ := World.cells?_some h1
    obtain ⟨b0, b1, b2, rfl⟩ := edge_ints h2
    have k0 := h5 0 (by decide)
    have k1 := h5 1 (by decide)
    have k2 := h5 2 (by decide)
    obtain ⟨b, off, spot⟩ := a
    have hspot : spot = none := by
      obtain ⟨cs0, g1, g2⟩ := hx 0 (by omega)
      obtain ⟨_, g4, g5⟩ := World.cells?_some g1
      obtain ⟨_, _, _, rfl⟩ := edge_ints g2
      have := g5 0 (by decide)
      simpa [Addr.add] using World.cell?_spot this
    subst hspot
    refine ⟨b, off, rfl, ?_⟩
    rw [G.addr_add] at k0 k1 k2
    rw [G.addr_add] at k0 k1 k2
    simp only [G.addr_add]
    simp only [Nat.add_zero] at k0
    rw [k0, k1, k2]
    exact ⟨rfl, rfl, rfl⟩
end Go.Proofs.YtphjbbbnbmafnaaGreatDoor.OpenE

namespace Go.Proofs.YtphjbbbnbmafnaaGreatDoor.OpenS
open Go.ChangeShapes Go.WideShapes Go.ChangeAt Go.RowKit Go.Proofs.YtphjbbbnbmafnaaGreatDoor.OpenE

theorem cellsP : Tryz.prog.cellsOf 40 = 2 := by kernel_rfl
theorem cellsT : Tryz.prog.cellsOf 42 = 12 := by kernel_rfl
theorem cellsR : Tryz.prog.cellsOf 9 = 1 := by kernel_rfl
theorem cellsZ : Tryz.prog.cellsOf 23 = 3 := by kernel_rfl
theorem bytesT : Tryz.prog.bytesOf 42 = 104 := by kernel_rfl
theorem wf64 {a : Int} (h : (Lit.int .i64 a).wf = true) : G.i64 a := by
  have : -9223372036854775808 ≤ a ∧ a ≤ 9223372036854775807 := by simpa [Lit.wf, IntKind.min, IntKind.max, IntKind.signed, IntKind.bits] using h
  exact this
section
variable {H : Type} {enc : TypeId × Value → H} {w : World} {base : Nat} {spare : Nat → Bool} {held : Bool} {fuel : Nat}
theorem two' {cs : List Value} (h : cs.length = 2) : ∃ c0 c1, cs = [c0, c1] := by
  match cs, h with
  | [c0, c1], _ => exact ⟨c0, c1, rfl⟩
theorem twelve {cs : List Value} (h : cs.length = 12) : ∃ c0 c1 c2 c3 c4 c5 c6 c7 c8 c9 c10 c11, cs = [c0, c1, c2, c3, c4, c5, c6, c7, c8, c9, c10, c11] := by
  match cs, h with
  | [c0, c1, c2, c3, c4, c5, c6, c7, c8, c9, c10, c11], _ => exact ⟨c0, c1, c2, c3, c4, c5, c6, c7, c8, c9, c10, c11, rfl⟩
theorem ints3 {cs : List Value} {x : DataW H × List MemPlace} (h : DataW.trod enc Tryz.prog w base spare held fuel 38 cs = some x) : ∃ a0 a1 a2 : Int, cs = [.int .i64 a0, .int .i64 a1, .int .i64 a2] ∧ G.i64 a0 ∧ G.i64 a1 ∧ G.i64 a2 := by
  obtain ⟨xs, n, rfl, rfl, hl, hxl, hf⟩ := DataW.trod_struct Tryz.underlying38 h
  rw [cellsE] at hl
  obtain ⟨c0, c1, c2, rfl⟩ := three hl
  have hxl3 : xs.length = 3 := hxl
  obtain ⟨y0, hy0⟩ := some_at hxl3 (show 0 < 3 by decide)
  obtain ⟨y1, hy1⟩ := some_at hxl3 (show 1 < 3 by decide)
  obtain ⟨y2, hy2⟩ := some_at hxl3 (show 2 < 3 by decide)
  have h0 := (hf 0 { name := "From", type := 3, offset := 0, embedded := false, tag := "", pkgPath := "", byteOffset := 0 } (by simp)).trans hy0
  have h1 := (hf 1 { name := "Label", type := 3, offset := 1, embedded := false, tag := "", pkgPath := "", byteOffset := 8 } (by simp)).trans hy1
  have h2 := (hf 2 { name := "To", type := 3, offset := 2, embedded := false, tag := "", pkgPath := "", byteOffset := 16 } (by simp)).trans hy2
  simp only [cellsI, List.drop_zero, List.drop_succ_cons, List.take_succ_cons, List.take_zero] at h0 h1 h2
  obtain ⟨a0, e0, _, w0⟩ := DataW.trod_int Tryz.underlying3 h0
  obtain ⟨a1, e1, _, w1⟩ := DataW.trod_int Tryz.underlying3 h1
  obtain ⟨a2, e2, _, w2⟩ := DataW.trod_int Tryz.underlying3 h2
  simp only [List.cons.injEq, and_true] at e0 e1 e2
  subst e0 e1 e2
  exact ⟨a0, a1, a2, rfl, wf64 w0, wf64 w1, wf64 w2⟩
theorem ints2 {cs : List Value} {x : DataW H × List MemPlace} (h : DataW.trod enc Tryz.prog w base spare held fuel 40 cs = some x) : ∃ a0 a1 : Int, cs = [.int .i64 a0, .int .i64 a1] := by
  obtain ⟨xs, n, rfl, rfl, hl, hxl, hf⟩ := DataW.trod_struct Tryz.underlying40 h
  rw [cellsP] at hl
  obtain ⟨c0, c1, rfl⟩ := two' hl
  have hxl2 : xs.length = 2 := hxl
  obtain ⟨y0, hy0⟩ := some_at hxl2 (show 0 < 2 by decide)
  obtain ⟨y1, hy1⟩ := some_at hxl2 (show 1 < 2 by decide)
  have h0 := (hf 0 { name := "From", type := 3, offset := 0, embedded := false, tag := "", pkgPath := "", byteOffset := 0 } (by simp)).trans hy0
  have h1 := (hf 1 { name := "To", type := 3, offset := 1, embedded := false, tag := "", pkgPath := "", byteOffset := 8 } (by simp)).trans hy1
  simp only [cellsI, List.drop_zero, List.drop_succ_cons, List.take_succ_cons, List.take_zero] at h0 h1
  obtain ⟨a0, e0, _, _⟩ := DataW.trod_int Tryz.underlying3 h0
  obtain ⟨a1, e1, _, _⟩ := DataW.trod_int Tryz.underlying3 h1
  simp only [List.cons.injEq, and_true] at e0 e1
  subst e0 e1
  exact ⟨a0, a1, rfl⟩
theorem sizes3 {cs : List Value} {x : DataW H × List MemPlace} (h : DataW.trod enc Tryz.prog w base spare held fuel 23 cs = some x) : ∃ a0 a1 a2 : Int, cs = [.int .i64 a0, .int .i64 a1, .int .i64 a2] := by
  obtain ⟨xs, n, rfl, rfl, hl, hxl, hf⟩ := DataW.trod_struct Tryz.underlying23 h
  rw [cellsZ] at hl
  obtain ⟨c0, c1, c2, rfl⟩ := three hl
  have hxl3 : xs.length = 3 := hxl
  obtain ⟨y0, hy0⟩ := some_at hxl3 (show 0 < 3 by decide)
  obtain ⟨y1, hy1⟩ := some_at hxl3 (show 1 < 3 by decide)
  obtain ⟨y2, hy2⟩ := some_at hxl3 (show 2 < 3 by decide)
  have h0 := (hf 0 { name := "Nodes", type := 3, offset := 0, embedded := false, tag := "", pkgPath := "", byteOffset := 0 } (by simp)).trans hy0
  have h1 := (hf 1 { name := "Labels", type := 3, offset := 1, embedded := false, tag := "", pkgPath := "", byteOffset := 8 } (by simp)).trans hy1
  have h2 := (hf 2 { name := "Edges", type := 3, offset := 2, embedded := false, tag := "", pkgPath := "", byteOffset := 16 } (by simp)).trans hy2
  simp only [cellsI, List.drop_zero, List.drop_succ_cons, List.take_succ_cons, List.take_zero] at h0 h1 h2
  obtain ⟨a0, e0, _, _⟩ := DataW.trod_int Tryz.underlying3 h0
  obtain ⟨a1, e1, _, _⟩ := DataW.trod_int Tryz.underlying3 h1
  obtain ⟨a2, e2, _, _⟩ := DataW.trod_int Tryz.underlying3 h2
  simp only [List.cons.injEq, and_true] at e0 e1 e2
  subst e0 e1 e2
  exact ⟨a0, a1, a2, rfl⟩
def cellsOfSp (st : G.Sp) : List Value := [.int .i64 st.k, .int .i64 st.h, .int .i64 st.f, .int .i64 st.l, .int .i64 st.t, .int .i64 st.x1, .int .i64 st.x2, .int .i64 st.y1, .int .i64 st.y2, .int .i64 st.z1, .int .i64 st.z2, .string st.q]
theorem step_of {cs : List Value} {x : DataW H × List MemPlace} (h : DataW.trod enc Tryz.prog w base spare held fuel 42 cs = some x) : ∃ st : G.Sp, cs = cellsOfSp st ∧ G.i64 st.f ∧ G.i64 st.l ∧ G.i64 st.t ∧ st.q.size ≤ 9223372036854775807 := by
  obtain ⟨xs, n, rfl, rfl, hl, hxl, hf⟩ := DataW.trod_struct Tryz.underlying42 h
  rw [cellsT] at hl
  obtain ⟨c0, c1, c2, c3, c4, c5, c6, c7, c8, c9, c10, c11, rfl⟩ := twelve hl
  have hxl7 : xs.length = 7 := hxl
  obtain ⟨y0, hy0⟩ := some_at hxl7 (show 0 < 7 by decide)
  obtain ⟨y1, hy1⟩ := some_at hxl7 (show 1 < 7 by decide)
  obtain ⟨y2, hy2⟩ := some_at hxl7 (show 2 < 7 by decide)
  obtain ⟨y3, hy3⟩ := some_at hxl7 (show 3 < 7 by decide)
  obtain ⟨y4, hy4⟩ := some_at hxl7 (show 4 < 7 by decide)
  obtain ⟨y5, hy5⟩ := some_at hxl7 (show 5 < 7 by decide)
  obtain ⟨y6, hy6⟩ := some_at hxl7 (show 6 < 7 by decide)
  have h0 := (hf 0 { name := "Kind", type := 3, offset := 0, embedded := false, tag := "", pkgPath := "", byteOffset := 0 } (by simp)).trans hy0
  have h1 := (hf 1 { name := "H", type := 3, offset := 1, embedded := false, tag := "", pkgPath := "", byteOffset := 8 } (by simp)).trans hy1
  have h2 := (hf 2 { name := "E", type := 38, offset := 2, embedded := false, tag := "", pkgPath := "", byteOffset := 16 } (by simp)).trans hy2
  have h3 := (hf 3 { name := "X", type := 40, offset := 5, embedded := false, tag := "", pkgPath := "", byteOffset := 40 } (by simp)).trans hy3
  have h4 := (hf 4 { name := "Y", type := 40, offset := 7, embedded := false, tag := "", pkgPath := "", byteOffset := 56 } (by simp)).trans hy4
  have h5 := (hf 5 { name := "Z", type := 40, offset := 9, embedded := false, tag := "", pkgPath := "", byteOffset := 72 } (by simp)).trans hy5
  have h6 := (hf 6 { name := "Q", type := 9, offset := 11, embedded := false, tag := "", pkgPath := "", byteOffset := 88 } (by simp)).trans hy6
  simp only [cellsI, cellsE, cellsP, cellsR, List.drop_zero, List.drop_succ_cons, List.take_succ_cons, List.take_zero] at h0 h1 h2 h3 h4 h5 h6
  obtain ⟨k, e0, _, _⟩ := DataW.trod_int Tryz.underlying3 h0
  obtain ⟨hh, e1, _, _⟩ := DataW.trod_int Tryz.underlying3 h1
  obtain ⟨f, l, t, e2, w0, w1, w2⟩ := ints3 h2
  obtain ⟨x1, x2, e3⟩ := ints2 h3
  obtain ⟨y1', y2', e4⟩ := ints2 h4
  obtain ⟨z1, z2, e5⟩ := ints2 h5
  obtain ⟨q, e6, _, wq⟩ := DataW.trod_string Tryz.underlying9 h6
  simp only [List.cons.injEq, and_true] at e0 e1 e2 e3 e4 e5 e6
  obtain ⟨rfl, rfl, rfl⟩ := e2
  obtain ⟨rfl, rfl⟩ := e3
  obtain ⟨rfl, rfl⟩ := e4
  obtain ⟨rfl, rfl⟩ := e5
  subst e0 e1 e6
  exact ⟨⟨k, hh, f, l, t, x1, x2, y1', y2', z1, z2, q⟩, rfl, w0, w1, w2, Nat.le_trans wq (by unfold maxLen; omega)⟩
end
theorem script_of {H : Type} {enc : TypeId × Value → H} {W : World} {a0 : Option Addr} {len cap fuel : Nat} {x : DataW H × List MemPlace} (hf : DataW.trod enc Tryz.prog W 0 (fun _ => true) true fuel 25 [.slice a0 len cap] = some x) :
    ∃ S : Nat → G.Sp, G.ScriptAt W a0 len S ∧ (len = 0 ∨ ∃ elems spare, x.1 = .slice elems spare ∧ elems.length = len) := by
  rcases Deep.open_slice Tryz.underlying25 hf with ⟨hcs, _⟩ | ⟨a, l, c, m, n, D, Pl, hcs, _, hl, hm, hmm, hd, hx⟩
  · simp only [List.cons.injEq, Value.slice.injEq, and_true] at hcs
    obtain ⟨rfl, rfl, rfl⟩ := hcs
    exact ⟨fun _ => ⟨0, 0, 0, 0, 0, 0, 0, 0, 0, 0, 0, ByteArray.empty⟩, fun i hi => by omega, .inl rfl⟩
  · simp only [List.cons.injEq, Value.slice.injEq, and_true] at hcs
    obtain ⟨rfl, rfl, rfl⟩ := hcs
    simp only [if_true] at hmm
    subst hmm
    rw [cellsT] at hx
    have hone : ∀ i, ∃ st : G.Sp, i < len → (W.cells? 0 (a.add (i * 12)) 12 = some (cellsOfSp st) ∧ G.i64 st.f ∧ G.i64 st.l ∧ G.i64 st.t ∧ st.q.size ≤ 9223372036854775807) := fun i => by
      by_cases hi : i < len
      · obtain ⟨cs, h1, h2⟩ := hx i (by omega)
        obtain ⟨st, rfl, h3⟩ := step_of h2
        exact ⟨st, fun _ => ⟨h1, h3⟩⟩
      · exact ⟨⟨0, 0, 0, 0, 0, 0, 0, 0, 0, 0, 0, ByteArray.empty⟩, fun h => absurd h hi⟩
    obtain ⟨S, hS⟩ := Classical.axiomOfChoice hone
    refine ⟨S, fun i hi => ?_, .inr ⟨_, _, by rw [hd], by simp⟩⟩
    obtain ⟨h1, h3⟩ := hS i hi
    refine ⟨h3, ?_⟩
    obtain ⟨_, h4, h5⟩ := World.cells?_some h1
    have k0 := h5 0 (by decide)
    have k1 := h5 1 (by decide)
    have k2 := h5 2 (by decide)
    have k3 := h5 3 (by decide)
    have k4 := h5 4 (by decide)
    have k5 := h5 5 (by decide)
    have k6 := h5 6 (by decide)
    have k7 := h5 7 (by decide)
    have k8 := h5 8 (by decide)
    have k9 := h5 9 (by decide)
    have k10 := h5 10 (by decide)
    have k11 := h5 11 (by decide)
    obtain ⟨b, off, spot⟩ := a
    have hspot : spot = none := by
      have h0 := (World.cells?_some (hS 0 (by omega)).1).2.2 0 (by decide)
      simpa [Addr.add] using World.cell?_spot h0
    subst hspot
    refine ⟨b, off, rfl, ?_⟩
    rw [G.addr_add] at k0 k1 k2 k3 k4 k5 k6 k7 k8 k9 k10 k11
    rw [G.addr_add] at k0 k1 k2 k3 k4 k5 k6 k7 k8 k9 k10 k11
    simp only [Nat.add_zero] at k0
    rw [k0, k1, k2, k3, k4, k5, k6, k7, k8, k9, k10, k11]
    exact ⟨rfl, rfl, rfl, rfl, rfl, rfl, rfl, rfl, rfl, rfl, rfl, rfl⟩
end Go.Proofs.YtphjbbbnbmafnaaGreatDoor.OpenS

/-
  The reader of an expression as it lies: its text, its rows of sets; how it is kept.
  The reader's starred: a part behind itself.
-/
import Derived.Test.YtphjbbbnbmafnabGreatDoorRxC
namespace Go.Proofs.YtphjbbbnbmafnabGreatDoor.G
open Go.RowKit Go.Shelf Go.Proofs.YtphjbbbnbmafnabGreatDoor.RxM

theorem TzAt.base {w w' : World} {base : Nat} (h : TzAt w) (hB : Below base w w') (h0 : 0 < base) : TzAt w' := fun j hj => (hB.cell (p := ⟨0, j, none⟩) h0).trans (h j hj)
/-- the reader as it lies -/
structure Rdr (w : World) (base R X : Nat) (s : ByteArray) (n : Nat) (uc : Bool) (gb cb gt ct : Nat) (ss ts : List S4) : Prop where
  rR : w.heap[R]? = some (.cells #[.string s, .int .i64 (n : Int), .pointer (some ⟨X, 0, none⟩), .bool uc] 110 (0, 0))
  rX : w.heap[X]? = some (.cells #[.slice (some ⟨gb, 0, none⟩) ss.length cb, .slice (some ⟨gt, 0, none⟩) ts.length ct, .int .u64 0, .int .u64 0, .int .u64 0, .int .u64 0] 116 (0, 0))
  ob : OwnSets w base gb cb ss
  ot : OwnSets w base gt ct ts
  okb : ∀ s ∈ ss, ok4 s
  okt : ∀ s ∈ ts, ok4 s
  tz : TzAt w
  tl : ts.length = n
  ne : R ≠ X ∧ R ≠ gb ∧ X ≠ gb ∧ R ≠ gt ∧ X ≠ gt ∧ gb ≠ gt
  bs : 0 < base ∧ base ≤ R ∧ base ≤ X ∧ base ≤ gb ∧ base ≤ gt
  room : ss.length + s.size ≤ 201
  n26 : n ≤ 26
theorem Rdr.lt {w : World} {base R X : Nat} {s : ByteArray} {n : Nat} {uc : Bool} {gb cb gt ct : Nat} {ss ts : List S4} (h : Rdr w base R X s n uc gb cb gt ct ss ts) : R < w.heap.size ∧ X < w.heap.size ∧ gb < w.heap.size ∧ gt < w.heap.size :=
  ⟨(Array.getElem?_eq_some_iff.1 h.rR).1, (Array.getElem?_eq_some_iff.1 h.rX).1, (h.ob.lt gb rfl).2, (h.ot.lt gt rfl).2⟩
/-- its blocks -/
abbrev Four (R X gb gt : Nat) : Nat → Prop := fun k => k = R ∨ k = X ∨ k = gb ∨ k = gt
theorem Rdr.same {w w' : World} {S : Nat → Prop} {base R X : Nat} {s : ByteArray} {n : Nat} {uc : Bool} {gb cb gt ct : Nat} {ss ts : List S4} (h : Rdr w base R X s n uc gb cb gt ct ss ts) (hs : Same w w' S) (hB : Below base w w') (hn : ∀ k, Four R X gb gt k → ¬ S k) : Rdr w' base R X s n uc gb cb gt ct ss ts := by
  have hl := h.lt
  refine ⟨(hs.2 R hl.1 (hn _ (.inl rfl))).trans h.rR, (hs.2 X hl.2.1 (hn _ (.inr (.inl rfl)))).trans h.rX, own_same h.ob hs (fun g e => ?_), own_same h.ot hs (fun g e => ?_), h.okb, h.okt, h.tz.base hB h.bs.1, h.tl, h.ne, h.bs, h.room, h.n26⟩
  · simp only [Value.ownBlock, Option.some.injEq] at e; subst e; exact hn _ (.inr (.inr (.inl rfl)))
  · simp only [Value.ownBlock, Option.some.injEq] at e; subst e; exact hn _ (.inr (.inr (.inr rfl)))
theorem Rdr.below {w w' : World} {base R X : Nat} {s : ByteArray} {n : Nat} {uc : Bool} {gb cb gt ct : Nat} {ss ts : List S4} (h : Rdr w base R X s n uc gb cb gt ct ss ts) (hB : Below w.heap.size w w') : Rdr w' base R X s n uc gb cb gt ct ss ts :=
  h.same (Same.below hB) (hB.mono (by have := h.lt; have := h.bs; omega)) (fun _ _ => id)
/-- its row of what comes behind is written, where it is -/
theorem Rdr.linked {w w' : World} {base R X : Nat} {s : ByteArray} {n : Nat} {uc : Bool} {gb cb gt ct : Nat} {ss ss' ts : List S4} (h : Rdr w base R X s n uc gb cb gt ct ss ts) (hs : Same w w' (fun k => k = gb)) (hB : Below base w w') (ho : OwnSets w' base gb cb ss') (hok : ∀ s ∈ ss', ok4 s) (hlen : ss'.length = ss.length) : Rdr w' base R X s n uc gb cb gt ct ss' ts := by
  have hl := h.lt
  refine ⟨(hs.2 R hl.1 h.ne.2.1).trans h.rR, by rw [hlen]; exact (hs.2 X hl.2.1 h.ne.2.2.1).trans h.rX, ho, own_same h.ot hs (fun g e => ?_), hok, h.okt, h.tz.base hB h.bs.1, h.tl, h.ne, h.bs, by rw [hlen]; exact h.room, h.n26⟩
  simp only [Value.ownBlock, Option.some.injEq] at e; subst e; exact fun e => h.ne.2.2.2.2.2 e.symm
/-- the row of the labels is written, where it is -/
theorem Rdr.taken {w w' : World} {base R X : Nat} {s : ByteArray} {n : Nat} {uc : Bool} {gb cb gt ct : Nat} {ss ts ts' : List S4} (h : Rdr w base R X s n uc gb cb gt ct ss ts) (hs : Same w w' (fun k => k = gt)) (hB : Below base w w') (ho : OwnSets w' base gt ct ts') (hok : ∀ s ∈ ts', ok4 s) (hlen : ts'.length = ts.length) : Rdr w' base R X s n uc gb cb gt ct ss ts' := by
  have hl := h.lt
  refine ⟨(hs.2 R hl.1 h.ne.2.2.2.1).trans h.rR, by rw [hlen]; exact (hs.2 X hl.2.1 h.ne.2.2.2.2.1).trans h.rX, own_same h.ob hs (fun g e => ?_), ho, h.okb, hok, h.tz.base hB h.bs.1, hlen.trans h.tl, h.ne, h.bs, h.room, h.n26⟩
  simp only [Value.ownBlock, Option.some.injEq] at e; subst e; exact h.ne.2.2.2.2.2
/-- bytes of its text are taken -/
theorem Rdr.rest {w : World} {base R X : Nat} {s : ByteArray} {n : Nat} {uc : Bool} {gb cb gt ct : Nat} {ss ts : List S4} (h : Rdr w base R X s n uc gb cb gt ct ss ts) (s2 : ByteArray) (hs2 : s2.size ≤ s.size) : Rdr (w.setCell ⟨R, 0, none⟩ (.string s2)) base R X s2 n uc gb cb gt ct ss ts := by
  have hl := h.lt
  have hs := Same.set w ⟨R, 0, none⟩ (.string s2)
  refine ⟨xset_row w R 0 _ _ _ _ h.rR, xset_other w R 0 X _ h.rX h.ne.1.symm, own_same h.ob hs (fun g e => ?_), own_same h.ot hs (fun g e => ?_), h.okb, h.okt, h.tz.base ((Below.refl base w).setCell (p := ⟨R, 0, none⟩) h.bs.2.1 _) h.bs.1, h.tl, h.ne, h.bs, by have := h.room; omega, h.n26⟩
  · simp only [Value.ownBlock, Option.some.injEq] at e; subst e; exact h.ne.2.1.symm
  · simp only [Value.ownBlock, Option.some.injEq] at e; subst e; exact h.ne.2.2.2.1.symm
/-- a bracket was not closed -/
theorem Rdr.open_ {w : World} {base R X : Nat} {s : ByteArray} {n : Nat} {uc : Bool} {gb cb gt ct : Nat} {ss ts : List S4} (h : Rdr w base R X s n uc gb cb gt ct ss ts) : Rdr (w.setCell ⟨R, 3, none⟩ (.bool true)) base R X s n true gb cb gt ct ss ts := by
  have hl := h.lt
  have hs := Same.set w ⟨R, 3, none⟩ (.bool true)
  refine ⟨xset_row w R 3 _ _ _ _ h.rR, xset_other w R 3 X _ h.rX h.ne.1.symm, own_same h.ob hs (fun g e => ?_), own_same h.ot hs (fun g e => ?_), h.okb, h.okt, h.tz.base ((Below.refl base w).setCell (p := ⟨R, 3, none⟩) h.bs.2.1 _) h.bs.1, h.tl, h.ne, h.bs, h.room, h.n26⟩
  · simp only [Value.ownBlock, Option.some.injEq] at e; subst e; exact h.ne.2.1.symm
  · simp only [Value.ownBlock, Option.some.injEq] at e; subst e; exact h.ne.2.2.2.1.symm
/-- its cells -/
theorem Rdr.cells {w : World} {base R X : Nat} {s : ByteArray} {n : Nat} {uc : Bool} {gb cb gt ct : Nat} {ss ts : List S4} (h : Rdr w base R X s n uc gb cb gt ct ss ts) : (w.cell? ⟨R, 0, none⟩ = some (.string s) ∧ w.cell? ⟨R, 1, none⟩ = some (.int .i64 (n : Int)) ∧ w.cell? ⟨R, 2, none⟩ = some (.pointer (some ⟨X, 0, none⟩)) ∧ w.cell? ⟨R, 3, none⟩ = some (.bool uc)) ∧ (w.cell? ⟨X, 0, none⟩ = some (.slice (some ⟨gb, 0, none⟩) ss.length cb) ∧ w.cell? ⟨X, 1, none⟩ = some (.slice (some ⟨gt, 0, none⟩) ts.length ct)) ∧ (w.frozen? ⟨R, 0, none⟩ = false ∧ w.frozen? ⟨R, 3, none⟩ = false) ∧ (w.frozen? ⟨X, 0, none⟩ = false) :=
  ⟨⟨by rw [cell_of_row _ _ 0 _ _ _ h.rR]; rfl, by rw [cell_of_row _ _ 1 _ _ _ h.rR]; rfl, by rw [cell_of_row _ _ 2 _ _ _ h.rR]; rfl, by rw [cell_of_row _ _ 3 _ _ _ h.rR]; rfl⟩, ⟨by rw [cell_of_row _ _ 0 _ _ _ h.rX]; rfl, by rw [cell_of_row _ _ 1 _ _ _ h.rX]; rfl⟩, ⟨frozen_of_row _ _ 0 _ _ h.rR, frozen_of_row _ _ 3 _ _ h.rR⟩, frozen_of_row _ _ 0 _ _ h.rX⟩
/-- a part as a value -/
def vp (P : P4) : Value := .agg #[.int .u64 (P.1.1 : Int), .int .u64 (P.1.2.1 : Int), .int .u64 (P.1.2.2.1 : Int), .int .u64 (P.1.2.2.2 : Int), .int .u64 (P.2.1.1 : Int), .int .u64 (P.2.1.2.1 : Int), .int .u64 (P.2.1.2.2.1 : Int), .int .u64 (P.2.1.2.2.2 : Int), .bool P.2.2]
end Go.Proofs.YtphjbbbnbmafnabGreatDoor.G

namespace Go.Proofs.YtphjbbbnbmafnabGreatDoor.G
open Go.RowKit Go.Shelf Go.Proofs.YtphjbbbnbmafnabGreatDoor.RxM

/-- nine cells as they lie -/
abbrev c9 (P : P4) : Array Value := #[.int .u64 (P.1.1 : Int), .int .u64 (P.1.2.1 : Int), .int .u64 (P.1.2.2.1 : Int), .int .u64 (P.1.2.2.2 : Int), .int .u64 (P.2.1.1 : Int), .int .u64 (P.2.1.2.1 : Int), .int .u64 (P.2.1.2.2.1 : Int), .int .u64 (P.2.1.2.2.2 : Int), .bool P.2.2]
theorem row9 {w : World} {B : Nat} {t : TypeId} {a0 a1 a2 a3 a4 a5 a6 a7 a8 : Value} (h : w.heap[B]? = some (.cells #[a0, a1, a2, a3, a4, a5, a6, a7, a8] t (0, 0))) :
    (w.cell? ⟨B, 0, none⟩ = some a0 ∧ w.cell? ⟨B, 1, none⟩ = some a1 ∧ w.cell? ⟨B, 2, none⟩ = some a2 ∧ w.cell? ⟨B, 3, none⟩ = some a3 ∧ w.cell? ⟨B, 4, none⟩ = some a4 ∧ w.cell? ⟨B, 5, none⟩ = some a5 ∧ w.cell? ⟨B, 6, none⟩ = some a6 ∧ w.cell? ⟨B, 7, none⟩ = some a7 ∧ w.cell? ⟨B, 8, none⟩ = some a8) ∧
    (w.frozen? ⟨B, 0, none⟩ = false ∧ w.frozen? ⟨B, 1, none⟩ = false ∧ w.frozen? ⟨B, 2, none⟩ = false ∧ w.frozen? ⟨B, 3, none⟩ = false ∧ w.frozen? ⟨B, 4, none⟩ = false ∧ w.frozen? ⟨B, 5, none⟩ = false ∧ w.frozen? ⟨B, 6, none⟩ = false ∧ w.frozen? ⟨B, 7, none⟩ = false ∧ w.frozen? ⟨B, 8, none⟩ = false) :=
  ⟨⟨by rw [cell_of_row _ _ 0 _ _ _ h]; rfl, by rw [cell_of_row _ _ 1 _ _ _ h]; rfl, by rw [cell_of_row _ _ 2 _ _ _ h]; rfl, by rw [cell_of_row _ _ 3 _ _ _ h]; rfl, by rw [cell_of_row _ _ 4 _ _ _ h]; rfl, by rw [cell_of_row _ _ 5 _ _ _ h]; rfl, by rw [cell_of_row _ _ 6 _ _ _ h]; rfl, by rw [cell_of_row _ _ 7 _ _ _ h]; rfl, by rw [cell_of_row _ _ 8 _ _ _ h]; rfl⟩,
    frozen_of_row _ _ 0 _ _ h, frozen_of_row _ _ 1 _ _ h, frozen_of_row _ _ 2 _ _ h, frozen_of_row _ _ 3 _ _ h, frozen_of_row _ _ 4 _ _ h, frozen_of_row _ _ 5 _ _ h, frozen_of_row _ _ 6 _ _ h, frozen_of_row _ _ 7 _ _ h, frozen_of_row _ _ 8 _ _ h⟩
/-- nine cells are written -/
abbrev put9 (W : World) (B : Nat) (x0 x1 x2 x3 x4 x5 x6 x7 x8 : Value) : World := ((((((((W.setCell ⟨B, 0, none⟩ x0).setCell ⟨B, 1, none⟩ x1).setCell ⟨B, 2, none⟩ x2).setCell ⟨B, 3, none⟩ x3).setCell ⟨B, 4, none⟩ x4).setCell ⟨B, 5, none⟩ x5).setCell ⟨B, 6, none⟩ x6).setCell ⟨B, 7, none⟩ x7).setCell ⟨B, 8, none⟩ x8
theorem set9 {W : World} {B : Nat} {t : TypeId} {a0 a1 a2 a3 a4 a5 a6 a7 a8 : Value} (h : W.heap[B]? = some (.cells #[a0, a1, a2, a3, a4, a5, a6, a7, a8] t (0, 0))) (x0 x1 x2 x3 x4 x5 x6 x7 x8 : Value) : (put9 W B x0 x1 x2 x3 x4 x5 x6 x7 x8).heap[B]? = some (.cells #[x0, x1, x2, x3, x4, x5, x6, x7, x8] t (0, 0)) := by
  have k0 : (W.setCell ⟨B, 0, none⟩ x0).heap[B]? = some (.cells #[x0, a1, a2, a3, a4, a5, a6, a7, a8] t (0, 0)) := xset_row _ B 0 _ _ _ x0 h
  have k1 : ((W.setCell ⟨B, 0, none⟩ x0).setCell ⟨B, 1, none⟩ x1).heap[B]? = some (.cells #[x0, x1, a2, a3, a4, a5, a6, a7, a8] t (0, 0)) := xset_row _ B 1 _ _ _ x1 k0
  have k2 : (((W.setCell ⟨B, 0, none⟩ x0).setCell ⟨B, 1, none⟩ x1).setCell ⟨B, 2, none⟩ x2).heap[B]? = some (.cells #[x0, x1, x2, a3, a4, a5, a6, a7, a8] t (0, 0)) := xset_row _ B 2 _ _ _ x2 k1
  have k3 : ((((W.setCell ⟨B, 0, none⟩ x0).setCell ⟨B, 1, none⟩ x1).setCell ⟨B, 2, none⟩ x2).setCell ⟨B, 3, none⟩ x3).heap[B]? = some (.cells #[x0, x1, x2, x3, a4, a5, a6, a7, a8] t (0, 0)) := xset_row _ B 3 _ _ _ x3 k2
  have k4 : (((((W.setCell ⟨B, 0, none⟩ x0).setCell ⟨B, 1, none⟩ x1).setCell ⟨B, 2, none⟩ x2).setCell ⟨B, 3, none⟩ x3).setCell ⟨B, 4, none⟩ x4).heap[B]? = some (.cells #[x0, x1, x2, x3, x4, a5, a6, a7, a8] t (0, 0)) := xset_row _ B 4 _ _ _ x4 k3
  have k5 : ((((((W.setCell ⟨B, 0, none⟩ x0).setCell ⟨B, 1, none⟩ x1).setCell ⟨B, 2, none⟩ x2).setCell ⟨B, 3, none⟩ x3).setCell ⟨B, 4, none⟩ x4).setCell ⟨B, 5, none⟩ x5).heap[B]? = some (.cells #[x0, x1, x2, x3, x4, x5, a6, a7, a8] t (0, 0)) := xset_row _ B 5 _ _ _ x5 k4
  have k6 : (((((((W.setCell ⟨B, 0, none⟩ x0).setCell ⟨B, 1, none⟩ x1).setCell ⟨B, 2, none⟩ x2).setCell ⟨B, 3, none⟩ x3).setCell ⟨B, 4, none⟩ x4).setCell ⟨B, 5, none⟩ x5).setCell ⟨B, 6, none⟩ x6).heap[B]? = some (.cells #[x0, x1, x2, x3, x4, x5, x6, a7, a8] t (0, 0)) := xset_row _ B 6 _ _ _ x6 k5
  have k7 : ((((((((W.setCell ⟨B, 0, none⟩ x0).setCell ⟨B, 1, none⟩ x1).setCell ⟨B, 2, none⟩ x2).setCell ⟨B, 3, none⟩ x3).setCell ⟨B, 4, none⟩ x4).setCell ⟨B, 5, none⟩ x5).setCell ⟨B, 6, none⟩ x6).setCell ⟨B, 7, none⟩ x7).heap[B]? = some (.cells #[x0, x1, x2, x3, x4, x5, x6, x7, a8] t (0, 0)) := xset_row _ B 7 _ _ _ x7 k6
  have k8 : (((((((((W.setCell ⟨B, 0, none⟩ x0).setCell ⟨B, 1, none⟩ x1).setCell ⟨B, 2, none⟩ x2).setCell ⟨B, 3, none⟩ x3).setCell ⟨B, 4, none⟩ x4).setCell ⟨B, 5, none⟩ x5).setCell ⟨B, 6, none⟩ x6).setCell ⟨B, 7, none⟩ x7).setCell ⟨B, 8, none⟩ x8).heap[B]? = some (.cells #[x0, x1, x2, x3, x4, x5, x6, x7, x8] t (0, 0)) := xset_row _ B 8 _ _ _ x8 k7
  exact k8
theorem same9 (W : World) (B : Nat) (x0 x1 x2 x3 x4 x5 x6 x7 x8 : Value) : Same W (put9 W B x0 x1 x2 x3 x4 x5 x6 x7 x8) (fun k => k = B) :=
  (((((((((Same.set W ⟨B, 0, none⟩ x0).trans (Same.set _ ⟨B, 1, none⟩ x1)).trans (Same.set _ ⟨B, 2, none⟩ x2)).trans (Same.set _ ⟨B, 3, none⟩ x3)).trans (Same.set _ ⟨B, 4, none⟩ x4)).trans (Same.set _ ⟨B, 5, none⟩ x5)).trans (Same.set _ ⟨B, 6, none⟩ x6)).trans (Same.set _ ⟨B, 7, none⟩ x7)).trans (Same.set _ ⟨B, 8, none⟩ x8)).mono fun k _ e => by rcases e with (((((((e | e) | e) | e) | e) | e) | e) | e) | e <;> exact e
theorem below9 {n : Nat} {A W : World} {B : Nat} (h : Below n A W) (hB : n ≤ B) (x0 x1 x2 x3 x4 x5 x6 x7 x8 : Value) : Below n A (put9 W B x0 x1 x2 x3 x4 x5 x6 x7 x8) :=
  ((((((((h.setCell (p := ⟨B, 0, none⟩) hB x0).setCell (p := ⟨B, 1, none⟩) hB x1).setCell (p := ⟨B, 2, none⟩) hB x2).setCell (p := ⟨B, 3, none⟩) hB x3).setCell (p := ⟨B, 4, none⟩) hB x4).setCell (p := ⟨B, 5, none⟩) hB x5).setCell (p := ⟨B, 6, none⟩) hB x6).setCell (p := ⟨B, 7, none⟩) hB x7).setCell (p := ⟨B, 8, none⟩) hB x8
/-- a block that was not written -/
theorem Same.row {w w' : World} {S : Nat → Prop} (h : Same w w' S) {k : Nat} {o : Obj} (hk : w.heap[k]? = some o) (hn : ¬ S k) : w'.heap[k]? = some o := (h.2 k (Array.getElem?_eq_some_iff.1 hk).1 hn).trans hk
set_option maxRecDepth 100000 in
set_option maxHeartbeats 8000000 in
theorem starred_any (base R X : Nat) (s : ByteArray) (n : Nat) (uc : Bool) (gb cb gt ct : Nat) (ss ts : List S4) (P : P4) (h1 : ok4 P.1) (h2 : ok4 P.2.1) (w : World) (h : Rdr w base R X s n uc gb cb gt ct ss ts) (hin : ∀ p, mem4 P.2.1 p = true → p < ss.length) :
    Calls Tryz.prog 108 #[.pointer (some ⟨R, 0, none⟩), vp P] w fun e w' => e = .returned (vp (star4 P)) ∧ Rdr w' base R X s n uc gb cb gt ct (linkAll P.1 ss (plTo P.2.1.1 P.2.1.2.1 P.2.1.2.2.1 P.2.1.2.2.2 4)) ts ∧ Same w w' (fun k => k = gb) ∧ Below base w w' := by
  have hl := h.lt
  have hbs := h.bs
  obtain ⟨W0, hW0⟩ : ∃ W0, W0 = (w.alloc (.cells (c9 P) 118)).alloc (.cells #[.int .u64 0, .int .u64 0, .int .u64 0, .int .u64 0, .int .u64 0, .int .u64 0, .int .u64 0, .int .u64 0, .bool false] 118) := ⟨_, rfl⟩
  have hJ : Below w.heap.size w W0 := by rw [hW0]; exact xal (below1 _ _)
  have r0 : W0.heap[w.heap.size]? = some (.cells (c9 P) 118 (0, 0)) := by rw [hW0]; exact heap_keep (below1 _ _) (heap_alloc_new w _)
  have r1 : W0.heap[w.heap.size + 1]? = some (.cells #[.int .u64 0, .int .u64 0, .int .u64 0, .int .u64 0, .int .u64 0, .int .u64 0, .int .u64 0, .int .u64 0, .bool false] 118 (0, 0)) := by
    rw [hW0]
    have := heap_alloc_new (w.alloc (.cells (c9 P) 118)) (.cells #[.int .u64 0, .int .u64 0, .int .u64 0, .int .u64 0, .int .u64 0, .int .u64 0, .int .u64 0, .int .u64 0, .bool false] 118)
    rwa [World.size_alloc] at this
  have hR0 := h.below hJ
  obtain ⟨⟨f0, f1, f2, f3⟩, ⟨l0, l1, l2, l3⟩, e⟩ := P
  have HLk : Hid (Calls Tryz.prog 86 #[.pointer (some ⟨R, 0, none⟩), .agg #[.int .u64 (l0 : Int), .int .u64 (l1 : Int), .int .u64 (l2 : Int), .int .u64 (l3 : Int)], .agg #[.int .u64 (f0 : Int), .int .u64 (f1 : Int), .int .u64 (f2 : Int), .int .u64 (f3 : Int)]] W0 _) :=
    link_any R X base gb cb ss hR0.okb (l0, l1, l2, l3) (f0, f1, f2, f3) h2 h1 W0 hR0.cells.1.2.2.1 hR0.cells.2.1.1 hR0.ne.2.1 hR0.ne.2.2.1 hR0.ob (fun p hp => hin p (mem_plTo.1 hp)) hR0.tz hbs.1
  have HR0 : Hid _ := hR0
  have HJ : Hid _ := hJ
  have HH : Hid _ := h
  have HR1 : Hid _ := r1
  have HRa : Hid _ := r0
  have HO : Hid (_ ∧ _) := ⟨h1, h2⟩
  obtain ⟨⟨c0, c1, c2, c3, c4, c5, c6, c7, c8⟩, _⟩ := row9 r0
  clear hR0 hJ h r1 r0 h1 h2 hin
  simp only [vp, star4]
  go_enter Tryz.func108, Tryz.ntmps108
  go_wp2_with fail
  rw [← hW0]
  have HW0 : Hid _ := hW0
  clear hW0
  go_wp2_with fail
  refine HLk.out.mono ?_
  rintro e1 w1 ⟨rfl, ho, hs, hB⟩
  have q0 := hs.row HRa.out (by omega)
  have q1 := hs.row HR1.out (by omega)
  have k0 : (w1.setCell ⟨w.heap.size, 8, none⟩ (.bool true)).heap[w.heap.size]? = some (.cells #[.int .u64 (f0 : Int), .int .u64 (f1 : Int), .int .u64 (f2 : Int), .int .u64 (f3 : Int), .int .u64 (l0 : Int), .int .u64 (l1 : Int), .int .u64 (l2 : Int), .int .u64 (l3 : Int), .bool true] 118 (0, 0)) := xset_row w1 w.heap.size 8 _ _ _ (.bool true) q0
  have k1 := xset_other w1 w.heap.size 8 (w.heap.size + 1) (.bool true) q1 (by omega)
  have z8 := (row9 q0).2.2.2.2.2.2.2.2.2
  have hB2 : Below base w (w1.setCell ⟨w.heap.size, 8, none⟩ (.bool true)) := ((HJ.out.mono (by omega)).trans hB).setCell (p := ⟨w.heap.size, 8, none⟩) (show base ≤ w.heap.size by omega) _
  have hs2 : Same w (w1.setCell ⟨w.heap.size, 8, none⟩ (.bool true)) (fun k => k = gb) := (((Same.below HJ.out).trans hs).trans (Same.set w1 ⟨w.heap.size, 8, none⟩ (.bool true))).mono fun k hk e => by
    rcases e with (e | e) | e
    · exact e.elim
    · exact e
    · simp only at e; omega
  have hR2 : Rdr (w1.setCell ⟨w.heap.size, 8, none⟩ (.bool true)) base R X s n uc gb cb gt ct (linkAll (f0, f1, f2, f3) ss (plTo l0 l1 l2 l3 4)) ts := (HR0.out.linked hs hB ho (linkAll_ok HO.out.1 HR0.out.okb _) (linkAll_len _ _ _)).same (Same.set w1 ⟨w.heap.size, 8, none⟩ (.bool true)) ((Below.refl base w1).setCell (p := ⟨w.heap.size, 8, none⟩) (show base ≤ w.heap.size by omega) _) (fun k hk e => by simp only at e; rcases hk with hk | hk | hk | hk <;> omega)
  have HS2 : Hid (_ ∧ _ ∧ _ ∧ _) := ⟨hR2, hs2, hB2, k1⟩
  obtain ⟨⟨d0, d1, d2, d3, d4, d5, d6, d7, d8⟩, _⟩ := row9 q0
  obtain ⟨_, u0, u1, u2, u3, u4, u5, u6, u7, u8⟩ := row9 q1
  clear hR2 hs2 hB2 ho hs hB q0 q1
  obtain ⟨_, t0, t1, t2, t3, t4, t5, t6, t7, t8⟩ := row9 k1
  clear k0 k1 c0 c1 c2 c3 c4 c5 c6 c7 c8
  go_wp2
  have hB3 := below9 (HS2.out.2.2.1) (B := w.heap.size + 1) (by omega) (.int .u64 (f0 : Int)) (.int .u64 (f1 : Int)) (.int .u64 (f2 : Int)) (.int .u64 (f3 : Int)) (.int .u64 (l0 : Int)) (.int .u64 (l1 : Int)) (.int .u64 (l2 : Int)) (.int .u64 (l3 : Int)) (.bool true)
  have hs3 := same9 (w1.setCell ⟨w.heap.size, 8, none⟩ (.bool true)) (w.heap.size + 1) (.int .u64 (f0 : Int)) (.int .u64 (f1 : Int)) (.int .u64 (f2 : Int)) (.int .u64 (f3 : Int)) (.int .u64 (l0 : Int)) (.int .u64 (l1 : Int)) (.int .u64 (l2 : Int)) (.int .u64 (l3 : Int)) (.bool true)
  have hx3 := below9 (Below.refl base (w1.setCell ⟨w.heap.size, 8, none⟩ (.bool true))) (B := w.heap.size + 1) (by omega) (.int .u64 (f0 : Int)) (.int .u64 (f1 : Int)) (.int .u64 (f2 : Int)) (.int .u64 (f3 : Int)) (.int .u64 (l0 : Int)) (.int .u64 (l1 : Int)) (.int .u64 (l2 : Int)) (.int .u64 (l3 : Int)) (.bool true)
  refine bodyPost_ret (results_cell_row rfl _ _ (w.heap.size + 1) _ _ (0, 0) _ rfl (set9 HS2.out.2.2.2 _ _ _ _ _ _ _ _ _) rfl rfl rfl) rfl ⟨rfl, HS2.out.1.same hs3 hx3 (fun k hk e => by rcases hk with hk | hk | hk | hk <;> omega), (HS2.out.2.1.trans hs3).mono (fun k hk e => by rcases e with e | e; exact e; omega), hB3⟩
end Go.Proofs.YtphjbbbnbmafnabGreatDoor.G

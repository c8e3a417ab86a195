/-
  The reader of an expression as it lies: its text, its rows of sets; how it is kept.
-/
import Derived.Test.YtphjbbbnbmafnabGreatDoorRxC
namespace Go.Proofs.YtphjbbbnbmafnabGreatDoor.G
open Go.RowKit Go.Shelf Go.Proofs.YtphjbbbnbmafnabGreatDoor.RxM

theorem TzAt.base {w w' : World} {base : Nat} (h : TzAt w) (hB : Below base w w') (h0 : 0 < base) : TzAt w' := fun j hj => (hB.cell (p := ⟨0, j, none⟩) h0).trans (h j hj)
/-- the reader as it lies -/
structure Rdr (w : World) (base R X : Nat) (s : ByteArray) (n : Nat) (uc : Bool) (gb cb gt ct : Nat) (ss ts : List S4) : Prop where
  rR : w.heap[R]? = some (.cells #[.string s, .int .i64 (n : Int), .pointer (some ⟨X, 0, none⟩), .bool uc] 110 (0, 0))
  rX : w.heap[X]? = some (.cells #[.slice (some ⟨gb, 0, none⟩) ss.length cb, .slice (some ⟨gt, 0, none⟩) ts.length ct, .int .u64 0, .int .u64 0, .int .u64 0, .int .u64 0] 116 (0, 0))
  ob : OwnSets w base gb cb ss
  ot : OwnSets w base gt ct ts
  okb : ∀ s ∈ ss, ok4 s
  okt : ∀ s ∈ ts, ok4 s
  tz : TzAt w
  tl : ts.length = n
  ne : R ≠ X ∧ R ≠ gb ∧ X ≠ gb ∧ R ≠ gt ∧ X ≠ gt ∧ gb ≠ gt
  bs : 0 < base ∧ base ≤ R ∧ base ≤ X ∧ base ≤ gb ∧ base ≤ gt
  room : ss.length + s.size ≤ 201
  n26 : n ≤ 26
theorem Rdr.lt {w : World} {base R X : Nat} {s : ByteArray} {n : Nat} {uc : Bool} {gb cb gt ct : Nat} {ss ts : List S4} (h : Rdr w base R X s n uc gb cb gt ct ss ts) : R < w.heap.size ∧ X < w.heap.size ∧ gb < w.heap.size ∧ gt < w.heap.size :=
  ⟨(Array.getElem?_eq_some_iff.1 h.rR).1, (Array.getElem?_eq_some_iff.1 h.rX).1, (h.ob.lt gb rfl).2, (h.ot.lt gt rfl).2⟩
/-- its blocks -/
abbrev Four (R X gb gt : Nat) : Nat → Prop := fun k => k = R ∨ k = X ∨ k = gb ∨ k = gt
theorem Rdr.same {w w' : World} {S : Nat → Prop} {base R X : Nat} {s : ByteArray} {n : Nat} {uc : Bool} {gb cb gt ct : Nat} {ss ts : List S4} (h : Rdr w base R X s n uc gb cb gt ct ss ts) (hs : Same w w' S) (hB : Below base w w') (hn : ∀ k, Four R X gb gt k → ¬ S k) : Rdr w' base R X s n uc gb cb gt ct ss ts := by
  have hl := h.lt
  refine ⟨(hs.2 R hl.1 (hn _ (.inl rfl))).trans h.rR, (hs.2 X hl.2.1 (hn _ (.inr (.inl rfl)))).trans h.rX, own_same h.ob hs (fun g e => ?_), own_same h.ot hs (fun g e => ?_), h.okb, h.okt, h.tz.base hB h.bs.1, h.tl, h.ne, h.bs, h.room, h.n26⟩
  · simp only [Value.ownBlock, Option.some.injEq] at e; subst e; exact hn _ (.inr (.inr (.inl rfl)))
  · simp only [Value.ownBlock, Option.some.injEq] at e; subst e; exact hn _ (.inr (.inr (.inr rfl)))
theorem Rdr.below {w w' : World} {base R X : Nat} {s : ByteArray} {n : Nat} {uc : Bool} {gb cb gt ct : Nat} {ss ts : List S4} (h : Rdr w base R X s n uc gb cb gt ct ss ts) (hB : Below w.heap.size w w') : Rdr w' base R X s n uc gb cb gt ct ss ts :=
  h.same (Same.below hB) (hB.mono (by have := h.lt; have := h.bs; omega)) (fun _ _ => id)
/-- its row of what comes behind is written, where it is -/
theorem Rdr.linked {w w' : World} {base R X : Nat} {s : ByteArray} {n : Nat} {uc : Bool} {gb cb gt ct : Nat} {ss ss' ts : List S4} (h : Rdr w base R X s n uc gb cb gt ct ss ts) (hs : Same w w' (fun k => k = gb)) (hB : Below base w w') (ho : OwnSets w' base gb cb ss') (hok : ∀ s ∈ ss', ok4 s) (hlen : ss'.length = ss.length) : Rdr w' base R X s n uc gb cb gt ct ss' ts := by
  have hl := h.lt
  refine ⟨(hs.2 R hl.1 h.ne.2.1).trans h.rR, by rw [hlen]; exact (hs.2 X hl.2.1 h.ne.2.2.1).trans h.rX, ho, own_same h.ot hs (fun g e => ?_), hok, h.okt, h.tz.base hB h.bs.1, h.tl, h.ne, h.bs, by rw [hlen]; exact h.room, h.n26⟩
  simp only [Value.ownBlock, Option.some.injEq] at e; subst e; exact fun e => h.ne.2.2.2.2.2 e.symm
/-- the row of the labels is written, where it is -/
theorem Rdr.taken {w w' : World} {base R X : Nat} {s : ByteArray} {n : Nat} {uc : Bool} {gb cb gt ct : Nat} {ss ts ts' : List S4} (h : Rdr w base R X s n uc gb cb gt ct ss ts) (hs : Same w w' (fun k => k = gt)) (hB : Below base w w') (ho : OwnSets w' base gt ct ts') (hok : ∀ s ∈ ts', ok4 s) (hlen : ts'.length = ts.length) : Rdr w' base R X s n uc gb cb gt ct ss ts' := by
  have hl := h.lt
  refine ⟨(hs.2 R hl.1 h.ne.2.2.2.1).trans h.rR, by rw [hlen]; exact (hs.2 X hl.2.1 h.ne.2.2.2.2.1).trans h.rX, own_same h.ob hs (fun g e => ?_), ho, h.okb, hok, h.tz.base hB h.bs.1, hlen.trans h.tl, h.ne, h.bs, h.room, h.n26⟩
  simp only [Value.ownBlock, Option.some.injEq] at e; subst e; exact h.ne.2.2.2.2.2
/-- bytes of its text are taken -/
theorem Rdr.rest {w : World} {base R X : Nat} {s : ByteArray} {n : Nat} {uc : Bool} {gb cb gt ct : Nat} {ss ts : List S4} (h : Rdr w base R X s n uc gb cb gt ct ss ts) (s2 : ByteArray) (hs2 : s2.size ≤ s.size) : Rdr (w.setCell ⟨R, 0, none⟩ (.string s2)) base R X s2 n uc gb cb gt ct ss ts := by
  have hl := h.lt
  have hs := Same.set w ⟨R, 0, none⟩ (.string s2)
  refine ⟨xset_row w R 0 _ _ _ _ h.rR, xset_other w R 0 X _ h.rX h.ne.1.symm, own_same h.ob hs (fun g e => ?_), own_same h.ot hs (fun g e => ?_), h.okb, h.okt, h.tz.base ((Below.refl base w).setCell (p := ⟨R, 0, none⟩) h.bs.2.1 _) h.bs.1, h.tl, h.ne, h.bs, by have := h.room; omega, h.n26⟩
  · simp only [Value.ownBlock, Option.some.injEq] at e; subst e; exact h.ne.2.1.symm
  · simp only [Value.ownBlock, Option.some.injEq] at e; subst e; exact h.ne.2.2.2.1.symm
/-- a bracket was not closed -/
theorem Rdr.open_ {w : World} {base R X : Nat} {s : ByteArray} {n : Nat} {uc : Bool} {gb cb gt ct : Nat} {ss ts : List S4} (h : Rdr w base R X s n uc gb cb gt ct ss ts) : Rdr (w.setCell ⟨R, 3, none⟩ (.bool true)) base R X s n true gb cb gt ct ss ts := by
  have hl := h.lt
  have hs := Same.set w ⟨R, 3, none⟩ (.bool true)
  refine ⟨xset_row w R 3 _ _ _ _ h.rR, xset_other w R 3 X _ h.rX h.ne.1.symm, own_same h.ob hs (fun g e => ?_), own_same h.ot hs (fun g e => ?_), h.okb, h.okt, h.tz.base ((Below.refl base w).setCell (p := ⟨R, 3, none⟩) h.bs.2.1 _) h.bs.1, h.tl, h.ne, h.bs, h.room, h.n26⟩
  · simp only [Value.ownBlock, Option.some.injEq] at e; subst e; exact h.ne.2.1.symm
  · simp only [Value.ownBlock, Option.some.injEq] at e; subst e; exact h.ne.2.2.2.1.symm
/-- its cells -/
theorem Rdr.cells {w : World} {base R X : Nat} {s : ByteArray} {n : Nat} {uc : Bool} {gb cb gt ct : Nat} {ss ts : List S4} (h : Rdr w base R X s n uc gb cb gt ct ss ts) : (w.cell? ⟨R, 0, none⟩ = some (.string s) ∧ w.cell? ⟨R, 1, none⟩ = some (.int .i64 (n : Int)) ∧ w.cell? ⟨R, 2, none⟩ = some (.pointer (some ⟨X, 0, none⟩)) ∧ w.cell? ⟨R, 3, none⟩ = some (.bool uc)) ∧ (w.cell? ⟨X, 0, none⟩ = some (.slice (some ⟨gb, 0, none⟩) ss.length cb) ∧ w.cell? ⟨X, 1, none⟩ = some (.slice (some ⟨gt, 0, none⟩) ts.length ct)) ∧ (w.frozen? ⟨R, 0, none⟩ = false ∧ w.frozen? ⟨R, 3, none⟩ = false) ∧ (w.frozen? ⟨X, 0, none⟩ = false) :=
  ⟨⟨by rw [cell_of_row _ _ 0 _ _ _ h.rR]; rfl, by rw [cell_of_row _ _ 1 _ _ _ h.rR]; rfl, by rw [cell_of_row _ _ 2 _ _ _ h.rR]; rfl, by rw [cell_of_row _ _ 3 _ _ _ h.rR]; rfl⟩, ⟨by rw [cell_of_row _ _ 0 _ _ _ h.rX]; rfl, by rw [cell_of_row _ _ 1 _ _ _ h.rX]; rfl⟩, ⟨frozen_of_row _ _ 0 _ _ h.rR, frozen_of_row _ _ 3 _ _ h.rR⟩, frozen_of_row _ _ 0 _ _ h.rX⟩
/-- a part as a value -/
def vp (P : P4) : Value := .agg #[.int .u64 (P.1.1 : Int), .int .u64 (P.1.2.1 : Int), .int .u64 (P.1.2.2.1 : Int), .int .u64 (P.1.2.2.2 : Int), .int .u64 (P.2.1.1 : Int), .int .u64 (P.2.1.2.1 : Int), .int .u64 (P.2.1.2.2.1 : Int), .int .u64 (P.2.1.2.2.2 : Int), .bool P.2.2]
end Go.Proofs.YtphjbbbnbmafnabGreatDoor.G

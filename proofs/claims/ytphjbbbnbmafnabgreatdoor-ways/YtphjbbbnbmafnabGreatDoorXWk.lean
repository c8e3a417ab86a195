/-
  expr.Read: an expression as the program keeps it, or none.
  The walk over a graph as it lies: what is known of the ways to each node, and the nodes that wait.
-/
import Derived.Test.YtphjbbbnbmafnabGreatDoorXCh
namespace Go.Proofs.YtphjbbbnbmafnabGreatDoor.G
open Go.RowKit Go.Shelf Go.Proofs.YtphjbbbnbmafnabGreatDoor.RxM

attribute [local go_sem] Oper.semAt_some
theorem flat4_zero (n : Nat) : flat4 (List.replicate n z4) = List.replicate (n * 4) (.int .u64 0) := by
  induction n with
  | zero => rfl
  | succ n ih =>
    rw [List.replicate_succ, flat4_cons, ih, show (n + 1) * 4 = n * 4 + 1 + 1 + 1 + 1 by omega]
    simp only [List.replicate_succ]
    rfl
theorem made4 (n : Nat) : (madeCells #[.int .u64 0, .int .u64 0, .int .u64 0, .int .u64 0] (n * 4)).toList = flat4 (List.replicate n z4) := by
  rw [flat4_zero]
  apply List.ext_getElem?
  intro j
  rw [List.getElem?_replicate]
  by_cases h : j < n * 4
  · rw [if_pos h]
    rcases (show j % 4 = 0 ∨ j % 4 = 1 ∨ j % 4 = 2 ∨ j % 4 = 3 by omega) with e | e | e | e <;> simp [madeCells, h, e]
  · rw [if_neg h, List.getElem?_eq_none (by simp [size_madeCells]; omega)]
theorem own_made {w : World} {base g n : Nat} {cs : Array Value} (hcs : cs = madeCells #[.int .u64 0, .int .u64 0, .int .u64 0, .int .u64 0] (n * 4)) (hn : n ≤ 26) (hb : base ≤ g) (h : w.heap[g]? = some (.cells cs 114 (0, 0))) : OwnSets w base g n (List.replicate n z4) := by
  unfold OwnSets
  rw [List.length_replicate]
  refine ⟨by rw [flat4_len, List.length_replicate], .inr ⟨g, n, cs, rfl, hb, h, Nat.le_refl _, by unfold maxLen; omega, by rw [hcs, size_madeCells], ?_⟩⟩
  rw [hcs, made4, List.take_of_length_le (by rw [flat4_len, List.length_replicate]; omega)]
/-- the reader at its start -/
theorem rdr_start {W : World} {base R X gb gt n : Nat} {q : ByteArray} {c1 cn : Array Value} (h1 : c1 = madeCells #[.int .u64 0, .int .u64 0, .int .u64 0, .int .u64 0] (1 * 4)) (h2 : cn = madeCells #[.int .u64 0, .int .u64 0, .int .u64 0, .int .u64 0] (n * 4)) (hn : n ≤ 26) (hq : q.size ≤ 200) (hT : TzAt W) (h0 : 0 < base)
    (rR : W.heap[R]? = some (.cells #[.string q, .int .i64 (n : Int), .pointer (some ⟨X, 0, none⟩), .bool false] 110 (0, 0)))
    (rX : W.heap[X]? = some (.cells #[.slice (some ⟨gb, 0, none⟩) 1 1, .slice (some ⟨gt, 0, none⟩) n n, .int .u64 0, .int .u64 0, .int .u64 0, .int .u64 0] 116 (0, 0)))
    (rb : W.heap[gb]? = some (.cells c1 114 (0, 0))) (rt : W.heap[gt]? = some (.cells cn 114 (0, 0))) (hne : R ≠ X ∧ R ≠ gb ∧ X ≠ gb ∧ R ≠ gt ∧ X ≠ gt ∧ gb ≠ gt) (hb : base ≤ R ∧ base ≤ X ∧ base ≤ gb ∧ base ≤ gt) :
    Rdr W base R X q n false gb 1 gt n [z4] (List.replicate n z4) := by
  refine ⟨rR, by rw [List.length_replicate]; exact rX, own_made (n := 1) h1 (by omega) hb.2.2.1 rb, own_made h2 hn hb.2.2.2 rt, ?_, ?_, hT, by simp, hne, ⟨h0, hb⟩, by simp; omega, hn⟩
  · intro s hs; rw [List.mem_singleton] at hs; subst hs; exact ok4_zero
  · intro s hs; rw [List.eq_of_mem_replicate hs]; exact ok4_zero
/-- three new blocks, and a cell of an elder one is written -/
theorem lay3 {W0 : World} {R : Nat} {cs : Array Value} {ty : TypeId} (hR : W0.heap[R]? = some (.cells cs ty (0, 0))) (A B E : Obj) (i : Nat) (v : Value) :
    ((((W0.alloc A).alloc B).alloc E).setCell ⟨R, i, none⟩ v).drew.heap[R]? = some (.cells (cs.setIfInBounds i v) ty (0, 0)) ∧ ((((W0.alloc A).alloc B).alloc E).setCell ⟨R, i, none⟩ v).drew.heap[W0.heap.size]? = some A ∧ ((((W0.alloc A).alloc B).alloc E).setCell ⟨R, i, none⟩ v).drew.heap[W0.heap.size + 1]? = some B ∧ ((((W0.alloc A).alloc B).alloc E).setCell ⟨R, i, none⟩ v).drew.heap[W0.heap.size + 1 + 1]? = some E := by
  have hlt := (Array.getElem?_eq_some_iff.1 hR).1
  have hB := heap_alloc_new (W0.alloc A) B
  have hE := heap_alloc_new ((W0.alloc A).alloc B) E
  rw [World.size_alloc] at hB
  rw [World.size_alloc, World.size_alloc] at hE
  exact ⟨xset_row _ R i _ _ _ v (heap_keep (xal (xal (below1 W0 A))) hR), xset_other _ R i _ v (heap_keep (xal (below1 _ _)) (heap_alloc_new W0 A)) (by omega), xset_other _ R i _ v (heap_keep (below1 _ _) hB) (by omega), xset_other _ R i _ v hE (by omega)⟩
/-- an expression as it lies -/
structure ExAt (w : World) (X n : Nat) (t : Rx) (ss ts : List S4) (en : S4) : Prop where
  ex : Ex t n ss ts en
  bh : SetsAt w X 0 ss
  tk : SetsAt w X 1 ts
  e2 : w.cell? ⟨X, 2, none⟩ = some (.int .u64 (en.1 : Int))
  e3 : w.cell? ⟨X, 3, none⟩ = some (.int .u64 (en.2.1 : Int))
  e4 : w.cell? ⟨X, 4, none⟩ = some (.int .u64 (en.2.2.1 : Int))
  e5 : w.cell? ⟨X, 5, none⟩ = some (.int .u64 (en.2.2.2 : Int))
def ReadPost (q : ByteArray) (n : Nat) (w : World) (e : Ending) (w' : World) : Prop :=
  Below w.heap.size w w' ∧ ((e = .returned (.tuple #[.pointer none, .bool false]) ∧ (200 < q.size ∨ RxM.read n (codes q) = none)) ∨
  ∃ X t ss ts en, e = .returned (.tuple #[.pointer (some ⟨X, 0, none⟩), .bool true]) ∧ q.size ≤ 200 ∧ RxM.read n (codes q) = some t ∧ ExAt w' X n t ss ts en)
theorem own_sets {w : World} {base g cap X o : Nat} {ss : List S4} (h : OwnSets w base g cap ss) (hc : w.cell? ⟨X, o, none⟩ = some (.slice (some ⟨g, 0, none⟩) ss.length cap)) : SetsAt w X o ss := by
  refine ⟨g, 0, cap, hc, fun j s hs => ?_⟩
  have hj : j < ss.length := (List.getElem?_eq_some_iff.1 hs).1
  obtain ⟨f0, f1, f2, f3⟩ := flat4_at ss j s hs
  have e0 := (h.cellAt (j * 4) (by omega)).trans f0
  have e1 := (h.cellAt (j * 4 + 1) (by omega)).trans f1
  have e2 := (h.cellAt (j * 4 + 2) (by omega)).trans f2
  have e3 := (h.cellAt (j * 4 + 3) (by omega)).trans f3
  rw [Nat.zero_add]
  exact ⟨e0, e1, e2, e3⟩
theorem Rdr.ends {w : World} {base R X : Nat} {s : ByteArray} {n : Nat} {uc : Bool} {gb cb gt ct : Nat} {ss ts : List S4} (h : Rdr w base R X s n uc gb cb gt ct ss ts) : (w.cell? ⟨X, 2, none⟩ = some (.int .u64 0) ∧ w.cell? ⟨X, 3, none⟩ = some (.int .u64 0) ∧ w.cell? ⟨X, 4, none⟩ = some (.int .u64 0) ∧ w.cell? ⟨X, 5, none⟩ = some (.int .u64 0)) ∧ w.frozen? ⟨X, 2, none⟩ = false ∧ w.frozen? ⟨X, 3, none⟩ = false ∧ w.frozen? ⟨X, 4, none⟩ = false ∧ w.frozen? ⟨X, 5, none⟩ = false :=
  ⟨⟨by rw [cell_of_row _ _ 2 _ _ _ h.rX]; rfl, by rw [cell_of_row _ _ 3 _ _ _ h.rX]; rfl, by rw [cell_of_row _ _ 4 _ _ _ h.rX]; rfl, by rw [cell_of_row _ _ 5 _ _ _ h.rX]; rfl⟩, frozen_of_row _ _ 2 _ _ h.rX, frozen_of_row _ _ 3 _ _ h.rX, frozen_of_row _ _ 4 _ _ h.rX, frozen_of_row _ _ 5 _ _ h.rX⟩
/-- the places where texts end are written: the expression is whole -/
theorem Rdr.whole {w : World} {base R X : Nat} {s : ByteArray} {n : Nat} {uc : Bool} {gb cb gt ct : Nat} {ss ts : List S4} {t : Rx} {en : S4} (h : Rdr w base R X s n uc gb cb gt ct ss ts) (hex : Ex t n ss ts en) :
    ExAt ((((w.setCell ⟨X, 2, none⟩ (.int .u64 (en.1 : Int))).setCell ⟨X, 3, none⟩ (.int .u64 (en.2.1 : Int))).setCell ⟨X, 4, none⟩ (.int .u64 (en.2.2.1 : Int))).setCell ⟨X, 5, none⟩ (.int .u64 (en.2.2.2 : Int))) X n t ss ts en := by
  have hs := same4 w X 2 3 4 5 (.int .u64 (en.1 : Int)) (.int .u64 (en.2.1 : Int)) (.int .u64 (en.2.2.1 : Int)) (.int .u64 (en.2.2.2 : Int))
  have hne := h.ne
  have ob := own_same h.ob hs (fun k e => by simp only [Value.ownBlock, Option.some.injEq] at e; omega)
  have ot := own_same h.ot hs (fun k e => by simp only [Value.ownBlock, Option.some.injEq] at e; omega)
  have k2 : (w.setCell ⟨X, 2, none⟩ (.int .u64 (en.1 : Int))).heap[X]? = some (.cells #[.slice (some ⟨gb, 0, none⟩) ss.length cb, .slice (some ⟨gt, 0, none⟩) ts.length ct, .int .u64 (en.1 : Int), .int .u64 0, .int .u64 0, .int .u64 0] 116 (0, 0)) := xset_row _ X 2 _ _ _ _ h.rX
  have k3 : ((w.setCell ⟨X, 2, none⟩ (.int .u64 (en.1 : Int))).setCell ⟨X, 3, none⟩ (.int .u64 (en.2.1 : Int))).heap[X]? = some (.cells #[.slice (some ⟨gb, 0, none⟩) ss.length cb, .slice (some ⟨gt, 0, none⟩) ts.length ct, .int .u64 (en.1 : Int), .int .u64 (en.2.1 : Int), .int .u64 0, .int .u64 0] 116 (0, 0)) := xset_row _ X 3 _ _ _ _ k2
  have k4 : (((w.setCell ⟨X, 2, none⟩ (.int .u64 (en.1 : Int))).setCell ⟨X, 3, none⟩ (.int .u64 (en.2.1 : Int))).setCell ⟨X, 4, none⟩ (.int .u64 (en.2.2.1 : Int))).heap[X]? = some (.cells #[.slice (some ⟨gb, 0, none⟩) ss.length cb, .slice (some ⟨gt, 0, none⟩) ts.length ct, .int .u64 (en.1 : Int), .int .u64 (en.2.1 : Int), .int .u64 (en.2.2.1 : Int), .int .u64 0] 116 (0, 0)) := xset_row _ X 4 _ _ _ _ k3
  have k5 : ((((w.setCell ⟨X, 2, none⟩ (.int .u64 (en.1 : Int))).setCell ⟨X, 3, none⟩ (.int .u64 (en.2.1 : Int))).setCell ⟨X, 4, none⟩ (.int .u64 (en.2.2.1 : Int))).setCell ⟨X, 5, none⟩ (.int .u64 (en.2.2.2 : Int))).heap[X]? = some (.cells #[.slice (some ⟨gb, 0, none⟩) ss.length cb, .slice (some ⟨gt, 0, none⟩) ts.length ct, .int .u64 (en.1 : Int), .int .u64 (en.2.1 : Int), .int .u64 (en.2.2.1 : Int), .int .u64 (en.2.2.2 : Int)] 116 (0, 0)) := xset_row _ X 5 _ _ _ _ k4
  exact ⟨hex, own_sets ob (by rw [cell_of_row _ _ 0 _ _ _ k5]; rfl), own_sets ot (by rw [cell_of_row _ _ 1 _ _ _ k5]; rfl), by rw [cell_of_row _ _ 2 _ _ _ k5]; rfl, by rw [cell_of_row _ _ 3 _ _ _ k5]; rfl, by rw [cell_of_row _ _ 4 _ _ _ k5]; rfl, by rw [cell_of_row _ _ 5 _ _ _ k5]; rfl⟩
set_option maxRecDepth 100000 in
set_option maxHeartbeats 16000000 in
theorem read_any (q : ByteArray) (n : Nat) (hn : n ≤ 26) (w : World) (hT : TzAt w) : Calls Tryz.prog 25 #[.string q, .int .i64 (n : Int)] w (ReadPost q n w) := by
  have h0w : 0 < w.heap.size := World.block_lt_of_cell? _ _ (hT 0 (by decide))
  by_cases hq : 200 < q.size
  · have hqI : (200 : Int) < (q.size : Int) := by omega
    go_enter Tryz.func25, Tryz.ntmps25
    go_wp2
    go_ret2
    exact ⟨Below.refl _ _, .inl ⟨rfl, .inl hq⟩⟩
  · have hqI : ¬ (200 : Int) < (q.size : Int) := by omega
    obtain ⟨W0, hW0⟩ : ∃ W0, W0 = w.alloc (.cells #[.string q, .int .i64 (n : Int), .pointer none, .bool false] 110) := ⟨_, rfl⟩
    have hJ : Below w.heap.size w W0 := by rw [hW0]; exact below1 _ _
    have r0 : W0.heap[w.heap.size]? = some (.cells #[.string q, .int .i64 (n : Int), .pointer none, .bool false] 110 (0, 0)) := by rw [hW0]; exact heap_alloc_new w _
    have hs0 : w.heap.size < W0.heap.size := by rw [hW0]; simp
    obtain ⟨i1, hi1, hz0, hz1, hz2⟩ := info_parts Tryz.infoSt
    have HJ : Hid _ := hJ
    have HX0 : Hid _ := r0
    have HTz : Hid _ := hT
    clear hJ r0 hT
    go_enter Tryz.func25, Tryz.ntmps25
    obtain ⟨c1, hc1⟩ : ∃ c1, c1 = madeCells #[.int .u64 0, .int .u64 0, .int .u64 0, .int .u64 0] (1 * 4) := ⟨_, rfl⟩
    obtain ⟨cn, hcn⟩ : ∃ cn, cn = madeCells #[.int .u64 0, .int .u64 0, .int .u64 0, .int .u64 0] (n * 4) := ⟨_, rfl⟩
    have mk1 : ∀ W, (Instr.makeSlice 111 (.int .i64 1) (.int .i64 1)).run Tryz.prog W = .ok (.slice (some ⟨W.heap.size, 0, none⟩) 1 1) (W.alloc (.cells c1 114)) := fun W => by
      have := run_make (P := Tryz.prog) W 111 114 i1 _ Tryz.underlying111 hi1 hz0 .i64 .i64 1 1 (by omega) (by omega) (by rw [hz2]; omega) (by omega)
      rw [hz1] at this
      rw [hc1]
      exact this
    have mkn : ∀ W, (Instr.makeSlice 111 (.int .i64 (n : Int)) (.int .i64 (n : Int))).run Tryz.prog W = .ok (.slice (some ⟨W.heap.size, 0, none⟩) n n) (W.alloc (.cells cn 114)) := fun W => by
      have := run_make (P := Tryz.prog) W 111 114 i1 _ Tryz.underlying111 hi1 hz0 .i64 .i64 (n : Int) (n : Int) (by omega) (by omega) (by rw [hz2]; omega) (by omega)
      rw [hz1, Int.toNat_natCast] at this
      rw [hcn]
      exact this
    have HC1 : Hid _ := hc1
    have HCn : Hid _ := hcn
    clear hc1 hcn
    go_upto_region 4 with fail
    rw [← hW0]
    have HW0 : Hid _ := hW0
    clear hW0
    have k3 := fun o1 o2 o3 => heap_keep (xal (o := o3) (xal (o := o2) (below1 W0 o1))) HX0.out
    have a2 := fun o1 o2 o3 => (row4 (k3 o1 o2 o3)).1.2.2.1
    have z2 := fun o1 o2 o3 => (row4 (k3 o1 o2 o3)).2.2.2.1
    clear k3
    go_cut [] (fun wx => ∃ X gb gt, Hid (Rdr wx w.heap.size w.heap.size X q n false gb 1 gt n [z4] (List.replicate n z4) ∧ Below w.heap.size w wx))
    case first =>
      go_region
      · have hL := lay3 HX0.out (.cells c1 114) (.cells cn 114) (.cells #[.slice (some ⟨W0.heap.size, 0, none⟩) 1 1, .slice (some ⟨W0.heap.size + 1, 0, none⟩) n n, .int .u64 0, .int .u64 0, .int .u64 0, .int .u64 0] 116) 2 (.pointer (some ⟨W0.heap.size + 1 + 1, 0, none⟩))
        have hB2 : Below w.heap.size w ((((W0.alloc (.cells c1 114)).alloc (.cells cn 114)).alloc (.cells #[.slice (some ⟨W0.heap.size, 0, none⟩) 1 1, .slice (some ⟨W0.heap.size + 1, 0, none⟩) n n, .int .u64 0, .int .u64 0, .int .u64 0, .int .u64 0] 116)).setCell ⟨w.heap.size, 2, none⟩ (.pointer (some ⟨W0.heap.size + 1 + 1, 0, none⟩))).drew := (((HJ.out.trans ((xal (xal (below1 W0 _))).mono (by omega))).setCell (p := ⟨w.heap.size, 2, none⟩) (Nat.le_refl _) _)).drew
        have HF : Hid (_ ∧ _) := ⟨rdr_start HC1.out HCn.out hn (by omega) (TzAt.below (w := w) HTz.out hB2) h0w hL.1 hL.2.2.2 hL.2.1 hL.2.2.1 (by omega) (by omega), hB2⟩
        clear hL hB2
        go_wp2_with fail
        go_meet
        case rel => exact ⟨_, _, _, HF.out⟩
      · have hL := lay3 HX0.out (.cells cn 114) (.cells c1 114) (.cells #[.slice (some ⟨W0.heap.size + 1, 0, none⟩) 1 1, .slice (some ⟨W0.heap.size, 0, none⟩) n n, .int .u64 0, .int .u64 0, .int .u64 0, .int .u64 0] 116) 2 (.pointer (some ⟨W0.heap.size + 1 + 1, 0, none⟩))
        have hB2 : Below w.heap.size w ((((W0.alloc (.cells cn 114)).alloc (.cells c1 114)).alloc (.cells #[.slice (some ⟨W0.heap.size + 1, 0, none⟩) 1 1, .slice (some ⟨W0.heap.size, 0, none⟩) n n, .int .u64 0, .int .u64 0, .int .u64 0, .int .u64 0] 116)).setCell ⟨w.heap.size, 2, none⟩ (.pointer (some ⟨W0.heap.size + 1 + 1, 0, none⟩))).drew := (((HJ.out.trans ((xal (xal (below1 W0 _))).mono (by omega))).setCell (p := ⟨w.heap.size, 2, none⟩) (Nat.le_refl _) _)).drew
        have HF : Hid (_ ∧ _) := ⟨rdr_start HC1.out HCn.out hn (by omega) (TzAt.below (w := w) HTz.out hB2) h0w hL.1 hL.2.2.2 hL.2.2.1 hL.2.1 (by omega) (by omega), hB2⟩
        clear hL hB2
        go_wp2_with fail
        go_meet
        case rel => exact ⟨_, _, _, HF.out⟩
    case rest =>
      obtain ⟨X, gb, gt, HC⟩ := hcut
      have HD : Hid (_ ∧ _) := HC.out
      clear HC a2 z2 mk1 mkn
      go_wp2_with fail
      refine (choice_any w.heap.size w.heap.size X q n false gb 1 gt n [z4] (List.replicate n z4) wc HD.out.1).mono ?_
      rintro e w2 ⟨P, t, s2, uc2, rfl, ⟨ss2, ts2, ⟨g, cap, hg, hR2⟩, hlaid, hpart, hsm, hbw⟩, hsz2, hpost⟩
      have hlc := HD.out.1.lt
      have hl2 := hR2.lt
      have hz2' := hsm.1
      obtain ⟨W3, hW3⟩ : ∃ W3, W3 = w2.alloc (.cells (c9 P) 118) := ⟨_, rfl⟩
      have hJ3 : Below w2.heap.size w2 W3 := by rw [hW3]; exact below1 _ _
      have q7 : W3.heap[w2.heap.size]? = some (.cells (c9 P) 118 (0, 0)) := by rw [hW3]; exact heap_alloc_new w2 _
      have hz3 : w2.heap.size < W3.heap.size := by rw [hW3]; simp
      have hR3 := hR2.below hJ3
      have hB3 : Below w.heap.size w W3 := (HD.out.2.trans hbw).trans (hJ3.mono (by have := HD.out.2.size; omega))
      have HK : Hid (_ ∧ _ ∧ _ ∧ _ ∧ _) := ⟨hR3, hB3, q7, hlaid, hpart⟩
      have HP : Hid _ := hpost
      have y := fun o => (hR2.below (below1 w2 o)).cells
      have y0 := fun o => (y o).1.1
      have y3 := fun o => (y o).1.2.2.2
      clear hR2 hlaid hpart hsm hbw hpost q7 hJ3 hR3 hB3 y
      obtain ⟨⟨f0, f1, f2, f3⟩, ⟨l0, l1, l2, l3⟩, e⟩ := P
      simp only [vp]
      cases uc2
      case true =>
        go_wp2
        rw [← hW3]
        go_ret2
        refine ⟨HK.out.2.1, .inl ⟨rfl, .inr ?_⟩⟩
        rcases HP.out with ⟨h1, _⟩ | ⟨_, h2⟩
        · cases h1
        · exact read_dead h2
      case false =>
        by_cases hs2 : s2.size = 0
        · obtain rfl : s2 = ⟨#[]⟩ := ByteArray.size_eq_zero_iff.1 hs2
          have hon := setonly_any 0 (by decide) W3
          obtain ⟨z, hz⟩ : ∃ z, one4 0 = z := ⟨_, rfl⟩
          have HZ : Hid (one4 0 = z) := hz
          have hzok : ok4 z := hz ▸ ok4_one _
          rw [hz] at hon
          clear hz
          obtain ⟨o0, o1, o2, o3⟩ := z
          simp only [v4] at hon
          have HOn : Hid (Calls Tryz.prog 54 #[.int .i64 0] W3 _) := hon
          clear hon
          go_upto_region 8 with fail
          rw [← hW3]
          have HW3 : Hid _ := hW3
          clear hW3 y0 y3
          go_wp2_with fail
          refine HOn.out.mono ?_
          rintro e4 w4 ⟨rfl, hB4⟩
          obtain ⟨W5, hW5⟩ : ∃ W5, W5 = w4.alloc (.cells #[.int .u64 0, .int .u64 0, .int .u64 0, .int .u64 0, .int .u64 (o0 : Int), .int .u64 (o1 : Int), .int .u64 (o2 : Int), .int .u64 (o3 : Int), .bool false] 118) := ⟨_, rfl⟩
          have hJ5 : Below w4.heap.size w4 W5 := by rw [hW5]; exact below1 _ _
          have q8 : W5.heap[w4.heap.size]? = some (.cells #[.int .u64 0, .int .u64 0, .int .u64 0, .int .u64 0, .int .u64 (o0 : Int), .int .u64 (o1 : Int), .int .u64 (o2 : Int), .int .u64 (o3 : Int), .bool false] 118 (0, 0)) := by rw [hW5]; exact heap_alloc_new w4 _
          have hR5 := (HK.out.1.below hB4).below hJ5
          have q7 := heap_keep hJ5 (heap_keep hB4 HK.out.2.2.1)
          have hB5 : Below w.heap.size w W5 := (HK.out.2.1.trans (hB4.mono HK.out.2.1.size)).trans (hJ5.mono (Nat.le_trans HK.out.2.1.size hB4.size))
          have HJn : Hid (Calls Tryz.prog 55 #[.pointer (some ⟨w.heap.size, 0, none⟩), .agg #[.int .u64 0, .int .u64 0, .int .u64 0, .int .u64 0, .int .u64 (o0 : Int), .int .u64 (o1 : Int), .int .u64 (o2 : Int), .int .u64 (o3 : Int), .bool false], .agg #[.int .u64 (f0 : Int), .int .u64 (f1 : Int), .int .u64 (f2 : Int), .int .u64 (f3 : Int), .int .u64 (l0 : Int), .int .u64 (l1 : Int), .int .u64 (l2 : Int), .int .u64 (l3 : Int), .bool e]] W5.drew _) := joined_any w.heap.size w.heap.size X ⟨#[]⟩ n false g cap gt n ss2 ts2 (z4, (o0, o1, o2, o3), false) ((f0, f1, f2, f3), (l0, l1, l2, l3), e) ok4_zero hzok HK.out.2.2.2.2.ok1 HK.out.2.2.2.2.ok2 W5.drew (hR5.below ((Below.refl _ _).drew)) (fun p hp => by
            have h1 : mem4 (one4 0) p = true := by rw [HZ.out]; exact hp
            rw [mem4_one (by decide)] at h1
            simp at h1
            rw [HK.out.2.2.2.1.len]
            simp; omega)
          have HL : Hid (_ ∧ _) := ⟨hR5, hB5⟩
          obtain ⟨J, hJe⟩ : ∃ J, join4 (z4, (o0, o1, o2, o3), false) ((f0, f1, f2, f3), (l0, l1, l2, l3), e) = J := ⟨_, rfl⟩
          rw [hJe] at HJn
          have HJe : Hid _ := hJe
          clear hJe
          obtain ⟨⟨j0, j1, j2, j3⟩, ⟨k0, k1, k2, k3⟩, b⟩ := J
          simp only [vp] at HJn
          have hfl : ∀ W, (Instr.field 118 (.agg #[.int .u64 (j0 : Int), .int .u64 (j1 : Int), .int .u64 (j2 : Int), .int .u64 (j3 : Int), .int .u64 (k0 : Int), .int .u64 (k1 : Int), .int .u64 (k2 : Int), .int .u64 (k3 : Int), .bool b]) 1).run Tryz.prog W = .ok (.agg #[.int .u64 (k0 : Int), .int .u64 (k1 : Int), .int .u64 (k2 : Int), .int .u64 (k3 : Int)]) W := fun _ => by kernel_rfl
          obtain ⟨⟨_, _, x2, _⟩, _⟩ := hR5.cells
          obtain ⟨⟨c0, c1', c2, c3, c4, c5, c6, c7, c8⟩, _⟩ := row9 q7
          obtain ⟨⟨d0, d1, d2, d3, d4, d5, d6, d7, d8⟩, _⟩ := row9 q8
          clear hR5 q7 q8 hB5 hJ5 hB4
          go_upto_region 9 with fail
          rw [← hW5]
          have HW5 : Hid _ := hW5
          clear hW5
          go_cut [] (fun wx => Hid (Below w.heap.size w wx ∧ ∃ ss ts en, ExAt wx X n t ss ts en ∧ wx.cell? ⟨w.heap.size, 2, none⟩ = some (.pointer (some ⟨X, 0, none⟩))))
          case first =>
            go_region_with (refine HJn.out.mono ?_; rintro e6 w6 ⟨rfl, hR6, hS6, hB6⟩; obtain ⟨⟨_, _, m2, _⟩, _⟩ := hR6.cells; obtain ⟨⟨v2, v3, v4', v5⟩, b2, b3, b4, b5⟩ := hR6.ends)
            all_goals
              have hex := laid_ex (P := ((f0, f1, f2, f3), (l0, l1, l2, l3), e)) HK.out.2.2.2.1 HK.out.2.2.2.2 (by rw [HZ.out]; exact hR6.okb) hR6.okt
              unfold start4 at hex
              rw [HZ.out, HJe.out] at hex
              have hw := hR6.whole hex
              have hne6 := hR6.ne
              have hbs6 := hR6.bs
              have hcr := ((same4 w6 X 2 3 4 5 (.int .u64 (k0 : Int)) (.int .u64 (k1 : Int)) (.int .u64 (k2 : Int)) (.int .u64 (k3 : Int))).cell m2 hne6.1)
              have HF : Hid (_ ∧ _ ∧ _) := ⟨below4 (HL.out.2.drew.trans hB6) (g := X) hbs6.2.2.1 2 3 4 5 (.int .u64 (k0 : Int)) (.int .u64 (k1 : Int)) (.int .u64 (k2 : Int)) (.int .u64 (k3 : Int)), hw, hcr⟩
              clear hex hw hne6 hbs6 hcr hR6 hS6 hB6 m2 v2 v3 v4' v5 b2 b3 b4 b5
              go_wp2_with fail
              go_meet
              case rel => exact ⟨HF.out.1, _, _, _, HF.out.2.1, HF.out.2.2⟩
          case rest =>
            have HF : Hid (_ ∧ _) := hcut.out
            clear hcut x2 c0 c1' c2 c3 c4 c5 c6 c7 c8 d0 d1 d2 d3 d4 d5 d6 d7 d8
            obtain ⟨sa, ta, en, hE, hcell⟩ := HF.out.2
            have HE : Hid _ := hE
            clear hE
            go_wp2
            go_ret2
            refine ⟨HF.out.1, .inr ⟨X, t, sa, ta, en, rfl, by omega, ?_, HE.out⟩⟩
            rcases HP.out with ⟨_, q1, f, h1, h2, h3, _⟩ | ⟨h1, _⟩
            · rw [h1, show codes ⟨#[]⟩ = [] from rfl, List.append_nil, h3]
              exact read_cho h2
            · cases h1
        · have hne := bytes_ne (s := s2) (by omega)
          have hni : s2.toList.isEmpty = false := by rw [Bool.eq_false_iff]; exact fun e => hne (List.isEmpty_iff.1 e)
          go_wp2
          rw [← hW3]
          go_ret2
          refine ⟨HK.out.2.1, .inl ⟨rfl, .inr ?_⟩⟩
          rcases HP.out with ⟨_, q1, f, h1, h2, _, h3⟩ | ⟨h1, _⟩
          · rw [h1]
            cases hc : codes s2 with
            | nil =>
              have := congrArg List.length hc
              rw [codes_size] at this
              exact absurd this hs2
            | cons c l =>
              rw [hc] at h3
              exact read_left h2 h3
          · cases h1
end Go.Proofs.YtphjbbbnbmafnabGreatDoor.G

namespace Go.Proofs.YtphjbbbnbmafnabGreatDoor.G
open Go.RowKit Go.Shelf Go.Proofs.YtphjbbbnbmafnabGreatDoor.RxM

/-- what is known of the ways to one node: seen, fresh, its edges, and whether they were asked for -/
abbrev Wst := S4 × S4 × Value × Bool
def flat10 (l : List Wst) : List Value := l.flatMap fun x => [.int .u64 (x.1.1 : Int), .int .u64 (x.1.2.1 : Int), .int .u64 (x.1.2.2.1 : Int), .int .u64 (x.1.2.2.2 : Int), .int .u64 (x.2.1.1 : Int), .int .u64 (x.2.1.2.1 : Int), .int .u64 (x.2.1.2.2.1 : Int), .int .u64 (x.2.1.2.2.2 : Int), x.2.2.1, .bool x.2.2.2]
theorem flat10_cons (x : Wst) (l : List Wst) : flat10 (x :: l) = .int .u64 (x.1.1 : Int) :: .int .u64 (x.1.2.1 : Int) :: .int .u64 (x.1.2.2.1 : Int) :: .int .u64 (x.1.2.2.2 : Int) :: .int .u64 (x.2.1.1 : Int) :: .int .u64 (x.2.1.2.1 : Int) :: .int .u64 (x.2.1.2.2.1 : Int) :: .int .u64 (x.2.1.2.2.2 : Int) :: x.2.2.1 :: .bool x.2.2.2 :: flat10 l := rfl
theorem flat10_len (l : List Wst) : (flat10 l).length = l.length * 10 := by
  induction l with
  | nil => rfl
  | cons x l ih => rw [flat10_cons]; simp only [List.length_cons, ih]; omega
theorem flat10_at (l : List Wst) (j : Nat) (x : Wst) (h : l[j]? = some x) : (flat10 l)[j * 10]? = some (.int .u64 (x.1.1 : Int)) ∧ (flat10 l)[j * 10 + 1]? = some (.int .u64 (x.1.2.1 : Int)) ∧ (flat10 l)[j * 10 + 2]? = some (.int .u64 (x.1.2.2.1 : Int)) ∧ (flat10 l)[j * 10 + 3]? = some (.int .u64 (x.1.2.2.2 : Int)) ∧ (flat10 l)[j * 10 + 4]? = some (.int .u64 (x.2.1.1 : Int)) ∧ (flat10 l)[j * 10 + 5]? = some (.int .u64 (x.2.1.2.1 : Int)) ∧ (flat10 l)[j * 10 + 6]? = some (.int .u64 (x.2.1.2.2.1 : Int)) ∧ (flat10 l)[j * 10 + 7]? = some (.int .u64 (x.2.1.2.2.2 : Int)) ∧ (flat10 l)[j * 10 + 8]? = some x.2.2.1 ∧ (flat10 l)[j * 10 + 9]? = some (.bool x.2.2.2) := by
  induction l generalizing j with
  | nil => simp at h
  | cons y l ih =>
    rw [flat10_cons]
    cases j with
    | zero => simp at h; subst h; exact ⟨rfl, rfl, rfl, rfl, rfl, rfl, rfl, rfl, rfl, rfl⟩
    | succ j =>
      rw [List.getElem?_cons_succ] at h
      have := ih j h
      rw [show (j + 1) * 10 = j * 10 + 10 by omega]
      exact this
/-- the places of a node's ways are written -/
theorem flat10_seen (l : List Wst) (j : Nat) (x : Wst) (h : l[j]? = some x) (s : S4) : ((((flat10 l).set (j * 10) (.int .u64 (s.1 : Int))).set (j * 10 + 1) (.int .u64 (s.2.1 : Int))).set (j * 10 + 2) (.int .u64 (s.2.2.1 : Int))).set (j * 10 + 3) (.int .u64 (s.2.2.2 : Int)) = flat10 (l.set j (s, x.2)) := by
  induction l generalizing j with
  | nil => simp at h
  | cons y l ih =>
    rw [flat10_cons]
    cases j with
    | zero => simp at h; subst h; rfl
    | succ j =>
      rw [List.getElem?_cons_succ] at h
      rw [show ∀ z, (y :: l).set (j + 1) z = y :: l.set j z from fun _ => rfl, flat10_cons y (l.set j _), ← ih j h, show (j + 1) * 10 = j * 10 + 10 by omega]
      rfl
theorem flat10_fresh (l : List Wst) (j : Nat) (x : Wst) (h : l[j]? = some x) (s : S4) : ((((flat10 l).set (j * 10 + 4) (.int .u64 (s.1 : Int))).set (j * 10 + 5) (.int .u64 (s.2.1 : Int))).set (j * 10 + 6) (.int .u64 (s.2.2.1 : Int))).set (j * 10 + 7) (.int .u64 (s.2.2.2 : Int)) = flat10 (l.set j (x.1, s, x.2.2)) := by
  induction l generalizing j with
  | nil => simp at h
  | cons y l ih =>
    rw [flat10_cons]
    cases j with
    | zero => simp at h; subst h; rfl
    | succ j =>
      rw [List.getElem?_cons_succ] at h
      rw [show ∀ z, (y :: l).set (j + 1) z = y :: l.set j z from fun _ => rfl, flat10_cons y (l.set j _), ← ih j h, show (j + 1) * 10 = j * 10 + 10 by omega]
      rfl
theorem flat10_edges (l : List Wst) (j : Nat) (x : Wst) (h : l[j]? = some x) (v : Value) (b : Bool) : ((flat10 l).set (j * 10 + 8) v).set (j * 10 + 9) (.bool b) = flat10 (l.set j (x.1, x.2.1, v, b)) := by
  induction l generalizing j with
  | nil => simp at h
  | cons y l ih =>
    rw [flat10_cons]
    cases j with
    | zero => simp at h; subst h; rfl
    | succ j =>
      rw [List.getElem?_cons_succ] at h
      rw [show ∀ z, (y :: l).set (j + 1) z = y :: l.set j z from fun _ => rfl, flat10_cons y (l.set j _), ← ih j h, show (j + 1) * 10 = j * 10 + 10 by omega]
      rfl
/-- the row of what is known of each node -/
abbrev OwnSts (w : World) (base g n : Nat) (l : List Wst) : Prop := w.ownsRow base 130 10 (.slice (some ⟨g, 0, none⟩) n n) n (flat10 l)
/-- numbers of nodes as they lie -/
abbrev ints (l : List Nat) : List Value := l.map fun (v : Nat) => Value.int .i64 (v : Int)
/-- the walk as it lies; outs: the edges from a node -/
structure WkAt (outs : Nat → List E3) (w : World) (base K Gp X n gs : Nat) (wv : Value) (l : List Wst) (wait : List Nat) : Prop where
  rK : w.heap[K]? = some (.cells #[.pointer (some ⟨Gp, 0, none⟩), .pointer (some ⟨X, 0, none⟩), .slice (some ⟨gs, 0, none⟩) n n, wv] 125 (0, 0))
  os : OwnSts w base gs n l
  ow : w.ownsRow base 3 1 wv wait.length (ints wait)
  len : l.length = n
  ok : ∀ x ∈ l, ok4 x.1 ∧ ok4 x.2.1
  ne : K ≠ gs ∧ ∀ g, wv.ownBlock = some g → g ≠ K ∧ g ≠ gs
  bs : base ≤ K ∧ base ≤ gs
  ed : ∀ (u : Nat) (x : Wst), l[u]? = some x → x.2.2.2 = true → w.ownsRow base 41 3 x.2.2.1 (outs u).length (flat (outs u)) ∧ ∀ g, x.2.2.1.ownBlock = some g → g ≠ K ∧ g ≠ gs ∧ wv.ownBlock ≠ some g
variable {outs : Nat → List E3}
theorem WkAt.lt {w : World} {base K Gp X n gs : Nat} {wv : Value} {l : List Wst} {wait : List Nat} (h : WkAt outs w base K Gp X n gs wv l wait) : K < w.heap.size ∧ gs < w.heap.size ∧ ∀ g, wv.ownBlock = some g → base ≤ g ∧ g < w.heap.size :=
  ⟨(Array.getElem?_eq_some_iff.1 h.rK).1, (h.os.lt gs rfl).2, h.ow.lt⟩
/-- other memory is written -/
theorem WkAt.same {w w' : World} {S : Nat → Prop} {base K Gp X n gs : Nat} {wv : Value} {l : List Wst} {wait : List Nat} (h : WkAt outs w base K Gp X n gs wv l wait) (hs : Same w w' S) (hK : ¬ S K) (hg : ¬ S gs) (hw : ∀ g, wv.ownBlock = some g → ¬ S g) (he : ∀ (u : Nat) (x : Wst), l[u]? = some x → x.2.2.2 = true → ∀ g, x.2.2.1.ownBlock = some g → ¬ S g) : WkAt outs w' base K Gp X n gs wv l wait :=
  ⟨hs.row h.rK hK, own_same h.os hs (fun g e => by simp only [Value.ownBlock, Option.some.injEq] at e; subst e; exact hg), own_same h.ow hs hw, h.len, h.ok, h.ne, h.bs, fun u x hx ha => ⟨own_same (h.ed u x hx ha).1 hs (he u x hx ha), (h.ed u x hx ha).2⟩⟩
theorem WkAt.below {w w' : World} {base K Gp X n gs : Nat} {wv : Value} {l : List Wst} {wait : List Nat} (h : WkAt outs w base K Gp X n gs wv l wait) (hB : Below w.heap.size w w') : WkAt outs w' base K Gp X n gs wv l wait :=
  h.same (Same.below hB) id id (fun _ _ => id) (fun _ _ _ _ _ _ => id)
/-- the row of the nodes is written where it is -/
theorem WkAt.wrote {w w' : World} {base K Gp X n gs : Nat} {wv : Value} {l l' : List Wst} {wait : List Nat} (h : WkAt outs w base K Gp X n gs wv l wait) (hs : Same w w' (fun k => k = gs)) (ho : OwnSts w' base gs n l') (hlen : l'.length = n) (hok : ∀ x ∈ l', ok4 x.1 ∧ ok4 x.2.1)
    (he : ∀ (u : Nat) (x' : Wst), l'[u]? = some x' → x'.2.2.2 = true → ∃ x : Wst, l[u]? = some x ∧ x.2.2 = x'.2.2) : WkAt outs w' base K Gp X n gs wv l' wait := by
  refine ⟨hs.row h.rK h.ne.1, ho, own_same h.ow hs (fun g e => (h.ne.2 g e).2), hlen, hok, h.ne, h.bs, fun u x' hx ha => ?_⟩
  obtain ⟨x, hx1, hx2⟩ := he u x' hx ha
  have := h.ed u x hx1 (by rw [hx2]; exact ha)
  rw [hx2] at this
  exact ⟨own_same this.1 hs (fun g e => (this.2 g e).2.1), this.2⟩
theorem set_ed {l : List Wst} {v : Nat} {x : Wst} (hx : l[v]? = some x) {s f : S4} (u : Nat) (x' : Wst) (h : (l.set v (s, f, x.2.2))[u]? = some x') : ∃ y, l[u]? = some y ∧ y.2.2 = x'.2.2 := by
  by_cases e : v = u
  · subst e
    rw [List.getElem?_set_self (List.getElem?_eq_some_iff.1 hx).1] at h
    injection h with h
    subst h
    exact ⟨x, hx, rfl⟩
  · rw [List.getElem?_set_ne e] at h
    exact ⟨x', h, rfl⟩
theorem set_ok {l : List Wst} (h : ∀ x ∈ l, ok4 x.1 ∧ ok4 x.2.1) (v : Nat) {y : Wst} (hy : ok4 y.1 ∧ ok4 y.2.1) : ∀ x ∈ l.set v y, ok4 x.1 ∧ ok4 x.2.1 := fun x hx => by
  rcases List.mem_or_eq_of_mem_set hx with hx | rfl
  · exact h x hx
  · exact hy
end Go.Proofs.YtphjbbbnbmafnabGreatDoor.G

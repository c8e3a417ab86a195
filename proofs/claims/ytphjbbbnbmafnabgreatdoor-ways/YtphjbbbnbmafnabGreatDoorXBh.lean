/-
  All places that may take the label behind one of a set (Expr.Behind): the sets behind them, together; new memory; nothing that was there is written.
-/
import Derived.Test.YtphjbbbnbmafnabGreatDoorXIt
import Derived.Stop.RegionWithIn
namespace Go.Proofs.YtphjbbbnbmafnabGreatDoor.G
open Go.RowKit Go.Shelf Go.Proofs.YtphjbbbnbmafnabGreatDoor.RxM

attribute [local go_sem] Oper.semAt_some
/-- a set in four words -/
abbrev S4 := Nat × Nat × Nat × Nat
def ok4 (s : S4) : Prop := s.1 < 18446744073709551616 ∧ s.2.1 < 18446744073709551616 ∧ s.2.2.1 < 18446744073709551616 ∧ s.2.2.2 < 18446744073709551616
def v4 (s : S4) : Array Value := #[.int .u64 (s.1 : Int), .int .u64 (s.2.1 : Int), .int .u64 (s.2.2.1 : Int), .int .u64 (s.2.2.2 : Int)]
def or4 (s t : S4) : S4 := (s.1 ||| t.1, s.2.1 ||| t.2.1, s.2.2.1 ||| t.2.2.1, s.2.2.2 ||| t.2.2.2)
theorem or_lt64 {a b : Nat} (ha : a < 18446744073709551616) (hb : b < 18446744073709551616) : a ||| b < 18446744073709551616 := Nat.or_lt_two_pow (n := 64) ha hb
theorem ok4_or {s t : S4} (h : ok4 s) (k : ok4 t) : ok4 (or4 s t) := ⟨or_lt64 h.1 k.1, or_lt64 h.2.1 k.2.1, or_lt64 h.2.2.1 k.2.2.1, or_lt64 h.2.2.2 k.2.2.2⟩
/-- the sets at places, together -/
def orAll (ss : List S4) (ps : List Nat) : S4 := ps.foldl (fun acc p => or4 acc (ss.getD p (0, 0, 0, 0))) (0, 0, 0, 0)
theorem orAll_snoc (ss : List S4) (ps : List Nat) (p : Nat) : orAll ss (ps ++ [p]) = or4 (orAll ss ps) (ss.getD p (0, 0, 0, 0)) := by unfold orAll; rw [List.foldl_append]; rfl
theorem ok4_getD {ss : List S4} (h : ∀ s ∈ ss, ok4 s) (p : Nat) : ok4 (ss.getD p (0, 0, 0, 0)) := by
  rw [List.getD_eq_getElem?_getD]
  cases e : ss[p]? with
  | none => exact ⟨by decide, by decide, by decide, by decide⟩
  | some s => exact h s (List.mem_of_getElem? e)
theorem ok4_all {ss : List S4} (h : ∀ s ∈ ss, ok4 s) (ps : List Nat) : ok4 (orAll ss ps) := by
  unfold orAll
  have : ∀ (ps : List Nat) (acc : S4), ok4 acc → ok4 (ps.foldl (fun acc p => or4 acc (ss.getD p (0, 0, 0, 0))) acc) := by
    intro ps
    induction ps with
    | nil => intro acc ha; exact ha
    | cons p ps ih => intro acc ha; exact ih _ (ok4_or ha (ok4_getD h p))
  exact this ps _ ⟨by decide, by decide, by decide, by decide⟩
/-- the sets behind places, as they lie -/
def BehAt (w : World) (X : Nat) (ss : List S4) : Prop := ∃ g off cap, w.cell? ⟨X, 0, none⟩ = some (.slice (some ⟨g, off, none⟩) ss.length cap) ∧ ∀ j s, ss[j]? = some s → w.cell? ⟨g, off + j * 4, none⟩ = some (.int .u64 (s.1 : Int)) ∧ w.cell? ⟨g, off + j * 4 + 1, none⟩ = some (.int .u64 (s.2.1 : Int)) ∧ w.cell? ⟨g, off + j * 4 + 2, none⟩ = some (.int .u64 (s.2.2.1 : Int)) ∧ w.cell? ⟨g, off + j * 4 + 3, none⟩ = some (.int .u64 (s.2.2.2 : Int))
theorem BehAt.below {w w' : World} {X : Nat} {ss : List S4} (h : BehAt w X ss) (hB : Below w.heap.size w w') : BehAt w' X ss := by
  obtain ⟨g, off, cap, h1, h2⟩ := h
  refine ⟨g, off, cap, cell_kept hB _ _ h1, fun j s hs => ?_⟩
  obtain ⟨a, b, c, d⟩ := h2 j s hs
  exact ⟨cell_kept hB _ _ a, cell_kept hB _ _ b, cell_kept hB _ _ c, cell_kept hB _ _ d⟩
set_option maxHeartbeats 1000000 in
theorem places_any (s : S4) (w : World) : Calls Tryz.prog 109 #[.agg (v4 s)] w fun e w' => e = .returned (.func (.func 130) #[] #[.pointer (some ⟨w.heap.size, 0, none⟩)]) ∧ w' = w.alloc (.cells (v4 s) 114) := by
  obtain ⟨a, b, c, d⟩ := s
  simp only [v4]
  go_enter Tryz.func109, Tryz.ntmps109
  go_wp2
  go_ret
  exact ⟨rfl, rfl⟩
theorem keepsFrom_below {B : Nat} {W W' : World} (h : Below W.heap.size W W') : KeepsFrom B W W' := ⟨h.size, fun k _ _ hk _ => (h.block k (Array.getElem?_eq_some_iff.1 hk).1).trans hk⟩
theorem own_row {X Y : World} {row : Option Nat} {B : Nat} {cs : Array Value} {t : TypeId} (h : X.heap[B]? = some (.cells cs t (0, 0))) (hg : X.grownBy Y row) (hr : ∀ r, row = some r → ∃ o : Obj, X.heap[r]? = some o ∧ o.isCells = false) : Y.heap[B]? = some (.cells cs t (0, 0)) := by
  rw [hg.block B (Array.getElem?_eq_some_iff.1 h).1 (fun e => by
    obtain ⟨o, ho, hc⟩ := hr B e.symm
    rw [h] at ho; cases ho; cases hc)]
  exact h
theorem set4 {W : World} {B : Nat} {t : TypeId} {a b c d : Value} (h : W.heap[B]? = some (.cells #[a, b, c, d] t (0, 0))) (x0 x1 x2 x3 : Value) : ((((W.setCell ⟨B, 0, none⟩ x0).setCell ⟨B, 1, none⟩ x1).setCell ⟨B, 2, none⟩ x2).setCell ⟨B, 3, none⟩ x3).heap[B]? = some (.cells #[x0, x1, x2, x3] t (0, 0)) :=
  xset_row _ B 3 _ _ _ x3 (xset_row _ B 2 _ _ _ x2 (xset_row _ B 1 _ _ _ x1 (xset_row W B 0 _ _ _ x0 h)))
theorem set4_other {W : World} {B X : Nat} {y : Obj} (h : W.heap[X]? = some y) (hne : X ≠ B) (x0 x1 x2 x3 : Value) : ((((W.setCell ⟨B, 0, none⟩ x0).setCell ⟨B, 1, none⟩ x1).setCell ⟨B, 2, none⟩ x2).setCell ⟨B, 3, none⟩ x3).heap[X]? = some y :=
  xset_other _ B 3 X x3 (xset_other _ B 2 X x2 (xset_other _ B 1 X x1 (xset_other W B 0 X x0 h hne) hne) hne) hne
theorem set4_below {n : Nat} {A W : World} {B : Nat} (h : Below n A W) (hB : n ≤ B) (x0 x1 x2 x3 : Value) : Below n A ((((W.setCell ⟨B, 0, none⟩ x0).setCell ⟨B, 1, none⟩ x1).setCell ⟨B, 2, none⟩ x2).setCell ⟨B, 3, none⟩ x3) :=
  (((h.setCell (p := ⟨B, 0, none⟩) hB x0).setCell (p := ⟨B, 1, none⟩) hB x1).setCell (p := ⟨B, 2, none⟩) hB x2).setCell (p := ⟨B, 3, none⟩) hB x3
theorem set4_keeps (n : Nat) (W : World) (B : Nat) (x0 x1 x2 x3 : Value) : KeepsFrom n W ((((W.setCell ⟨B, 0, none⟩ x0).setCell ⟨B, 1, none⟩ x1).setCell ⟨B, 2, none⟩ x2).setCell ⟨B, 3, none⟩ x3) :=
  ((((KeepsOthers.setCell W _ _).trans (KeepsOthers.setCell _ _ _)).trans (KeepsOthers.setCell _ _ _)).trans (KeepsOthers.setCell _ _ _)).from n
set_option maxRecDepth 100000 in
set_option maxHeartbeats 8000000 in
theorem behind_in (X : Nat) (ss : List S4) (hss : ∀ s ∈ ss, ok4 s) (s : S4) (hs : ok4 s) (w : World) (hX : BehAt w X ss) (hin : ∀ p ∈ plTo s.1 s.2.1 s.2.2.1 s.2.2.2 4, p < ss.length) (hT : TzAt w) (h0w : 0 < w.heap.size) :
    CallsIn Fence.wide 9 Tryz.prog 89 #[.pointer (some ⟨X, 0, none⟩), .agg (v4 s)] w fun e w' => e = .returned (.agg (v4 (orAll ss (plTo s.1 s.2.1 s.2.2.1 s.2.2.2 4)))) ∧ Below w.heap.size w w' := by
  obtain ⟨a, b, c, d⟩ := s
  simp only [v4] at hin ⊢
  obtain ⟨ha, hb, hc, hd⟩ := hs
  simp only at ha hb hc hd
  have HPl : Hid (∀ W, CallsIn Fence.wide 8 Tryz.prog 109 #[.agg #[.int .u64 (a : Int), .int .u64 (b : Int), .int .u64 (c : Int), .int .u64 (d : Int)]] W _) := (fun W => callsIn_wide.2 (places_any (a, b, c, d) W) : ∀ W, _)
  have HX : Hid _ := hX
  have HT : Hid _ := hT
  refine callsIn_of_wp_marks Tryz.func89 rfl trivial ?_ rfl
  simp only [Tryz.ntmps89, List.size_toArray, List.length_cons, List.length_nil, Nat.reduceAdd, Nat.reduceSub, Array.replicate_succ, Array.replicate_zero, List.push_toArray, List.append_toArray, List.nil_append, List.cons_append]
  gi_wp2_with fail
  obtain ⟨W4, hW4⟩ : ∃ W4, W4 = (((w.alloc (.cells #[.pointer (some ⟨X, 0, none⟩)] 62)).alloc (.cells #[.int .u64 (a : Int), .int .u64 (b : Int), .int .u64 (c : Int), .int .u64 (d : Int)] 114)).alloc (.cells #[.int .u64 0, .int .u64 0, .int .u64 0, .int .u64 0] 114)).alloc (.cells #[.int .u64 0, .int .u64 0, .int .u64 0, .int .u64 0] 114) := ⟨_, rfl⟩
  rw [← hW4]
  have hs4 : W4.heap.size = w.heap.size + 1 + 1 + 1 + 1 := by rw [hW4]; simp
  have hJ : Below w.heap.size w W4 := by rw [hW4]; exact xal (xal (xal (below1 _ _)))
  have r2 : W4.heap[w.heap.size]? = some (.cells #[.pointer (some ⟨X, 0, none⟩)] 62 (0, 0)) := by rw [hW4]; exact heap_keep (below1 _ _) (heap_keep (below1 _ _) (heap_keep (below1 _ _) (heap_alloc_new w _)))
  have r4 : W4.heap[w.heap.size + 1 + 1]? = some (.cells #[.int .u64 0, .int .u64 0, .int .u64 0, .int .u64 0] 114 (0, 0)) := by
    rw [hW4]
    refine heap_keep (below1 _ _) ?_
    have := heap_alloc_new ((w.alloc (.cells #[.pointer (some ⟨X, 0, none⟩)] 62)).alloc (.cells #[.int .u64 (a : Int), .int .u64 (b : Int), .int .u64 (c : Int), .int .u64 (d : Int)] 114)) (.cells #[.int .u64 0, .int .u64 0, .int .u64 0, .int .u64 0] 114)
    rwa [World.size_alloc, World.size_alloc] at this
  have r5 : W4.heap[w.heap.size + 1 + 1 + 1]? = some (.cells #[.int .u64 0, .int .u64 0, .int .u64 0, .int .u64 0] 114 (0, 0)) := by
    rw [hW4]
    have := heap_alloc_new (((w.alloc (.cells #[.pointer (some ⟨X, 0, none⟩)] 62)).alloc (.cells #[.int .u64 (a : Int), .int .u64 (b : Int), .int .u64 (c : Int), .int .u64 (d : Int)] 114)).alloc (.cells #[.int .u64 0, .int .u64 0, .int .u64 0, .int .u64 0] 114)) (.cells #[.int .u64 0, .int .u64 0, .int .u64 0, .int .u64 0] 114)
    rwa [World.size_alloc, World.size_alloc, World.size_alloc] at this
  have HW4 : Hid _ := hW4
  clear hW4
  refine ⟨trivial, (HPl.out W4).mono ?_⟩
  rintro e W5 ⟨rfl, hW5⟩
  have hJ5 : Below W4.heap.size W4 W5 := by rw [hW5]; exact below1 _ _
  have r8 : W5.heap[w.heap.size + 1 + 1 + 1 + 1]? = some (.cells #[.int .u64 (a : Int), .int .u64 (b : Int), .int .u64 (c : Int), .int .u64 (d : Int)] 114 (0, 0)) := by rw [hW5, ← hs4]; exact heap_alloc_new W4 _
  have hB5 := chain hJ hJ5
  have q2 := heap_keep hJ5 r2
  have q4 := heap_keep hJ5 r4
  have q5 := heap_keep hJ5 r5
  have hs5 : w.heap.size + 1 + 1 + 1 + 1 ≤ W5.heap.size := by have := hJ5.size; omega
  rw [hs4]
  clear hW5 hJ hJ5 r2 r4 r5 HPl
  gi_wp2
  refine wpIn_rangeFunc_ownH rfl (by decide) (gf := 130) (lb := #[.pointer (some ⟨w.heap.size + 1 + 1 + 1 + 1, 0, none⟩)]) rfl trivial (enters_of Tryz.func130 (by kernel_rfl) rfl)
    (places_stops 8 (w.heap.size + 1 + 1 + 1 + 1) w.heap.size a b c d ha hb hc hd W5 h0w (hT.below hB5) r8) belowK_t (belowK_b (by omega)) (Below.refl _ _) (fun _ => rfl)
    (fun pre W => W.heap[w.heap.size + 1 + 1 + 1]? = some (.cells (v4 (orAll ss (pre.map (·.1)))) 114 (0, 0)) ∧ W.heap[w.heap.size]? = some (.cells #[.pointer (some ⟨X, 0, none⟩)] 62 (0, 0)) ∧ W.heap[w.heap.size + 1 + 1]? = some (.cells #[.int .u64 0, .int .u64 0, .int .u64 0, .int .u64 0] 114 (0, 0)) ∧ Below w.heap.size w W)
    (fun _ _ _ => False)
    (fun _ W W' row ⟨h1, h2, h3, h4⟩ hg hr => ⟨own_row h1 hg (fun r e => (hr r e).2), own_row h2 hg (fun r e => (hr r e).2), own_row h3 hg (fun r e => (hr r e).2), h4.grown hg h4.size (fun r e => by have := (hr r e).1; omega)⟩)
    (fun _ _ _ _ _ hs _ _ => hs)
    ⟨q5, q2, q4, hB5⟩
    (fun x a' _ => a' = { tmps := #[.pointer (some ⟨X, 0, none⟩), .agg #[.int .u64 (a : Int), .int .u64 (b : Int), .int .u64 (c : Int), .int .u64 (d : Int)], .pointer (some ⟨w.heap.size, 0, none⟩), .pointer (some ⟨w.heap.size + 1, 0, none⟩), .pointer (some ⟨w.heap.size + 1 + 1, 0, none⟩), .pointer (some ⟨w.heap.size + 1 + 1 + 1, 0, none⟩), .int .i64 (x.1 : Int), .agg #[.int .u64 (a : Int), .int .u64 (b : Int), .int .u64 (c : Int), .int .u64 (d : Int)], .func (.func 130) #[] #[.pointer (some ⟨w.heap.size + 1 + 1 + 1 + 1, 0, none⟩)], .int .i64 (x.1 : Int), undef, undef, undef, undef, undef, undef, undef, undef, undef, undef], defers := [] })
    (fun _ _ _ _ _ _ hs _ _ => hs)
    ?assign ?body ?done ?stop
  case assign =>
    rintro l pre x W K hI hK
    gi_wp2
    exact hK _ _ (KeepsFrom.refl _ _) (Below.refl _ _) hI rfl
  case body =>
    rintro l pre ⟨x, hx⟩ a' W hl ⟨r, hr⟩ ⟨i5, i2, i4, iB⟩ rfl hlt
    have hxl := hin x hx
    obtain ⟨g, off, cap, hsl2, hset⟩ := hX.below iB
    obtain ⟨t, ht⟩ : ∃ t, ss[x]? = some t := ⟨_, List.getElem?_eq_getElem hxl⟩
    obtain ⟨e0, e1, e2, e3⟩ := hset x t ht
    have hacc := ok4_all hss (pre.map (·.1))
    have htok := hss t (List.mem_of_getElem? ht)
    have hsn : orAll ss ((pre ++ [(⟨x, hx⟩ : { x : Nat // x ∈ plTo a b c d 4 })]).map (·.1)) = or4 (orAll ss (pre.map (·.1))) t := by
      rw [List.map_append, List.map_cons, List.map_nil, orAll_snoc, List.getD_eq_getElem?_getD, ht]; rfl
    have HSn : Hid _ := hsn
    clear hsn
    generalize orAll ss (pre.map (·.1)) = acc at i5 hacc HSn
    obtain ⟨o1, o2, o3, o4⟩ := acc
    obtain ⟨t1, t2, t3, t4⟩ := t
    simp only at e0 e1 e2 e3
    have HOr : Hid (∀ W, Calls Tryz.prog 85 _ W _) := fun W => setor_any o1 o2 o3 o4 t1 t2 t3 t4 hacc.1 hacc.2.1 hacc.2.2.1 hacc.2.2.2 htok.1 htok.2.1 htok.2.2.1 htok.2.2.2 W
    obtain ⟨⟨c0, c1, c2, c3⟩, _⟩ := row4 i5
    have p2 : W.cell? ⟨w.heap.size, 0, none⟩ = some (.pointer (some ⟨X, 0, none⟩)) := by rw [cell_of_row _ _ 0 _ _ _ i2]; rfl
    have hxI : (x : Int) < (ss.length : Int) := by omega
    have HI : Hid _ := i5
    have HI2 : Hid _ := i2
    have HI4 : Hid _ := i4
    have HIB : Hid _ := iB
    clear hset ht hacc htok i5 i2 i4 iB hX hT hin hss
    simp only
    gi_wp2_with fail
    gi_region_with (first | (refine ⟨trivial, (fun h => by cases h), ((callsIn_wide.2 (HOr.out _)).inRound l).mono ?_⟩; rintro r w1 ⟨rfl, hB1d⟩; have hB1 := ((Below.refl W.heap.size W).drew).trans hB1d; clear hB1d; obtain ⟨⟨k0, k1, k2, k3⟩, f0, f1, f2, f3⟩ := row4 (heap_keep hB1 HI.out)) | (refine ⟨trivial, ((callsIn_wide.2 (HOr.out _)).inRound l).mono ?_⟩; rintro r w1 ⟨rfl, hB1d⟩; have hB1 := ((Below.refl W.heap.size W).drew).trans hB1d; clear hB1d; obtain ⟨⟨k0, k1, k2, k3⟩, f0, f1, f2, f3⟩ := row4 (heap_keep hB1 HI.out)))
    all_goals
      have hK : Below w.heap.size W w1 := hB1.mono HIB.out.size
      exact ⟨(keepsFrom_below hB1).trans (set4_keeps _ _ _ _ _ _ _), set4_below hK (by omega) _ _ _ _, by rw [HSn.out]; exact set4 (heap_keep hB1 HI.out) _ _ _ _, set4_other (heap_keep hB1 HI2.out) (by omega) _ _ _ _, set4_other (heap_keep hB1 HI4.out) (by omega) _ _ _ _, set4_below (HIB.out.trans hK) (by omega) _ _ _ _⟩
  case done =>
    rintro D ys W hD hys ⟨i5, i2, i4, iB⟩ hK
    rw [hys] at i5
    have HI5 : Hid _ := i5
    have HI4 : Hid _ := i4
    have HIB : Hid _ := iB
    obtain ⟨z, hz⟩ : ∃ z, z = orAll ss (plTo a b c d 4) := ⟨_, rfl⟩
    rw [← hz] at i5
    obtain ⟨z0, z1, z2, z3⟩ := z
    obtain ⟨⟨c0, c1, c2, c3⟩, _⟩ := row4 i5
    obtain ⟨⟨d0, d1, d2, d3⟩, e0, e1, e2, e3⟩ := row4 i4
    have HZ : Hid _ := hz
    clear hz i5 i2 i4 iB hys hX hT hin hss
    simp only at c0 c1 c2 c3
    gi_wp2
    refine ⟨by simp, .inl ⟨_, _, rfl, run_takeDeferred (set4_other hK (by omega) _ _ _ _), ?_⟩⟩
    refine ⟨_, results_cell_row rfl _ _ (w.heap.size + 1 + 1) _ #[.int .u64 (z0 : Int), .int .u64 (z1 : Int), .int .u64 (z2 : Int), .int .u64 (z3 : Int)] (0, 0) _ rfl ((World.putObj_heap_other (by omega)).trans (set4 HI4.out _ _ _ _)) rfl rfl rfl, by rw [← HZ.out], ?_⟩
    exact (set4_below HIB.out (by omega) _ _ _ _).trans (belowK_b (w := w) (Nat.le_refl _) _ D _ _ (by omega) (set4_other hK (by omega) _ _ _ _) rfl rfl)
  case stop =>
    rintro D c pre W _ _ h _
    exact h.elim
/-- all places that may take the label behind one of a set -/
theorem behind_any (X : Nat) (ss : List S4) (hss : ∀ s ∈ ss, ok4 s) (s : S4) (hs : ok4 s) (w : World) (hX : BehAt w X ss) (hin : ∀ p ∈ plTo s.1 s.2.1 s.2.2.1 s.2.2.2 4, p < ss.length) (hT : TzAt w) (h0w : 0 < w.heap.size) :
    Calls Tryz.prog 89 #[.pointer (some ⟨X, 0, none⟩), .agg (v4 s)] w fun e w' => e = .returned (.agg (v4 (orAll ss (plTo s.1 s.2.1 s.2.2.1 s.2.2.2 4)))) ∧ Below w.heap.size w w' :=
  callsIn_wide.1 (behind_in X ss hss s hs w hX hin hT h0w)
end Go.Proofs.YtphjbbbnbmafnabGreatDoor.G

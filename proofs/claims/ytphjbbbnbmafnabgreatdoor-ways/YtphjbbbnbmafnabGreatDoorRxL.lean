/-
  The reader's link: the places of one set go on to all of another; the row behind them is written, nothing else that was there.
  What the program's reader lays down of an expression: its places in rows of sets, part by part: without the program.
-/
import Derived.Test.YtphjbbbnbmafnabGreatDoorXOn
import Derived.Test.YtphjbbbnbmafnabGreatDoorXQl
import Derived.Sort.BigQuietIn
import Derived.Test.YtphjbbbnbmafnabGreatDoorRxF
namespace Go.Proofs.YtphjbbbnbmafnabGreatDoor.G
open Go.RowKit Go.Shelf Go.Proofs.YtphjbbbnbmafnabGreatDoor.RxM

attribute [local go_sem] Oper.semAt_some
/-- sets as they lie in a row -/
def flat4 (ss : List S4) : List Value := ss.flatMap fun s => (v4 s).toList
theorem flat4_len (ss : List S4) : (flat4 ss).length = ss.length * 4 := by
  unfold flat4
  induction ss with
  | nil => rfl
  | cons s ss ih => rw [List.flatMap_cons, List.length_append, ih, List.length_cons]; simp [v4]; omega
theorem flat4_cons (s : S4) (ss : List S4) : flat4 (s :: ss) = .int .u64 (s.1 : Int) :: .int .u64 (s.2.1 : Int) :: .int .u64 (s.2.2.1 : Int) :: .int .u64 (s.2.2.2 : Int) :: flat4 ss := rfl
theorem flat4_at (ss : List S4) (j : Nat) (s : S4) (h : ss[j]? = some s) : (flat4 ss)[j * 4]? = some (.int .u64 (s.1 : Int)) ∧ (flat4 ss)[j * 4 + 1]? = some (.int .u64 (s.2.1 : Int)) ∧ (flat4 ss)[j * 4 + 2]? = some (.int .u64 (s.2.2.1 : Int)) ∧ (flat4 ss)[j * 4 + 3]? = some (.int .u64 (s.2.2.2 : Int)) := by
  induction ss generalizing j with
  | nil => simp at h
  | cons x ss ih =>
    rw [flat4_cons]
    cases j with
    | zero => simp at h; subst h; exact ⟨rfl, rfl, rfl, rfl⟩
    | succ j =>
      rw [List.getElem?_cons_succ] at h
      have := ih j h
      rw [show (j + 1) * 4 = j * 4 + 4 by omega]
      exact this
theorem flat4_set (ss : List S4) (j : Nat) (s : S4) (h : j < ss.length) : ((((flat4 ss).set (j * 4) (.int .u64 (s.1 : Int))).set (j * 4 + 1) (.int .u64 (s.2.1 : Int))).set (j * 4 + 2) (.int .u64 (s.2.2.1 : Int))).set (j * 4 + 3) (.int .u64 (s.2.2.2 : Int)) = flat4 (ss.set j s) := by
  induction ss generalizing j with
  | nil => simp at h
  | cons x ss ih =>
    rw [flat4_cons]
    cases j with
    | zero => rfl
    | succ j =>
      rw [List.set_cons_succ, flat4_cons, ← ih j (by simpa using h), show (j + 1) * 4 = j * 4 + 4 by omega]
      rfl
/-- the places of a list go on to all of a set -/
def linkAll (t : S4) (ss : List S4) (ps : List Nat) : List S4 := ps.foldl (fun a p => a.set p (or4 (a.getD p (0, 0, 0, 0)) t)) ss
theorem linkAll_snoc (t : S4) (ss : List S4) (ps : List Nat) (p : Nat) : linkAll t ss (ps ++ [p]) = (linkAll t ss ps).set p (or4 ((linkAll t ss ps).getD p (0, 0, 0, 0)) t) := by unfold linkAll; rw [List.foldl_append]; rfl
theorem linkAll_len (t : S4) (ss : List S4) (ps : List Nat) : (linkAll t ss ps).length = ss.length := by
  unfold linkAll
  induction ps generalizing ss with
  | nil => rfl
  | cons p ps ih => rw [List.foldl_cons, ih, List.length_set]
theorem linkAll_ok {t : S4} (ht : ok4 t) {ss : List S4} (h : ∀ s ∈ ss, ok4 s) (ps : List Nat) : ∀ s ∈ linkAll t ss ps, ok4 s := by
  unfold linkAll
  induction ps generalizing ss with
  | nil => exact h
  | cons p ps ih =>
    refine ih fun s hs => ?_
    rcases List.mem_or_eq_of_mem_set hs with hs | rfl
    · exact h s hs
    · exact ok4_or (ok4_getD h p) ht
/-- a row of sets of one's own -/
abbrev OwnSets (w : World) (base g cap : Nat) (ss : List S4) : Prop := w.ownsRow base 114 4 (.slice (some ⟨g, 0, none⟩) ss.length cap) ss.length (flat4 ss)
theorem own4 {W : World} {base g cap : Nat} {cu : List S4} (h : OwnSets W base g cap cu) {x : Nat} (hx : x < cu.length) (y : S4) : OwnSets ((((W.setCell ⟨g, x * 4, none⟩ (.int .u64 (y.1 : Int))).setCell ⟨g, x * 4 + 1, none⟩ (.int .u64 (y.2.1 : Int))).setCell ⟨g, x * 4 + 2, none⟩ (.int .u64 (y.2.2.1 : Int))).setCell ⟨g, x * 4 + 3, none⟩ (.int .u64 (y.2.2.2 : Int))) base g cap (cu.set x y) := by
  unfold OwnSets
  rw [List.length_set, ← flat4_set _ _ _ hx]
  exact ((((h.stored (x * 4) _).1.stored (x * 4 + 1) _).1.stored (x * 4 + 2) _).1.stored (x * 4 + 3) _).1
theorem same4 (W : World) (g i0 i1 i2 i3 : Nat) (x0 x1 x2 x3 : Value) : Same W ((((W.setCell ⟨g, i0, none⟩ x0).setCell ⟨g, i1, none⟩ x1).setCell ⟨g, i2, none⟩ x2).setCell ⟨g, i3, none⟩ x3) (fun k => k = g) :=
  ((((Same.set W ⟨g, i0, none⟩ x0).trans (Same.set _ ⟨g, i1, none⟩ x1)).trans (Same.set _ ⟨g, i2, none⟩ x2)).trans (Same.set _ ⟨g, i3, none⟩ x3)).mono fun k _ e => by rcases e with ((e | e) | e) | e <;> exact e
theorem keeps4 (n : Nat) (W : World) (g i0 i1 i2 i3 : Nat) (x0 x1 x2 x3 : Value) : KeepsFrom n W ((((W.setCell ⟨g, i0, none⟩ x0).setCell ⟨g, i1, none⟩ x1).setCell ⟨g, i2, none⟩ x2).setCell ⟨g, i3, none⟩ x3) :=
  ((((KeepsOthers.setCell W _ _).trans (KeepsOthers.setCell _ _ _)).trans (KeepsOthers.setCell _ _ _)).trans (KeepsOthers.setCell _ _ _)).from n
theorem below4 {n : Nat} {A W : World} {g : Nat} (h : Below n A W) (hg : n ≤ g) (i0 i1 i2 i3 : Nat) (x0 x1 x2 x3 : Value) : Below n A ((((W.setCell ⟨g, i0, none⟩ x0).setCell ⟨g, i1, none⟩ x1).setCell ⟨g, i2, none⟩ x2).setCell ⟨g, i3, none⟩ x3) :=
  (((h.setCell (p := ⟨g, i0, none⟩) hg x0).setCell (p := ⟨g, i1, none⟩) hg x1).setCell (p := ⟨g, i2, none⟩) hg x2).setCell (p := ⟨g, i3, none⟩) hg x3
theorem other4 {W : World} {g X : Nat} {y : Obj} (h : W.heap[X]? = some y) (hne : X ≠ g) (i0 i1 i2 i3 : Nat) (x0 x1 x2 x3 : Value) : ((((W.setCell ⟨g, i0, none⟩ x0).setCell ⟨g, i1, none⟩ x1).setCell ⟨g, i2, none⟩ x2).setCell ⟨g, i3, none⟩ x3).heap[X]? = some y :=
  xset_other _ g i3 X x3 (xset_other _ g i2 X x2 (xset_other _ g i1 X x1 (xset_other W g i0 X x0 h hne) hne) hne) hne
set_option maxRecDepth 100000 in
set_option maxHeartbeats 16000000 in
theorem link_in (R X base g cap : Nat) (ss : List S4) (hss : ∀ s ∈ ss, ok4 s) (s t : S4) (hs : ok4 s) (ht : ok4 t) (w : World) (hR : w.cell? ⟨R, 2, none⟩ = some (.pointer (some ⟨X, 0, none⟩))) (hX : w.cell? ⟨X, 0, none⟩ = some (.slice (some ⟨g, 0, none⟩) ss.length cap)) (hRg : R ≠ g) (hXg : X ≠ g) (hrow : OwnSets w base g cap ss)
    (hin : ∀ p ∈ plTo s.1 s.2.1 s.2.2.1 s.2.2.2 4, p < ss.length) (hT : TzAt w) (hb0 : 0 < base) :
    CallsIn Fence.wide 9 Tryz.prog 86 #[.pointer (some ⟨R, 0, none⟩), .agg (v4 s), .agg (v4 t)] w fun e w' => e = .returned (.tuple #[]) ∧ OwnSets w' base g cap (linkAll t ss (plTo s.1 s.2.1 s.2.2.1 s.2.2.2 4)) ∧ Same w w' (fun k => k = g) ∧ Below base w w' := by
  obtain ⟨a, b, c, d⟩ := s
  obtain ⟨t0, t1, t2, t3⟩ := t
  simp only [v4] at hin ⊢
  obtain ⟨ha, hb, hc, hd⟩ := hs
  simp only at ha hb hc hd
  have hg := hrow.lt g rfl
  have HPl : Hid (∀ W, CallsIn Fence.wide 8 Tryz.prog 109 #[.agg #[.int .u64 (a : Int), .int .u64 (b : Int), .int .u64 (c : Int), .int .u64 (d : Int)]] W _) := (fun W => callsIn_wide.2 (places_any (a, b, c, d) W) : ∀ W, _)
  have HRow : Hid _ := hrow
  have HR : Hid _ := hR
  have HX : Hid _ := hX
  have HT : Hid _ := hT
  clear hrow hR hX hT
  refine callsIn_of_wp_marks Tryz.func86 rfl trivial ?_ rfl
  simp only [Tryz.ntmps86, List.size_toArray, List.length_cons, List.length_nil, Nat.reduceAdd, Nat.reduceSub, Array.replicate_succ, Array.replicate_zero, List.push_toArray, List.append_toArray, List.nil_append, List.cons_append]
  gi_wp2_with fail
  obtain ⟨W4, hW4⟩ : ∃ W4, W4 = ((w.alloc (.cells #[.pointer (some ⟨R, 0, none⟩)] 108)).alloc (.cells #[.int .u64 (a : Int), .int .u64 (b : Int), .int .u64 (c : Int), .int .u64 (d : Int)] 114)).alloc (.cells #[.int .u64 (t0 : Int), .int .u64 (t1 : Int), .int .u64 (t2 : Int), .int .u64 (t3 : Int)] 114) := ⟨_, rfl⟩
  rw [← hW4]
  have hs4 : W4.heap.size = w.heap.size + 1 + 1 + 1 := by rw [hW4]; simp
  have hJ : Below w.heap.size w W4 := by rw [hW4]; exact xal (xal (below1 _ _))
  have r2 : W4.heap[w.heap.size]? = some (.cells #[.pointer (some ⟨R, 0, none⟩)] 108 (0, 0)) := by rw [hW4]; exact heap_keep (below1 _ _) (heap_keep (below1 _ _) (heap_alloc_new w _))
  have r4 : W4.heap[w.heap.size + 1 + 1]? = some (.cells #[.int .u64 (t0 : Int), .int .u64 (t1 : Int), .int .u64 (t2 : Int), .int .u64 (t3 : Int)] 114 (0, 0)) := by
    rw [hW4]
    have := heap_alloc_new ((w.alloc (.cells #[.pointer (some ⟨R, 0, none⟩)] 108)).alloc (.cells #[.int .u64 (a : Int), .int .u64 (b : Int), .int .u64 (c : Int), .int .u64 (d : Int)] 114)) (.cells #[.int .u64 (t0 : Int), .int .u64 (t1 : Int), .int .u64 (t2 : Int), .int .u64 (t3 : Int)] 114)
    rwa [World.size_alloc, World.size_alloc] at this
  have HW4 : Hid _ := hW4
  clear hW4
  refine ⟨trivial, (HPl.out W4).mono ?_⟩
  rintro e W5 ⟨rfl, hW5⟩
  have hJ5 : Below W4.heap.size W4 W5 := by rw [hW5]; exact below1 _ _
  have r8 : W5.heap[w.heap.size + 1 + 1 + 1]? = some (.cells #[.int .u64 (a : Int), .int .u64 (b : Int), .int .u64 (c : Int), .int .u64 (d : Int)] 114 (0, 0)) := by rw [hW5, ← hs4]; exact heap_alloc_new W4 _
  have hB5 := chain hJ hJ5
  have q2 := heap_keep hJ5 r2
  have q4 := heap_keep hJ5 r4
  have hs5 : w.heap.size + 1 + 1 + 1 ≤ W5.heap.size := by have := hJ5.size; omega
  rw [hs4]
  clear hW5 hJ hJ5 r2 r4 HPl
  gi_wp2
  refine wpIn_rangeFunc_ownH rfl (by decide) (gf := 130) (lb := #[.pointer (some ⟨w.heap.size + 1 + 1 + 1, 0, none⟩)]) rfl trivial (enters_of Tryz.func130 (by kernel_rfl) rfl)
    (places_stops 8 (w.heap.size + 1 + 1 + 1) base a b c d ha hb hc hd W5 hb0 (TzAt.below (w := w) HT.out hB5) r8) belowK_t (belowK_b (by omega)) (Below.refl _ _) (fun _ => rfl)
    (fun (pre : List { x : Nat // x ∈ plTo a b c d 4 }) W => OwnSets W base g cap (linkAll (t0, t1, t2, t3) ss (pre.map Subtype.val)) ∧ W.heap[w.heap.size]? = some (.cells #[.pointer (some ⟨R, 0, none⟩)] 108 (0, 0)) ∧ W.heap[w.heap.size + 1 + 1]? = some (.cells #[.int .u64 (t0 : Int), .int .u64 (t1 : Int), .int .u64 (t2 : Int), .int .u64 (t3 : Int)] 114 (0, 0)) ∧ Same w W (fun k => k = g) ∧ Below base w W)
    (fun _ _ _ => False)
    (fun _ W W' row ⟨h1, h2, h3, h4, h5⟩ hg2 hr => ⟨h1.kept hg2 (.inr fun e => by have := (hr g e.symm).1; omega), own_row h2 hg2 (fun r e => (hr r e).2), own_row h3 hg2 (fun r e => (hr r e).2), (h4.trans (Same.grown hg2)).mono (fun k hk e => e.elim id (fun e => by have := (hr k e).1; omega)), h5.grown hg2 (by have := h5.size; omega) (fun r e => by have := (hr r e).1; omega)⟩)
    (fun _ _ _ _ _ hs _ _ => hs)
    ⟨own_same HRow.out (Same.below hB5) (fun _ _ e => e), q2, q4, (Same.below hB5).mono (fun _ _ e => e.elim), hB5.mono (by omega)⟩
    (fun x a' _ => a' = { tmps := #[.pointer (some ⟨R, 0, none⟩), .agg #[.int .u64 (a : Int), .int .u64 (b : Int), .int .u64 (c : Int), .int .u64 (d : Int)], .agg #[.int .u64 (t0 : Int), .int .u64 (t1 : Int), .int .u64 (t2 : Int), .int .u64 (t3 : Int)], .pointer (some ⟨w.heap.size, 0, none⟩), .pointer (some ⟨w.heap.size + 1, 0, none⟩), .pointer (some ⟨w.heap.size + 1 + 1, 0, none⟩), .int .i64 (x.1 : Int), .agg #[.int .u64 (a : Int), .int .u64 (b : Int), .int .u64 (c : Int), .int .u64 (d : Int)], .func (.func 130) #[] #[.pointer (some ⟨w.heap.size + 1 + 1 + 1, 0, none⟩)], .int .i64 (x.1 : Int), undef, undef, undef, undef, undef, undef, undef, undef, undef, undef, undef, undef, undef, undef, undef, undef, undef, undef, undef, undef, undef], defers := [] })
    (fun _ _ _ _ _ _ hs _ _ => hs)
    ?assign ?body ?done ?stop
  case assign =>
    rintro l pre x W K hI hK
    gi_wp2
    exact hK _ _ (KeepsFrom.refl _ _) (Below.refl _ _) hI rfl
  case body =>
    rintro l pre ⟨x, hx⟩ a' W hl ⟨r, hr⟩ ⟨iR, i2, i4, iS, iB⟩ rfl hlt
    have hok := linkAll_ok ht hss (pre.map Subtype.val)
    have hxl : x < (linkAll (t0, t1, t2, t3) ss (pre.map Subtype.val)).length := by rw [linkAll_len]; exact hin x hx
    have hsn : linkAll (t0, t1, t2, t3) ss ((pre ++ [(⟨x, hx⟩ : { x : Nat // x ∈ plTo a b c d 4 })]).map Subtype.val) = (linkAll (t0, t1, t2, t3) ss (pre.map Subtype.val)).set x (or4 ((linkAll (t0, t1, t2, t3) ss (pre.map Subtype.val)).getD x (0, 0, 0, 0)) (t0, t1, t2, t3)) := by
      rw [List.map_append, List.map_cons, List.map_nil, linkAll_snoc]
    have hlen := linkAll_len (t0, t1, t2, t3) ss (pre.map Subtype.val)
    have HSn : Hid _ := hsn
    clear hsn
    generalize linkAll (t0, t1, t2, t3) ss (pre.map Subtype.val) = cu at iR hok hxl HSn hlen
    obtain ⟨q, hq⟩ : ∃ q, cu[x]? = some q := ⟨_, List.getElem?_eq_getElem hxl⟩
    have hqok := hok q (List.mem_of_getElem? hq)
    have hqd : cu.getD x (0, 0, 0, 0) = q := by rw [List.getD_eq_getElem?_getD, hq]; rfl
    obtain ⟨q0, q1, q2, q3⟩ := q
    obtain ⟨f0, f1, f2, f3⟩ := flat4_at cu x _ hq
    have hx4 : x * 4 + 3 < cu.length * 4 := by omega
    have e0 := (iR.cellAt (x * 4) (by omega)).trans f0
    have e1 := (iR.cellAt (x * 4 + 1) (by omega)).trans f1
    have e2 := (iR.cellAt (x * 4 + 2) (by omega)).trans f2
    have e3 := (iR.cellAt (x * 4 + 3) (by omega)).trans f3
    simp only at e0 e1 e2 e3
    have HOr : Hid (∀ W, Calls Tryz.prog 85 _ W _) := fun W => setor_any q0 q1 q2 q3 t0 t1 t2 t3 hqok.1 hqok.2.1 hqok.2.2.1 hqok.2.2.2 ht.1 ht.2.1 ht.2.2.1 ht.2.2.2 W
    obtain ⟨⟨c0, c1, c2, c3⟩, _⟩ := row4 i4
    have p2 : W.cell? ⟨w.heap.size, 0, none⟩ = some (.pointer (some ⟨R, 0, none⟩)) := by rw [cell_of_row _ _ 0 _ _ _ i2]; rfl
    have pR := iS.cell HR.out hRg
    have pX := iS.cell HX.out hXg
    rw [← hlen] at pX
    have hxI : (x : Int) < (cu.length : Int) := by omega
    have HI : Hid (_ ∧ _ ∧ _ ∧ _ ∧ _) := ⟨iR, i2, i4, iS, iB⟩
    have HQ : Hid (_ ∧ _) := ⟨hqd, hxl⟩
    clear iR i2 i4 iS iB hq hqok hok f0 f1 f2 f3 hqd hin hss ht hx4 hlen
    simp only
    have u2 := fun u => ext_cell p2 u
    have uR := fun u => ext_cell pR u
    have uX := fun u => ext_cell pX u
    have y0 := fun u => ext_cell e0 u
    have y1 := fun u => ext_cell e1 u
    have y2 := fun u => ext_cell e2 u
    have y3 := fun u => ext_cell e3 u
    have d0 := fun u => ext_cell c0 u
    have d1 := fun u => ext_cell c1 u
    have d2 := fun u => ext_cell c2 u
    have d3 := fun u => ext_cell c3 u
    clear p2 pR pX e0 e1 e2 e3 c0 c1 c2 c3
    gi_wp2_with fail
    refine region_round_last rfl (by kernel_rfl) (by kernel_rfl) (by kernel_rfl) ?_
    simp only [List.dropLast]
    repeat (gi_big_quiet_step (first
      | (gi_at_call 85; refine ⟨trivial, (callsIn_wide.2 (HOr.out _)).mono ?_⟩; rintro r w1 ⟨rfl, hB⟩; exact ⟨rfl, w1, ext_of (chain (ext_below _ _) hB)⟩)
      | (gi_at_call 85; refine (callsIn_wide.2 (HOr.out _)).mono ?_; rintro r w1 ⟨rfl, hB⟩; exact ⟨rfl, w1, ext_of (chain (ext_below _ _) hB)⟩)))
    refine wpQuietIn_step (by intros; intro; intros; trivial) (fun K hK => ?_)
    rw [if_pos (show Region.wanted _ _ = true from rfl)]
    gi_big_quiet_op
    apply Exists.intro
    refine ⟨fun u => ?_, ?_⟩
    · first
        | (refine ⟨fun h => by cases h, (callsIn_wide.2 (HOr.out _)).mono ?_⟩; rintro r w1 ⟨rfl, hB⟩; exact ⟨rfl, w1, ext_of (chain (ext_below _ _) hB)⟩)
        | (refine ⟨trivial, (callsIn_wide.2 (HOr.out _)).mono ?_⟩; rintro r w1 ⟨rfl, hB⟩; exact ⟨rfl, w1, ext_of (chain (ext_below _ _) hB)⟩)
        | (refine (callsIn_wide.2 (HOr.out _)).mono ?_; rintro r w1 ⟨rfl, hB⟩; exact ⟨rfl, w1, ext_of (chain (ext_below _ _) hB)⟩)
    refine hK _ ?_
    clear hK K
    repeat (gi_big_quiet_step (fail))
    refine wpQuietIn_nil ?_
    rintro wx ⟨u, rfl⟩
    have hB1 := ext_below W u
    have hO := own_same HI.out.1 (Same.below hB1) (fun _ _ e => e)
    have z0 := hO.frozenAt (x * 4)
    have z1 := hO.frozenAt (x * 4 + 1)
    have z2 := hO.frozenAt (x * 4 + 2)
    have z3 := hO.frozenAt (x * 4 + 3)
    have HO : Hid _ := hO
    have HB1 : Hid _ := hB1
    clear hO hB1
    simp only [List.getLast]
    refine ⟨by intros; trivial, ?_⟩
    go_simp
    have hbW : base ≤ W.heap.size := by have := HI.out.2.2.2.1.1; omega
    have hK : Below base W (ext W u) := HB1.out.mono hbW
    exact ⟨(keepsFrom_below HB1.out).trans (keeps4 _ _ _ _ _ _ _ _ _ _ _), below4 hK hg.1 _ _ _ _ _ _ _ _, by rw [HSn.out, HQ.out.1]; exact own4 HO.out HQ.out.2 (or4 (q0, q1, q2, q3) (t0, t1, t2, t3)), other4 (heap_keep HB1.out HI.out.2.1) (by omega) _ _ _ _ _ _ _ _, other4 (heap_keep HB1.out HI.out.2.2.1) (by omega) _ _ _ _ _ _ _ _, ((HI.out.2.2.2.1.trans (Same.below HB1.out)).trans (same4 _ _ _ _ _ _ _ _ _ _)).mono (fun k _ e => by rcases e with (e | e) | e <;> first | exact e | exact e.elim), below4 (HI.out.2.2.2.2.trans hK) hg.1 _ _ _ _ _ _ _ _⟩
  case done =>
    rintro D ys W hD hys ⟨iR, i2, i4, iS, iB⟩ hK
    rw [hys] at iR
    have HI : Hid (_ ∧ _ ∧ _) := ⟨iR, iS, iB⟩
    clear iR i2 i4 iS iB hys
    gi_wp2
    refine ⟨by simp, .inl ⟨_, _, rfl, run_takeDeferred hK, ?_⟩⟩
    have hgD : g ≠ D := by omega
    have hg3 := grownBy_putObj' W D (.deferred none)
    exact ⟨_, results_none rfl _ _ _, rfl, HI.out.1.kept hg3 (.inr fun e => hgD (Option.some.inj e)), (HI.out.2.1.trans (Same.grown hg3)).mono (fun k hk e => e.elim id (fun e => by cases e; omega)), HI.out.2.2.trans (belowK_b (w := w) (by omega) W D _ _ (by omega) hK rfl rfl)⟩
  case stop =>
    rintro D c pre W _ _ h _
    exact h.elim
/-- link: the places of one set go on to all of another -/
theorem link_any (R X base g cap : Nat) (ss : List S4) (hss : ∀ s ∈ ss, ok4 s) (s t : S4) (hs : ok4 s) (ht : ok4 t) (w : World) (hR : w.cell? ⟨R, 2, none⟩ = some (.pointer (some ⟨X, 0, none⟩))) (hX : w.cell? ⟨X, 0, none⟩ = some (.slice (some ⟨g, 0, none⟩) ss.length cap)) (hRg : R ≠ g) (hXg : X ≠ g) (hrow : OwnSets w base g cap ss)
    (hin : ∀ p ∈ plTo s.1 s.2.1 s.2.2.1 s.2.2.2 4, p < ss.length) (hT : TzAt w) (hb0 : 0 < base) :
    Calls Tryz.prog 86 #[.pointer (some ⟨R, 0, none⟩), .agg (v4 s), .agg (v4 t)] w fun e w' => e = .returned (.tuple #[]) ∧ OwnSets w' base g cap (linkAll t ss (plTo s.1 s.2.1 s.2.2.1 s.2.2.2 4)) ∧ Same w w' (fun k => k = g) ∧ Below base w w' :=
  callsIn_wide.1 (link_in R X base g cap ss hss s t hs ht w hR hX hRg hXg hrow hin hT hb0)
end Go.Proofs.YtphjbbbnbmafnabGreatDoor.G

namespace Go.Proofs.YtphjbbbnbmafnabGreatDoor.G
open Go.Proofs.YtphjbbbnbmafnabGreatDoor.RxM Rx

/-- is a place in a set? -/
def mem4 (s : S4) (p : Nat) : Bool := memW [s.1, s.2.1, s.2.2.1, s.2.2.2] p
theorem mem4_or (s t : S4) (p : Nat) : mem4 (or4 s t) p = (mem4 s p || mem4 t p) := by
  unfold mem4 memW or4
  simp only
  match p / 64 with
  | 0 => simp [Nat.testBit_or]
  | 1 => simp [Nat.testBit_or]
  | 2 => simp [Nat.testBit_or]
  | 3 => simp [Nat.testBit_or]
  | i + 4 => simp
theorem mem4_zero (p : Nat) : mem4 (0, 0, 0, 0) p = false := by
  unfold mem4 memW
  simp only
  match p / 64 with
  | 0 => simp
  | 1 => simp
  | 2 => simp
  | 3 => simp
  | i + 4 => simp
theorem bit_one (a b : Nat) : (2 ^ a).testBit b = (b == a) := by
  rw [Nat.testBit_two_pow]
  by_cases h : a = b
  · simp [h]
  · rw [decide_eq_false h]
    symm
    simpa using fun e : b = a => h e.symm
theorem mem4_one {p : Nat} (hp : p < 256) (q : Nat) : mem4 (one4 p) q = (q == p) := by
  unfold mem4 memW one4
  simp only
  have e : (q == p) = (decide (q / 64 = p / 64) && (q % 64 == p % 64)) := by
    rw [Bool.eq_iff_iff]
    simp only [beq_iff_eq, Bool.and_eq_true, decide_eq_true_eq]
    omega
  rw [e]
  have h4 : p / 64 < 4 := by omega
  generalize p / 64 = a at *
  generalize q / 64 = b at *
  match b with
  | 0 => by_cases h : a = 0 <;> simp [h, bit_one, eq_comm (a := (0 : Nat)) (b := a)]
  | 1 => by_cases h : a = 1 <;> simp [h, bit_one, eq_comm (a := (1 : Nat)) (b := a)]
  | 2 => by_cases h : a = 2 <;> simp [h, bit_one, eq_comm (a := (2 : Nat)) (b := a)]
  | 3 => by_cases h : a = 3 <;> simp [h, bit_one, eq_comm (a := (3 : Nat)) (b := a)]
  | i + 4 =>
    have h : ¬ (i + 4 = a) := by omega
    simp [h]
theorem ok4_one (p : Nat) : ok4 (one4 p) := by
  have h : 2 ^ (p % 64) < 18446744073709551616 := Nat.pow_lt_pow_right (a := 2) (n := 64) (by decide) (by omega)
  unfold ok4 one4
  simp only
  refine ⟨?_, ?_, ?_, ?_⟩ <;> (split; exact h; decide)
theorem ok4_zero : ok4 (0, 0, 0, 0) := ⟨by decide, by decide, by decide, by decide⟩
theorem mem_plTo {s : S4} {p : Nat} : p ∈ plTo s.1 s.2.1 s.2.2.1 s.2.2.2 4 ↔ mem4 s p = true := by
  unfold plTo mem4
  rw [show [s.1, s.2.1, s.2.2.1, s.2.2.2].take 4 = [s.1, s.2.1, s.2.2.1, s.2.2.2] from rfl, mem_placesW]
  simp
theorem mem4_orAll (ss : List S4) (ps : List Nat) (q : Nat) : mem4 (orAll ss ps) q = true ↔ ∃ p ∈ ps, mem4 (ss.getD p (0, 0, 0, 0)) q = true := by
  have : ∀ (ps : List Nat) (acc : S4), mem4 (ps.foldl (fun acc p => or4 acc (ss.getD p (0, 0, 0, 0))) acc) q = true ↔ mem4 acc q = true ∨ ∃ p ∈ ps, mem4 (ss.getD p (0, 0, 0, 0)) q = true := by
    intro ps
    induction ps with
    | nil => intro acc; simp
    | cons x ps ih =>
      intro acc
      rw [List.foldl_cons, ih, mem4_or, Bool.or_eq_true]
      simp [or_assoc]
  unfold orAll
  rw [this, mem4_zero]
  simp
/-- a row behind links: which places were linked -/
theorem linkAll_get (t : S4) (ps : List Nat) (ss : List S4) (p q : Nat) (hp : p < ss.length) : mem4 ((linkAll t ss ps).getD p (0, 0, 0, 0)) q = (mem4 (ss.getD p (0, 0, 0, 0)) q || (decide (p ∈ ps) && mem4 t q)) := by
  induction ps generalizing ss with
  | nil => simp [linkAll]
  | cons x ps ih =>
    show mem4 ((linkAll t (ss.set x (or4 (ss.getD x (0, 0, 0, 0)) t)) ps).getD p (0, 0, 0, 0)) q = _
    rw [ih _ (by simpa using hp)]
    by_cases e : x = p
    · subst e
      rw [List.getD_eq_getElem?_getD, List.getElem?_set_self hp, Option.getD_some, mem4_or]
      simp only [List.mem_cons, true_or, decide_true, Bool.true_and]
      cases mem4 t q <;> simp
    · rw [List.getD_eq_getElem?_getD, List.getElem?_set_ne e, ← List.getD_eq_getElem?_getD]
      have : decide (p ∈ x :: ps) = decide (p ∈ ps) := by
        refine decide_eq_decide.2 ?_
        simp only [List.mem_cons]
        exact ⟨fun h => h.resolve_left fun h => e h.symm, .inr⟩
      rw [this]
theorem linkAll_old (t : S4) (ps : List Nat) (ss : List S4) (p : Nat) (hp : p ∉ ps) : (linkAll t ss ps)[p]? = ss[p]? := by
  induction ps generalizing ss with
  | nil => rfl
  | cons x ps ih =>
    show (linkAll t (ss.set x (or4 (ss.getD x (0, 0, 0, 0)) t)) ps)[p]? = _
    rw [ih _ fun h => hp (by simp [h]), List.getElem?_set_ne fun e => hp (by simp [e])]
/-- an expression is laid behind what was there -/
structure Laid (t : Rx) (ss ts ss2 ts2 : List S4) : Prop where
  len : ss2.length = ss.length + size t
  old : ∀ p, p < ss.length → ss2[p]? = ss[p]?
  nx : ∀ p q, ss.length ≤ p → p < ss2.length → mem4 (ss2.getD p (0, 0, 0, 0)) q = nxt t ss.length p q
  tlen : ts2.length = ts.length
  tk : ∀ c q, c < ts.length → mem4 (ts2.getD c (0, 0, 0, 0)) q = (mem4 (ts.getD c (0, 0, 0, 0)) q || (decide (ss.length ≤ q) && decide (q < ss.length + size t) && takes (lab t ss.length q) c))
/-- what there is to know of a part: first, last, empty -/
abbrev P4 := S4 × S4 × Bool
structure IsPart (P : P4) (t : Rx) (k : Nat) : Prop where
  ok1 : ok4 P.1
  ok2 : ok4 P.2.1
  fs : ∀ q, mem4 P.1 q = fst t k q
  ls : ∀ q, mem4 P.2.1 q = lst t k q
  em : P.2.2 = nul t
/-- one part behind the other; a part behind itself; one or the other -/
def join4 (x y : P4) : P4 := (if x.2.2 then or4 x.1 y.1 else x.1, if y.2.2 then or4 y.2.1 x.2.1 else y.2.1, x.2.2 && y.2.2)
def star4 (x : P4) : P4 := (x.1, x.2.1, true)
def alt4 (x y : P4) : P4 := (or4 x.1 y.1, or4 x.2.1 y.2.1, x.2.2 || y.2.2)
theorem isPart_eps (k : Nat) : IsPart ((0, 0, 0, 0), (0, 0, 0, 0), true) eps k := ⟨ok4_zero, ok4_zero, fun q => mem4_zero q, fun q => mem4_zero q, rfl⟩
theorem isPart_sym {k : Nat} (hk : k < 256) (l : Option Nat) : IsPart (one4 k, one4 k, false) (sym l) k := ⟨ok4_one k, ok4_one k, fun q => by rw [mem4_one hk]; rfl, fun q => by rw [mem4_one hk]; rfl, rfl⟩
theorem IsPart.star {P : P4} {t : Rx} {k : Nat} (h : IsPart P t k) : IsPart (star4 P) (star t) k := ⟨h.ok1, h.ok2, h.fs, h.ls, rfl⟩
theorem IsPart.cat {P Q : P4} {a b : Rx} {k : Nat} (h : IsPart P a k) (h2 : IsPart Q b (k + size a)) : IsPart (join4 P Q) (cat a b) k := by
  obtain ⟨f, l, e⟩ := P
  obtain ⟨f2, l2, e2⟩ := Q
  obtain ⟨o1, o2, hf, hl, he⟩ := h
  obtain ⟨o3, o4, hf2, hl2, he2⟩ := h2
  simp only at o1 o2 hf hl he o3 o4 hf2 hl2 he2
  unfold join4
  refine ⟨?_, ?_, fun q => ?_, fun q => ?_, ?_⟩
  · simp only; split; exact ok4_or o1 o3; exact o1
  · simp only; split; exact ok4_or o4 o2; exact o4
  · simp only [fst, ← he]
    cases e
    · simp [hf]
    · simp [mem4_or, hf, hf2]
  · simp only [lst, ← he2]
    cases e2
    · simp [hl2]
    · simp [mem4_or, hl, hl2]
  · simp only [nul, he, he2]
theorem IsPart.alt {P Q : P4} {a b : Rx} {k : Nat} (h : IsPart P a k) (h2 : IsPart Q b (k + size a)) : IsPart (alt4 P Q) (alt a b) k :=
  ⟨ok4_or h.ok1 h2.ok1, ok4_or h.ok2 h2.ok2, fun q => by unfold alt4; simp only [mem4_or, fst, h.fs, h2.fs], fun q => by unfold alt4; simp only [mem4_or, lst, h.ls, h2.ls], by unfold alt4; simp only [nul, h.em, h2.em]⟩
theorem IsPart.void {P : P4} {a : Rx} {k : Nat} (h : IsPart P a k) : IsPart P (Rx.alt Rx.void a) k :=
  ⟨h.ok1, h.ok2, fun q => by rw [h.fs]; simp [fst, size], fun q => by rw [h.ls]; simp [lst, size], by rw [h.em]; simp [nul]⟩
theorem laid_eps (ss ts : List S4) : Laid eps ss ts ss ts :=
  ⟨rfl, fun _ _ => rfl, fun p q h1 h2 => by omega, rfl, fun c q _ => by
    rw [show size eps = 0 from rfl]
    have : (decide (ss.length ≤ q) && decide (q < ss.length + 0)) = false := by
      rw [Bool.and_eq_false_iff, decide_eq_false_iff_not, decide_eq_false_iff_not]; omega
    rw [this]; simp⟩
theorem Laid.void {t : Rx} {ss ts ss2 ts2 : List S4} (h : Laid t ss ts ss2 ts2) : Laid (alt void t) ss ts ss2 ts2 := by
  refine ⟨by rw [h.len]; simp [size], h.old, fun p q h1 h2 => ?_, h.tlen, fun c q hc => ?_⟩
  · rw [h.nx p q h1 h2]; simp [nxt, size]
  · rw [h.tk c q hc]; simp [size, lab, labs]
/-- a new place: a row grows by an empty set, and the labels' sets by the place -/
theorem laid_sym (l : Option Nat) (ss ts ts2 : List S4) (hlen : ts2.length = ts.length) (h : ∀ c q, c < ts.length → mem4 (ts2.getD c (0, 0, 0, 0)) q = (mem4 (ts.getD c (0, 0, 0, 0)) q || (q == ss.length && takes l c))) : Laid (sym l) ss ts (ss ++ [(0, 0, 0, 0)]) ts2 := by
  refine ⟨by simp [size], fun p hp => List.getElem?_append_left hp, fun p q h1 h2 => ?_, hlen, fun c q hc => ?_⟩
  · have e : p = ss.length := by simp at h2; omega
    subst e
    rw [List.getD_eq_getElem?_getD, List.getElem?_append_right (Nat.le_refl _), Nat.sub_self]
    simp [mem4_zero, nxt]
  · rw [h c q hc]
    congr 1
    by_cases e : q = ss.length
    · subst e; simp [size, lab, labs]
    · have : (decide (ss.length ≤ q) && decide (q < ss.length + size (sym l))) = false := by
        rw [Bool.and_eq_false_iff, decide_eq_false_iff_not, decide_eq_false_iff_not, show size (sym l) = 1 from rfl]; omega
      rw [this]; simp [e]
theorem Laid.star {t : Rx} {ss ts ss2 ts2 : List S4} {P : P4} (h : Laid t ss ts ss2 ts2) (hP : IsPart P t ss.length) : Laid (star t) ss ts (linkAll P.1 ss2 (plTo P.2.1.1 P.2.1.2.1 P.2.1.2.2.1 P.2.1.2.2.2 4)) ts2 := by
  have hm : ∀ p, p ∈ plTo P.2.1.1 P.2.1.2.1 P.2.1.2.2.1 P.2.1.2.2.2 4 ↔ lst t ss.length p = true := fun p => by rw [mem_plTo, hP.ls]
  refine ⟨by rw [linkAll_len, h.len]; rfl, fun p hp => ?_, fun p q h1 h2 => ?_, h.tlen, h.tk⟩
  · rw [linkAll_old _ _ _ _ fun hx => by have := lst_in _ _ _ ((hm p).1 hx); omega]
    exact h.old p hp
  · rw [linkAll_len] at h2
    rw [linkAll_get _ _ _ _ _ h2, h.nx p q h1 h2, hP.fs]
    simp only [nxt]
    congr 2
    rw [Bool.eq_iff_iff, decide_eq_true_eq, hm]
theorem Laid.alt {a b : Rx} {ss ts ss1 ts1 ss2 ts2 : List S4} (h : Laid a ss ts ss1 ts1) (h2 : Laid b ss1 ts1 ss2 ts2) : Laid (alt a b) ss ts ss2 ts2 := by
  have hl := h.len
  have hl2 := h2.len
  refine ⟨by rw [hl2, hl]; simp only [size]; omega, fun p hp => (h2.old p (by omega)).trans (h.old p hp), fun p q h3 h4 => ?_, h2.tlen.trans h.tlen, fun c q hc => ?_⟩
  · simp only [nxt]
    by_cases e : p < ss1.length
    · have e2 : ss2.getD p (0, 0, 0, 0) = ss1.getD p (0, 0, 0, 0) := by rw [List.getD_eq_getElem?_getD, List.getD_eq_getElem?_getD, h2.old p e]
      rw [e2, h.nx p q h3 e]
      cases hx : nxt b (ss.length + size a) p q with
      | false => simp
      | true => have := nxt_in _ _ _ _ hx; omega
    · rw [h2.nx p q (by omega) h4, hl]
      cases hx : nxt a ss.length p q with
      | false => simp
      | true => have := nxt_in _ _ _ _ hx; omega
  · rw [h2.tk c q (by rw [h.tlen]; exact hc), h.tk c q hc, hl, Bool.or_assoc]
    congr 1
    have hs : size (Rx.alt a b) = size a + size b := rfl
    have hb : lab (Rx.alt a b) ss.length q = (labs a ++ labs b).getD (q - ss.length) none := rfl
    rw [hb]
    by_cases e : q < ss.length + size a
    · have d1 : decide (ss.length + size a ≤ q) = false := decide_eq_false (by omega)
      have d2 : decide (q < ss.length + size a) = true := decide_eq_true e
      have d3 : decide (q < ss.length + size (Rx.alt a b)) = true := decide_eq_true (by omega)
      rw [d1, d2, d3]
      by_cases e3 : ss.length ≤ q
      · rw [lab_l ⟨e3, e⟩]; simp
      · simp [e3]
    · have d1 : decide (ss.length + size a ≤ q) = true := decide_eq_true (by omega)
      have d2 : decide (q < ss.length + size a) = false := decide_eq_false e
      have d3 : decide (ss.length ≤ q) = true := decide_eq_true (by omega)
      have d4 : decide (q < ss.length + size a + size b) = decide (q < ss.length + size (Rx.alt a b)) := decide_eq_decide.2 (by omega)
      rw [d1, d2, d3, d4, lab_r (by omega)]
      simp
theorem Laid.cat {a b : Rx} {ss ts ss1 ts1 ss2 ts2 : List S4} {P Q : P4} (h : Laid a ss ts ss1 ts1) (h2 : Laid b ss1 ts1 ss2 ts2) (hP : IsPart P a ss.length) (hQ : IsPart Q b ss1.length) : Laid (cat a b) ss ts (linkAll Q.1 ss2 (plTo P.2.1.1 P.2.1.2.1 P.2.1.2.2.1 P.2.1.2.2.2 4)) ts2 := by
  have hc := h.alt h2
  have hl := h.len
  have hm : ∀ p, p ∈ plTo P.2.1.1 P.2.1.2.1 P.2.1.2.2.1 P.2.1.2.2.2 4 ↔ lst a ss.length p = true := fun p => by rw [mem_plTo, hP.ls]
  refine ⟨by rw [linkAll_len, hc.len]; rfl, fun p hp => ?_, fun p q h1 h3 => ?_, hc.tlen, hc.tk⟩
  · rw [linkAll_old _ _ _ _ fun hx => by have := lst_in _ _ _ ((hm p).1 hx); omega]
    exact hc.old p hp
  · rw [linkAll_len] at h3
    rw [linkAll_get _ _ _ _ _ h3, hc.nx p q h1 h3, hQ.fs]
    simp only [nxt, ← hl]
    congr 2
    rw [Bool.eq_iff_iff, decide_eq_true_eq, hm]
end Go.Proofs.YtphjbbbnbmafnabGreatDoor.G

/-
  The walk's edgesFrom: the edges from a node, asked for once.
  The walk's goOn: a node that waits is taken, and ways go along the edges from it.
-/
import Derived.Test.YtphjbbbnbmafnabGreatDoorXCo
import Derived.Test.YtphjbbbnbmafnabGreatDoorRxN
namespace Go.Proofs.YtphjbbbnbmafnabGreatDoor.G
open Go.RowKit Go.Shelf Go.Proofs.YtphjbbbnbmafnabGreatDoor.RxM

variable {outs : Nat → List E3}
/-- Graph.Out keeps its word in every world behind w0 -/
def OutC (outs : Nat → List E3) (w0 : World) (Gp n : Nat) : Prop := ∀ W, Below w0.heap.size w0 W → ∀ u : Nat, u < n → Calls Tryz.prog 27 #[.pointer (some ⟨Gp, 0, none⟩), .int .i64 (u : Int)] W fun e w' => ∃ v, e = .returned (.tuple #[v, .int .i64 0]) ∧ OwnE W w' v (outs u)
def EdPost (outs : Nat → List E3) (w : World) (base K Gp X n gs : Nat) (wv : Value) (l : List Wst) (wait : List Nat) (u : Nat) (x : Wst) (e : Ending) (w' : World) : Prop :=
  ∃ v l', e = .returned v ∧ WkAt outs w' base K Gp X n gs wv l' wait ∧ (l' = l ∨ l' = l.set u (x.1, x.2.1, v, true)) ∧ Same w w' (fun k => k = gs) ∧ Below base w w' ∧ w'.ownsRow base 41 3 v (outs u).length (flat (outs u)) ∧ ∀ g, v.ownBlock = some g → g ≠ K ∧ g ≠ gs ∧ wv.ownBlock ≠ some g
theorem own_edgesX {W : World} {base g n : Nat} {l : List Wst} (h : OwnSts W base g n l) {v : Nat} {x : Wst} (hx : l[v]? = some x) (a : Value) (b : Bool) : OwnSts ((W.setCell ⟨g, v * 10 + 8, none⟩ a).setCell ⟨g, v * 10 + 9, none⟩ (.bool b)) base g n (l.set v (x.1, x.2.1, a, b)) := by
  unfold OwnSts
  rw [← flat10_edges l v x hx a b]
  exact ((h.stored (v * 10 + 8) _).1.stored (v * 10 + 9) _).1
theorem WkAt.edges {w W : World} {base K Gp X n gs : Nat} {wv : Value} {l : List Wst} {wait : List Nat} (h : WkAt outs w base K Gp X n gs wv l wait) {u : Nat} {x : Wst} (hx : l[u]? = some x) (v : Value) (hO : OwnE w W v (outs u)) (hbase : base ≤ w.heap.size) :
    WkAt outs ((W.setCell ⟨gs, u * 10 + 8, none⟩ v).setCell ⟨gs, u * 10 + 9, none⟩ (.bool true)) base K Gp X n gs wv (l.set u (x.1, x.2.1, v, true)) wait ∧ Same w ((W.setCell ⟨gs, u * 10 + 8, none⟩ v).setCell ⟨gs, u * 10 + 9, none⟩ (.bool true)) (fun k => k = gs) ∧ Below base w ((W.setCell ⟨gs, u * 10 + 8, none⟩ v).setCell ⟨gs, u * 10 + 9, none⟩ (.bool true)) ∧ ((W.setCell ⟨gs, u * 10 + 8, none⟩ v).setCell ⟨gs, u * 10 + 9, none⟩ (.bool true)).ownsRow base 41 3 v (outs u).length (flat (outs u)) ∧ ∀ g, v.ownBlock = some g → g ≠ K ∧ g ≠ gs ∧ wv.ownBlock ≠ some g := by
  have hlt := h.lt
  have hw := h.below hO.2
  have hs : Same W ((W.setCell ⟨gs, u * 10 + 8, none⟩ v).setCell ⟨gs, u * 10 + 9, none⟩ (.bool true)) (fun k => k = gs) := ((Same.set W ⟨gs, u * 10 + 8, none⟩ v).trans (Same.set _ ⟨gs, u * 10 + 9, none⟩ (.bool true))).mono fun k _ e => e.elim id id
  have hn : ∀ g, v.ownBlock = some g → g ≠ K ∧ g ≠ gs ∧ wv.ownBlock ≠ some g := fun g e => by
    have := hO.1.lt g e
    refine ⟨by omega, by omega, fun e2 => ?_⟩
    have := (hlt.2.2 g e2).2
    omega
  have ho : W.ownsRow base 41 3 v (outs u).length (flat (outs u)) := by
    refine ⟨hO.1.1, ?_⟩
    rcases hO.1.2 with h0 | ⟨g, cap, cur, h1, h2, h3⟩
    · exact .inl h0
    · exact .inr ⟨g, cap, cur, h1, Nat.le_trans hbase h2, h3⟩
  have ho2 := own_same ho hs fun g e => (hn g e).2.1
  refine ⟨⟨hs.row hw.rK hw.ne.1, own_edgesX hw.os hx v true, own_same hw.ow hs (fun g e => (hw.ne.2 g e).2), by rw [List.length_set]; exact h.len, set_ok h.ok u (h.ok x (List.mem_of_getElem? hx)), hw.ne, h.bs, fun u2 y hy ha => ?_⟩, ((Same.below hO.2).trans hs).mono (fun k _ e => e.elim False.elim id), (((hO.2.mono hbase).setCell (p := ⟨gs, u * 10 + 8, none⟩) h.bs.2 v).setCell (p := ⟨gs, u * 10 + 9, none⟩) h.bs.2 (.bool true)), ho2, hn⟩
  by_cases e : u = u2
  · subst e
    rw [List.getElem?_set_self (List.getElem?_eq_some_iff.1 hx).1] at hy
    injection hy with hy
    subst hy
    exact ⟨ho2, hn⟩
  · rw [List.getElem?_set_ne e] at hy
    have := hw.ed u2 y hy ha
    exact ⟨own_same this.1 hs (fun g e => (this.2 g e).2.1), this.2⟩
set_option maxRecDepth 100000 in
set_option maxHeartbeats 8000000 in
theorem edges_any (w0 : World) (base K Gp X n gs : Nat) (wv : Value) (l : List Wst) (wait : List Nat) (u : Nat) (x : Wst) (hx : l[u]? = some x) (w : World) (h : WkAt outs w base K Gp X n gs wv l wait) (HOut : OutC outs w0 Gp n) (hw0 : Below w0.heap.size w0 w) :
    Calls Tryz.prog 90 #[.pointer (some ⟨K, 0, none⟩), .int .i64 (u : Int)] w (EdPost outs w base K Gp X n gs wv l wait u x) := by
  have hu : u < n := by rw [← h.len]; exact (List.getElem?_eq_some_iff.1 hx).1
  have hlt := h.lt
  have hbs := h.bs
  have huI : (u : Int) < (n : Int) := by omega
  obtain ⟨⟨k0, k1, k2, k3⟩, _⟩ := row4 h.rK
  obtain ⟨_, _, _, _, _, _, _, _, f8, f9⟩ := flat10_at l u _ hx
  have e8 := (h.os.cellAt (u * 10 + 8) (by omega)).trans f8
  have e9 := (h.os.cellAt (u * 10 + 9) (by omega)).trans f9
  obtain ⟨xs, xf, ev, ab_⟩ := x
  simp only at e8 e9
  have HO : Hid (Calls Tryz.prog 27 #[.pointer (some ⟨Gp, 0, none⟩), .int .i64 (u : Int)] w _) := HOut w hw0 u hu
  have HH : Hid _ := h
  have HX : Hid _ := hx
  clear f8 f9 h hx HOut
  cases ab_
  case true =>
    go_enter Tryz.func90, Tryz.ntmps90
    go_wp2
    go_ret
    have := HH.out.ed u _ HX.out rfl
    exact ⟨ev, l, rfl, HH.out, .inl rfl, (Same.below (Below.refl _ _)).mono (fun _ _ e => e.elim), Below.refl _ _, this.1, this.2⟩
  case false =>
    go_enter Tryz.func90, Tryz.ntmps90
    go_wp2_with fail
    refine HO.out.mono ?_
    rintro e w1 ⟨v, rfl, hO⟩
    have hed := HH.out.edges HX.out v hO (by omega)
    have hw1 := HH.out.below hO.2
    have z8 := hw1.os.frozenAt (u * 10 + 8)
    have z9' := hw1.os.frozenAt (u * 10 + 9)
    have d8 := cell_kept hO.2 _ _ e8
    have d9 := cell_kept hO.2 _ _ e9
    obtain ⟨a0, len, cap, hv⟩ : ∃ a0 len cap, v = .slice a0 len cap := by
      rcases hO.1.2 with ⟨h0, _⟩ | ⟨g, cap, cur, h1, _⟩
      · exact ⟨_, _, _, h0⟩
      · exact ⟨_, _, _, h1⟩
    subst hv
    have HED : Hid (_ ∧ _ ∧ _ ∧ _ ∧ _) := hed
    clear hed hw1 hO e8 e9
    go_wp2
    go_ret
    exact ⟨_, _, rfl, HED.out.1, .inr rfl, HED.out.2.1, HED.out.2.2.1, HED.out.2.2.2.1, HED.out.2.2.2.2⟩
end Go.Proofs.YtphjbbbnbmafnabGreatDoor.G

namespace Go.Proofs.YtphjbbbnbmafnabGreatDoor.G
open Go.RowKit Go.Shelf Go.Proofs.YtphjbbbnbmafnabGreatDoor.RxM

attribute [local go_sem] Oper.semAt_some
variable {outs : Nat → List E3}
/-- the last of those that wait is taken off -/
theorem WkAt.pop {w : World} {base K Gp X n gs g cap : Nat} {l : List Wst} {wt : List Nat} {u : Nat} (h : WkAt outs w base K Gp X n gs (.slice (some ⟨g, 0, none⟩) (wt.length + 1) cap) l (wt ++ [u])) :
    WkAt outs (w.setCell ⟨K, 3, none⟩ (.slice (some ⟨g, 0, none⟩) wt.length cap)) base K Gp X n gs (.slice (some ⟨g, 0, none⟩) wt.length cap) l wt := by
  have hs := Same.set w ⟨K, 3, none⟩ (.slice (some ⟨g, 0, none⟩) wt.length cap)
  have hne := h.ne.2 g rfl
  refine ⟨xset_row w K 3 _ _ _ _ h.rK, own_same h.os hs (fun k e => by simp only [Value.ownBlock, Option.some.injEq] at e; subst e; exact fun e => h.ne.1 e.symm), ?_, h.len, h.ok, h.ne, h.bs, fun u x hx ha => ?_⟩
  · refine own_same ?_ hs (fun k e => by simp only [Value.ownBlock, Option.some.injEq] at e; subst e; exact hne.1)
    obtain ⟨h1, h2⟩ := h.ow
    rcases h2 with ⟨h2, _⟩ | ⟨g2, cap2, cur, e, hb, hg, hnc, hcm, hcs, ht⟩
    · cases h2
    · injection e with e1 e2 e3
      injection e1 with e1
      injection e1 with e1
      subst e1 e3
      refine ⟨by simp, .inr ⟨g, cap, cur, rfl, hb, hg, by simp at hnc; omega, hcm, hcs, ?_⟩⟩
      have := congrArg (List.take wt.length) ht
      rw [List.take_take, ints_snoc] at this
      rw [List.length_append, List.length_singleton, Nat.mul_one, Nat.min_eq_left (by omega), List.take_left' (by simp)] at this
      rw [Nat.mul_one]
      exact this
  · have := h.ed u x hx ha
    exact ⟨own_same this.1 hs (fun g e => (this.2 g e).1), this.2⟩
def GoPost (outs : Nat → List E3) (t : Rx) (ss : List S4) (u0 : Nat) (w : World) (base K Gp X n gs T : Nat) (e : Ending) (w' : World) : Prop :=
  e = .returned (.tuple #[]) ∧ Below base w w' ∧ ∃ wv' l' wt', WkAt outs w' base K Gp X n gs wv' l' wt' ∧ Wk (bh0 t) (tk0 t) (Eof outs) u0 n ss.length (sa l') (sb l') wt' (fun _ _ _ _ => False) ∧ todo (sa l') wt' n ss.length < T
theorem flat3_at (l : List E3) (j : Nat) (e : E3) (h : l[j]? = some e) : (flat l)[j * 3]? = some (.int .i64 e.1) ∧ (flat l)[j * 3 + 1]? = some (.int .i64 e.2.1) ∧ (flat l)[j * 3 + 2]? = some (.int .i64 e.2.2) := by
  induction l generalizing j with
  | nil => simp at h
  | cons x l ih =>
    rw [show flat (x :: l) = .int .i64 x.1 :: .int .i64 x.2.1 :: .int .i64 x.2.2 :: flat l from rfl]
    cases j with
    | zero => simp at h; subst h; exact ⟨rfl, rfl, rfl⟩
    | succ j =>
      rw [List.getElem?_cons_succ] at h
      have := ih j h
      rw [show (j + 1) * 3 = j * 3 + 3 by omega]
      exact this
theorem SetsAt.below {w w' : World} {X o : Nat} {ss : List S4} (h : SetsAt w X o ss) (hB : Below w.heap.size w w') : SetsAt w' X o ss := by
  obtain ⟨g, off, cap, h1, h2⟩ := h
  refine ⟨g, off, cap, cell_kept hB _ _ h1, fun j s hs => ?_⟩
  obtain ⟨a, b, c, d⟩ := h2 j s hs
  exact ⟨cell_kept hB _ _ a, cell_kept hB _ _ b, cell_kept hB _ _ c, cell_kept hB _ _ d⟩
set_option maxRecDepth 100000 in
set_option maxHeartbeats 16000000 in
theorem goon_any (t : Rx) (ss ts : List S4) (en : S4) (s u0 : Nat) (w0 : World) (K Gp X n gs : Nat) (wv : Value) (l : List Wst) (wt : List Nat) (u : Nat) (w : World) (hE : ExAt w0 X s t ss ts en) (hT : TzAt w0) (HOut : OutC outs w0 Gp n) (hok : OutsOk outs n s) (hw0 : Below w0.heap.size w0 w)
    (h : WkAt outs w w0.heap.size K Gp X n gs wv l (wt ++ [u])) (hk : Wk (bh0 t) (tk0 t) (Eof outs) u0 n ss.length (sa l) (sb l) (wt ++ [u]) (fun _ _ _ _ => False)) (hTd : todo (sa l) (wt ++ [u]) n ss.length ≤ 5000000) :
    Calls Tryz.prog 58 #[.pointer (some ⟨K, 0, none⟩)] w (GoPost outs t ss u0 w w0.heap.size K Gp X n gs (todo (sa l) (wt ++ [u]) n ss.length)) := by
  have hu : u < n := hk.inv.lt u (by simp)
  have h0w : 0 < w0.heap.size := World.block_lt_of_cell? _ _ (hT 0 (by decide))
  obtain ⟨x, hx⟩ : ∃ x, l[u]? = some x := ⟨_, List.getElem?_eq_getElem (by rw [h.len]; exact hu)⟩
  obtain ⟨hk1, hk2, hk3⟩ := wk_take hx hk
  have hxo := h.ok x (List.mem_of_getElem? hx)
  have hlen : (wt ++ [u]).length = wt.length + 1 := by simp
  have hwtl : wt.length ≤ 5000000 := by unfold todo at hTd; rw [hlen] at hTd; omega
  have hwr : wrap64 (wt.length : Int) = (wt.length : Int) := by unfold wrap64; omega
  have how := h.ow
  rw [hlen] at how
  obtain ⟨gw, cap, rfl, _, hgw⟩ := how.form (by omega)
  have hlt := h.lt
  have hbs := h.bs
  have hcap : wt.length + 1 ≤ cap := by
    rcases how.2 with ⟨h2, _⟩ | ⟨g2, cap2, cur, e, _, _, hnc, _⟩
    · cases h2
    · injection e with e1 e2 e3
      omega
  have hcu : w.cell? ⟨gw, wt.length, none⟩ = some (.int .i64 (u : Int)) := by
    rw [how.cellAt wt.length (by omega), ints_snoc, List.getElem?_append_right (by simp)]
    simp
  have hp := h.pop
  obtain ⟨⟨k0, k1, k2, k3⟩, z0, z1, z2, z3⟩ := row4 h.rK
  obtain ⟨w1, hw1⟩ : ∃ w1, w1 = w.setCell ⟨K, 3, none⟩ (.slice (some ⟨gw, 0, none⟩) wt.length cap) := ⟨_, rfl⟩
  rw [← hw1] at hp
  have hb1 : Below w0.heap.size w w1 := by rw [hw1]; exact (Below.refl _ w).setCell (p := ⟨K, 3, none⟩) hbs.1 _
  have hz1 : w.heap.size ≤ w1.heap.size := by rw [hw1]; simp [World.setCell]
  have hi1 : (wt.length : Int) < ((wt.length + 1 : Nat) : Int) := by omega
  have hi2 : (wt.length : Int) ≤ (cap : Int) := by omega
  have HH : Hid (_ ∧ _ ∧ _ ∧ _) := ⟨hp, hb1, hw0.trans hb1, hx⟩
  have HK : Hid (_ ∧ _ ∧ _) := ⟨hk1, hk2, hk3⟩
  have HE : Hid (_ ∧ _ ∧ _ ∧ _) := ⟨hE, hT, HOut, hok⟩
  clear h hp hk hx hb1 hk1 hk2 hk3 hE hT HOut hok how
  go_enter Tryz.func58, Tryz.ntmps58
  go_upto_region 3 with fail
  rw [← hw1]
  have HW1 : Hid _ := hw1
  clear hw1 k0 k1 k2 k3 z0 z1 z2 z3 hcu
  obtain ⟨xs, ⟨r0, r1, r2, r3⟩, ev, ab_⟩ := x
  have huI : (u : Int) < (n : Int) := by omega
  obtain ⟨_, _, _, _, f4, f5, f6, f7, _⟩ := flat10_at l u _ HH.out.2.2.2
  have e4 := (HH.out.1.os.cellAt (u * 10 + 4) (by omega)).trans f4
  have e5 := (HH.out.1.os.cellAt (u * 10 + 5) (by omega)).trans f5
  have e6 := (HH.out.1.os.cellAt (u * 10 + 6) (by omega)).trans f6
  have e7 := (HH.out.1.os.cellAt (u * 10 + 7) (by omega)).trans f7
  simp only at e4 e5 e6 e7
  obtain ⟨⟨_, k1, k2, _⟩, _⟩ := row4 HH.out.1.rK
  have HBh : Hid (∀ W, Below w1.heap.size w1 W → Calls Tryz.prog 89 #[.pointer (some ⟨X, 0, none⟩), .agg #[.int .u64 (r0 : Int), .int .u64 (r1 : Int), .int .u64 (r2 : Int), .int .u64 (r3 : Int)]] W _) := (fun W hW => behind_any X ss HE.out.1.ex.ok1 (r0, r1, r2, r3) hxo.2 W ((HE.out.1.bh.below (HH.out.2.2.1.trans (hW.mono (by have := HH.out.2.2.1.size; omega)))).beh) (fun p hp => (HK.out.2.2 p (mem_plTo.1 hp)).2) (TzAt.below (w := w0) HE.out.2.1 (HH.out.2.2.1.trans (hW.mono (by have := HH.out.2.2.1.size; omega)))) (by have := hW.size; omega) : ∀ W, _)
  obtain ⟨bhd, hbe⟩ : ∃ bhd, orAll ss (plTo r0 r1 r2 r3 4) = bhd := ⟨_, rfl⟩
  have hbk : ok4 bhd := by rw [← hbe]; exact ok4_all HE.out.1.ex.ok1 _
  have hbd : ∀ q, mem4 bhd q = true ↔ ∃ p, mem4 (r0, r1, r2, r3) p = true ∧ bh0 t p q = true := fun q => by
    rw [← hbe, mem4_orAll]
    constructor
    · rintro ⟨p, hp, hq⟩
      have hp2 := mem_plTo (s := (r0, r1, r2, r3)).1 hp
      exact ⟨p, hp2, by rw [← HE.out.1.ex.bh p q (HK.out.2.2 p hp2).2]; exact hq⟩
    · rintro ⟨p, hp, hq⟩
      exact ⟨p, mem_plTo.2 hp, by rw [HE.out.1.ex.bh p q (HK.out.2.2 p hp).2]; exact hq⟩
  have HBd : Hid (_ ∧ _) := ⟨hbk, hbd⟩
  simp only [hbe] at HBh
  clear hbe hbk hbd f4 f5 f6 f7
  obtain ⟨b0, b1, b2, b3⟩ := bhd
  simp only [v4] at HBh
  go_cut [4] (fun s4 wx => ∃ b4, s4 = .pointer (some ⟨b4, 0, none⟩) ∧ Hid (w1.heap.size ≤ b4 ∧ wx.heap[b4]? = some (.cells #[.int .u64 (b0 : Int), .int .u64 (b1 : Int), .int .u64 (b2 : Int), .int .u64 (b3 : Int)] 114 (0, 0)) ∧ Below w1.heap.size w1 wx))
  case first =>
    have y0 := fun o => cell_kept (below1 w1 o) _ _ e4
    have y1 := fun o => cell_kept (below1 w1 o) _ _ e5
    have y2 := fun o => cell_kept (below1 w1 o) _ _ e6
    have y3 := fun o => cell_kept (below1 w1 o) _ _ e7
    have x1 := fun o => cell_kept (below1 w1 o) _ _ k1
    have x2 := fun o => cell_kept (below1 w1 o) _ _ k2
    go_region_with (refine (HBh.out _ (by first | exact (Below.refl _ _).drew | exact (below1 w1 _).drew)).mono ?_; rintro r w3 ⟨rfl, hB1⟩; try obtain ⟨⟨p0, p1, p2, p3⟩, p4, p5, p6, p7⟩ := row4 (heap_keep hB1 (heap_alloc_new w1 (.cells #[.int .u64 0, .int .u64 0, .int .u64 0, .int .u64 0] 114))))
    all_goals
      go_wp2_with fail
      go_meet
      case rel =>
        first
          | exact ⟨w3.heap.size, rfl, (((Below.refl w1.heap.size w1).drew).trans hB1).size, heap_alloc_new w3 _, (((Below.refl w1.heap.size w1).drew).trans hB1).alloc (((Below.refl w1.heap.size w1).drew).trans hB1).size _⟩
          | exact ⟨w1.heap.size, rfl, Nat.le_refl _, set4 (heap_keep hB1 (heap_alloc_new w1 (.cells #[.int .u64 0, .int .u64 0, .int .u64 0, .int .u64 0] 114))) _ _ _ _, set4_below (((below1 w1 (.cells #[.int .u64 0, .int .u64 0, .int .u64 0, .int .u64 0] 114)).drew).trans (hB1.mono (by simp))) (Nat.le_refl _) _ _ _ _⟩
  case rest =>
    obtain ⟨b4, rfl, HC⟩ := hcut
    have HD : Hid (_ ∧ _ ∧ _) := HC.out
    clear HC e4 e5 e6 e7 k1 k2
    have hb4 := HD.out.1
    have hlt1 := HH.out.1.lt
    have hW := HH.out.1.below HD.out.2.2
    have hbz : w0.heap.size ≤ w1.heap.size := HH.out.2.2.1.size
    obtain ⟨_, _, _, _, f4, f5, f6, f7, _⟩ := flat10_at l u _ HH.out.2.2.2
    have e4 := (hW.os.cellAt (u * 10 + 4) (by omega)).trans f4
    have e5 := (hW.os.cellAt (u * 10 + 5) (by omega)).trans f5
    have e6 := (hW.os.cellAt (u * 10 + 6) (by omega)).trans f6
    have e7 := (hW.os.cellAt (u * 10 + 7) (by omega)).trans f7
    simp only at e4 e5 e6 e7
    have z4' := hW.os.frozenAt (u * 10 + 4)
    have z5 := hW.os.frozenAt (u * 10 + 5)
    have z6 := hW.os.frozenAt (u * 10 + 6)
    have z7 := hW.os.frozenAt (u * 10 + 7)
    obtain ⟨⟨_, _, k2, _⟩, _⟩ := row4 hW.rK
    obtain ⟨w2, hw2⟩ : ∃ w2, w2 = ((((wc.setCell ⟨gs, u * 10 + 4, none⟩ (.int .u64 0)).setCell ⟨gs, u * 10 + 5, none⟩ (.int .u64 0)).setCell ⟨gs, u * 10 + 6, none⟩ (.int .u64 0)).setCell ⟨gs, u * 10 + 7, none⟩ (.int .u64 0)) := ⟨_, rfl⟩
    have hW2 : WkAt outs w2 w0.heap.size K Gp X n gs (.slice (some ⟨gw, 0, none⟩) wt.length cap) (l.set u (xs, z4, ev, ab_)) wt := by rw [hw2]; exact hW.fresh HH.out.2.2.2 z4 ok4_zero
    have hs2 : Same wc w2 (fun k => k = gs) := by rw [hw2]; exact same4 _ _ _ _ _ _ _ _ _ _
    have hb2 : Below w0.heap.size wc w2 := by rw [hw2]; exact below4 (Below.refl _ wc) hbs.2 _ _ _ _ _ _ _ _
    have q4 := hs2.row HD.out.2.1 (by omega)
    have hB2 : Below w0.heap.size w w2 := (HH.out.2.1.trans (HD.out.2.2.mono hbz)).trans hb2
    have hz2 : wc.heap.size ≤ w2.heap.size := hs2.1
    have hzc : b4 < wc.heap.size := (Array.getElem?_eq_some_iff.1 HD.out.2.1).1
    have HF : Hid (_ ∧ _ ∧ _) := ⟨hW2, hB2, q4⟩
    have HEm : Hid (∀ W, Calls Tryz.prog 88 #[.agg #[.int .u64 (b0 : Int), .int .u64 (b1 : Int), .int .u64 (b2 : Int), .int .u64 (b3 : Int)]] W _) := fun W => setempty_is (b0, b1, b2, b3) W
    clear hW hW2 hs2 hb2 hB2 f4 f5 f6 f7
    go_upto_region 5 with fail
    rw [← hw2]
    have HW2 : Hid _ := hw2
    clear hw2 e4 e5 e6 e7 z4' z5 z6 z7 k2
    obtain ⟨⟨t0, t1, t2, t3⟩, _⟩ := row4 q4
    clear q4
    go_wp2_with fail
    refine (HEm.out w2).mono ?_
    rintro e w3 ⟨rfl, hB3⟩
    have HG : Hid (_ ∧ _ ∧ _ ∧ _) := ⟨HF.out.1.below hB3, HF.out.2.1.trans (hB3.mono (by omega)), heap_keep hB3 HF.out.2.2, hB3.size⟩
    clear hB3 t0 t1 t2 t3
    by_cases hzz : (b0, b1, b2, b3) = z4
    · rw [decide_eq_true hzz]
      have HQ : Hid _ := hzz
      clear hzz
      go_wp2
      refine bodyPost_ret (results_none rfl _ _ _) rfl ⟨rfl, HG.out.2.1, _, _, wt, HG.out.1, wk_none HK.out.1 (fun p q hp => ?_), HK.out.2.1⟩
      cases hq : bh0 t p q with
      | false => rfl
      | true =>
        have := (HBd.out.2 q).2 ⟨p, hp, hq⟩
        rw [HQ.out, mem4_zero] at this
        cases this
    · rw [decide_eq_false hzz]
      clear hzz
      have hxu : (l.set u (xs, z4, ev, ab_))[u]? = some (xs, z4, ev, ab_) := List.getElem?_set_self (List.getElem?_eq_some_iff.1 HH.out.2.2.2).1
      have hw03 : Below w0.heap.size w0 w3 := hw0.trans HG.out.2.1
      go_wp2_with fail
      refine (edges_any w0 w0.heap.size K Gp X n gs (.slice (some ⟨gw, 0, none⟩) wt.length cap) (l.set u (xs, z4, ev, ab_)) wt u _ hxu w3 HG.out.1 HE.out.2.2.1 hw03).mono ?_
      rintro e w5 ⟨v, l5, rfl, hW5, hl5, hS5, hB5, hO5, hn5⟩
      have q5 := hS5.row HG.out.2.2.1 (by omega)
      have hk5 : Wk (bh0 t) (tk0 t) (Eof outs) u0 n ss.length (sa l5) (sb l5) wt (Lft outs u (r0, r1, r2, r3) 0) ∧ todo (sa l5) wt n ss.length < todo (sa l) (wt ++ [u]) n ss.length := by
        rcases hl5 with rfl | rfl
        · exact ⟨HK.out.1, HK.out.2.1⟩
        · have e1 : sa ((l.set u (xs, z4, ev, ab_)).set u (xs, z4, v, true)) = sa (l.set u (xs, z4, ev, ab_)) := by rw [List.set_set, sa_set, sa_set]
          have e2 : sb ((l.set u (xs, z4, ev, ab_)).set u (xs, z4, v, true)) = sb (l.set u (xs, z4, ev, ab_)) := by rw [List.set_set, sb_set, sb_set]
          show Wk _ _ _ _ _ _ (sa ((l.set u (xs, z4, ev, ab_)).set u (xs, z4, v, true))) (sb ((l.set u (xs, z4, ev, ab_)).set u (xs, z4, v, true))) _ _ ∧ todo (sa ((l.set u (xs, z4, ev, ab_)).set u (xs, z4, v, true))) wt n ss.length < _
          rw [e1, e2]
          exact ⟨HK.out.1, HK.out.2.1⟩
      obtain ⟨a0, lv, cv, hv, hlv⟩ : ∃ a0 lv cv, v = .slice a0 lv cv ∧ lv = (outs u).length := by
        rcases hO5.2 with ⟨h0, h1⟩ | ⟨g, cap, cur, h1, _⟩
        · exact ⟨_, _, _, h0, h1.symm⟩
        · exact ⟨_, _, _, h1, rfl⟩
      have hzw5 : w3.heap.size ≤ w5.heap.size := hS5.1
      have hz23 : w2.heap.size ≤ w3.heap.size := HG.out.2.2.2
      have HJ : Hid (_ ∧ _ ∧ _ ∧ _ ∧ _ ∧ _) := ⟨hW5, hk5, HG.out.2.1.trans hB5, q5, hO5, hn5⟩
      have hol := (HE.out.2.2.2 u hu).1
      subst hv
      subst hlv
      clear hW5 hl5 hS5 hB5 hO5 hn5 q5 hk5 hxu
      go_wp2
      go_loopw [56] (fun si wr => ∃ (j : Nat) (wv' : Value) (l' : List Wst) (wt' : List Nat), j ≤ (outs u).length ∧ si = .int .i64 (j : Int) ∧ Hid (WkAt outs wr w0.heap.size K Gp X n gs wv' l' wt' ∧ Wk (bh0 t) (tk0 t) (Eof outs) u0 n ss.length (sa l') (sb l') wt' (Lft outs u (r0, r1, r2, r3) j) ∧ todo (sa l') wt' n ss.length < todo (sa l) (wt ++ [u]) n ss.length ∧ Below w0.heap.size w wr ∧ wr.heap[b4]? = some (.cells #[.int .u64 (b0 : Int), .int .u64 (b1 : Int), .int .u64 (b2 : Int), .int .u64 (b3 : Int)] 114 (0, 0)) ∧ wr.ownsRow w0.heap.size 41 3 (.slice a0 (outs u).length cv) (outs u).length (flat (outs u)) ∧ (∀ g, (Value.slice a0 (outs u).length cv).ownBlock = some g → g ≠ K ∧ g ≠ gs ∧ wv'.ownBlock ≠ some g) ∧ (∀ g, wv'.ownBlock = some g → g ≠ b4))) (fun si _ => (outs u).length - (intOf si).toNat)
      case atStart => exact ⟨0, _, l5, wt, by omega, rfl, HJ.out.1, HJ.out.2.1.1, HJ.out.2.1.2, HJ.out.2.2.1, HJ.out.2.2.2.1, HJ.out.2.2.2.2.1, HJ.out.2.2.2.2.2, fun g e => by simp only [Value.ownBlock, Option.some.injEq] at e; omega⟩
      case round =>
        obtain ⟨j, wv', l', wt', hj, rfl, HR⟩ := hrel
        have HS : Hid (_ ∧ _ ∧ _ ∧ _ ∧ _ ∧ _ ∧ _ ∧ _) := HR.out
        clear HR
        by_cases hjl : j < (outs u).length
        · obtain ⟨e, he⟩ : ∃ e, (outs u)[j]? = some e := ⟨_, List.getElem?_eq_getElem hjl⟩
          obtain ⟨c, v1, rfl, hc, hv1⟩ := (HE.out.2.2.2 u hu).2 e (List.mem_of_getElem? he)
          obtain ⟨gv, cv2, hfv, hgv0, hgv1⟩ := HS.out.2.2.2.2.2.1.form (by omega)
          injection hfv with hfa _ hfc
          subst hfa
          subst hfc
          obtain ⟨g0, g1, g2⟩ := flat3_at _ j _ he
          have hj3 : j * 3 + 2 < (outs u).length * 3 := by omega
          have e0 := (HS.out.2.2.2.2.2.1.cellAt (j * 3) (by omega)).trans g0
          have e1 := (HS.out.2.2.2.2.2.1.cellAt (j * 3 + 1) (by omega)).trans g1
          have e2 := (HS.out.2.2.2.2.2.1.cellAt (j * 3 + 2) (by omega)).trans g2
          simp only at e0 e1 e2
          have hjI : (j : Int) < ((outs u).length : Int) := by omega
          obtain ⟨y, hy⟩ : ∃ y, l'[v1]? = some y := ⟨_, List.getElem?_eq_getElem (by rw [HS.out.1.len]; exact hv1)⟩
          obtain ⟨W6, hW6⟩ : ∃ W6, W6 = wr.alloc (.cells #[.int .i64 (u : Int), .int .i64 (c : Int), .int .i64 (v1 : Int)] 41) := ⟨_, rfl⟩
          have hJ6 : Below wr.heap.size wr W6 := by rw [hW6]; exact below1 _ _
          have q6 : W6.heap[wr.heap.size]? = some (.cells #[.int .i64 (u : Int), .int .i64 (c : Int), .int .i64 (v1 : Int)] 41 (0, 0)) := by rw [hW6]; exact heap_alloc_new wr _
          have hwW : w.heap.size ≤ wr.heap.size := HS.out.2.2.2.1.size
          have h0r : w0.heap.size ≤ wr.heap.size := Nat.le_trans hw0.size hwW
          have hB06 : Below w0.heap.size w0 W6 := (hw0.trans HS.out.2.2.2.1).trans (hJ6.mono h0r)
          have hW6k := HS.out.1.below hJ6
          have hb6 := heap_keep hJ6 HS.out.2.2.2.2.1
          have hz6 : wr.heap.size ≤ W6.heap.size := hJ6.size
          obtain ⟨tt, htt⟩ : ∃ tt, ts[c]? = some tt := ⟨_, List.getElem?_eq_getElem (by rw [HE.out.1.ex.tlen]; exact hc)⟩
          have htd : ts.getD c z4 = tt := by rw [List.getD_eq_getElem?_getD, htt]; rfl
          have htk := HE.out.1.ex.ok2 tt (List.mem_of_getElem? htt)
          obtain ⟨q0, q1, q2, q3⟩ := tt
          have HTk : Hid (∀ U, Calls Tryz.prog 92 #[.pointer (some ⟨X, 0, none⟩), .int .i64 (c : Int)] (ext W6 U) _) := (fun U => taking_any X ts c (q0, q1, q2, q3) (ext W6 U) (HE.out.1.tk.below (hB06.trans ((ext_below W6 U).mono (by omega)))) htt : ∀ U, _)
          have hbk := HBd.out.1
          have HAn : Hid (∀ W, Calls Tryz.prog 91 _ W _) := fun W => setand_any b0 b1 b2 b3 q0 q1 q2 q3 hbk.1 hbk.2.1 hbk.2.2.1 hbk.2.2.2 htk.1 htk.2.1 htk.2.2.1 htk.2.2.2 W
          have hwt' : wt'.length ≤ 10000000 := by have := HS.out.2.2.1; unfold todo at this hTd; omega
          have HCo : Hid (∀ U, Calls Tryz.prog 56 #[.pointer (some ⟨K, 0, none⟩), .int .i64 (v1 : Int), .agg #[.int .u64 ((b0 &&& q0 : Nat) : Int), .int .u64 ((b1 &&& q1 : Nat) : Int), .int .u64 ((b2 &&& q2 : Nat) : Int), .int .u64 ((b3 &&& q3 : Nat) : Int)]] (ext W6 U) _) := (fun U => come_any w0.heap.size K Gp X n gs wv' l' wt' v1 y hy (and4 (b0, b1, b2, b3) (q0, q1, q2, q3)) (ok4_and hbk) (ext W6 U) (hW6k.below (ext_below W6 U)) hwt' : ∀ U, _)
          obtain ⟨⟨_, k1, _, _⟩, _⟩ := row4 hW6k.rK
          obtain ⟨⟨t0, t1, t2, t3⟩, _⟩ := row4 hb6
          have d1 : W6.cell? ⟨wr.heap.size, 1, none⟩ = some (.int .i64 (c : Int)) := by rw [cell_of_row _ _ 1 _ _ _ q6]; rfl
          have d2 : W6.cell? ⟨wr.heap.size, 2, none⟩ = some (.int .i64 (v1 : Int)) := by rw [cell_of_row _ _ 2 _ _ _ q6]; rfl
          have x1 := fun U => ext_cell k1 U
          have y0 := fun U => ext_cell t0 U
          have y1 := fun U => ext_cell t1 U
          have y2 := fun U => ext_cell t2 U
          have y3 := fun U => ext_cell t3 U
          have m1 := fun U => ext_cell d1 U
          have m2 := fun U => ext_cell d2 U
          have HY : Hid (_ ∧ _ ∧ _) := ⟨hy, he, htd⟩
          have HB6 : Hid (_ ∧ _ ∧ _) := ⟨hB06, hJ6, hb6⟩
          clear k1 t0 t1 t2 t3 d1 d2 hW6k hb6 q6 g0 g1 g2 hy he htd htk htt hbk hB06 hJ6
          go_upto_region 9 with fail
          rw [← hW6]
          clear hW6 e0 e1 e2
          refine region_plain_lastT (n := 9) rfl (by kernel_rfl) (by kernel_rfl) (by kernel_rfl) ?_
          simp only [List.dropLast]
          repeat (gi_big_quiet_step (fail))
          refine wpQuietIn_step (by intros; intro; intros; trivial) (fun K hK => ?_)
          rw [if_pos (show Region.wanted _ _ = true from rfl)]
          gi_big_quiet_op
          apply Exists.intro
          refine ⟨fun u => ?_, ?_⟩
          · first
              | (refine ⟨fun h => by cases h, (callsIn_wide.2 (HTk.out _)).mono ?_⟩; rintro r w1 ⟨rfl, hB⟩; exact ⟨rfl, w1, ext_of (chain (ext_below _ _) hB)⟩)
              | (refine ⟨trivial, (callsIn_wide.2 (HTk.out _)).mono ?_⟩; rintro r w1 ⟨rfl, hB⟩; exact ⟨rfl, w1, ext_of (chain (ext_below _ _) hB)⟩)
              | (refine (callsIn_wide.2 (HTk.out _)).mono ?_; rintro r w1 ⟨rfl, hB⟩; exact ⟨rfl, w1, ext_of (chain (ext_below _ _) hB)⟩)
          refine hK _ ?_
          clear hK K
          repeat (gi_big_quiet_step (fail))
          refine wpQuietIn_step (by intros; intro; intros; trivial) (fun K hK => ?_)
          rw [if_pos (show Region.wanted _ _ = true from rfl)]
          gi_big_quiet_op
          apply Exists.intro
          refine ⟨fun u => ?_, ?_⟩
          · first
              | (refine ⟨fun h => by cases h, (callsIn_wide.2 (HAn.out _)).mono ?_⟩; rintro r w1 ⟨rfl, hB⟩; exact ⟨rfl, w1, ext_of (chain (ext_below _ _) hB)⟩)
              | (refine ⟨trivial, (callsIn_wide.2 (HAn.out _)).mono ?_⟩; rintro r w1 ⟨rfl, hB⟩; exact ⟨rfl, w1, ext_of (chain (ext_below _ _) hB)⟩)
              | (refine (callsIn_wide.2 (HAn.out _)).mono ?_; rintro r w1 ⟨rfl, hB⟩; exact ⟨rfl, w1, ext_of (chain (ext_below _ _) hB)⟩)
          refine hK _ ?_
          clear hK K
          repeat (gi_big_quiet_step (fail))
          refine wpQuietIn_nil ?_
          rintro wx ⟨U, rfl⟩
          simp only [List.getLast]
          refine ⟨by intros; trivial, ?_⟩
          go_simp
          refine (callsIn_wide.2 (HCo.out U)).mono ?_
          rintro e w7 ⟨rfl, hSm, hBm, wv7, hwv7, hW7⟩
          have hwk := wk_edge (outs := outs) HE.out.1.ex HY.out.2.1 hv1 hc HK.out.2.2 HY.out.1 HS.out.1.ok HS.out.2.1 (b0, b1, b2, b3) HBd.out.1 HBd.out.2
          rw [HY.out.2.2] at hwk
          have hBx := ext_below W6 U
          have hzx : W6.heap.size ≤ (ext W6 U).heap.size := hBx.size
          have hgr : b4 < wr.heap.size := (Array.getElem?_eq_some_iff.1 HS.out.2.2.2.2.1).1
          have hvn := HS.out.2.2.2.2.2.2.1 gv rfl
          have hvr := own_same (own_same HS.out.2.2.2.2.2.1 (Same.below HB6.out.2.1) (fun _ _ => id)) (Same.below hBx) (fun _ _ => id)
          have HN : Hid (_ ∧ _ ∧ _ ∧ _ ∧ _ ∧ _ ∧ _ ∧ _) := ⟨hW7, hwk.1, Nat.lt_of_le_of_lt hwk.2 HS.out.2.2.1, ((HS.out.2.2.2.1.trans (HB6.out.2.1.mono h0r)).trans (hBx.mono (by omega))).trans hBm, hSm.row (heap_keep hBx HB6.out.2.2) (fun e => by rcases e with e | e | e; omega; omega; exact HS.out.2.2.2.2.2.2.2 b4 e rfl), own_same hvr hSm (fun g e => by
            simp only [Value.ownBlock, Option.some.injEq] at e
            subst e
            rintro (e | e | e)
            · exact hvn.1 e
            · exact hvn.2.1 e
            · exact hvn.2.2 e), (fun g e => by
            simp only [Value.ownBlock, Option.some.injEq] at e
            subst e
            refine ⟨hvn.1, hvn.2.1, fun e2 => ?_⟩
            rcases hwv7 _ e2 with e3 | e3
            · exact hvn.2.2 e3
            · omega : ∀ g, (Value.slice (some ⟨gv, 0, none⟩) (outs u).length cv).ownBlock = some g → g ≠ K ∧ g ≠ gs ∧ wv7.ownBlock ≠ some g), (fun g e => by
            rcases hwv7 g e with e3 | e3
            · exact HS.out.2.2.2.2.2.2.2 g e3
            · omega : ∀ g, wv7.ownBlock = some g → g ≠ b4)⟩
          clear hSm hBm hwv7 hW7 hwk hBx hvr x1 y0 y1 y2 y3 m1 m2
          go_wp2
          go_roundw
          case rel => exact ⟨j + 1, _, _, _, by omega, by go_num, HN.out⟩
          case measure => simp [intOf]; omega
        · obtain rfl : j = (outs u).length := by omega
          go_wp2
          exact bodyPost_end (results_none rfl _ _ _) rfl ⟨rfl, HS.out.2.2.2.1, wv', l', wt', HS.out.1, wk_done HS.out.2.1, HS.out.2.2.1⟩
end Go.Proofs.YtphjbbbnbmafnabGreatDoor.G

/-
  The walk's edgesFrom: the edges from a node, asked for once.
-/
import Derived.Test.YtphjbbbnbmafnabGreatDoorXCo
import Derived.Test.YtphjbbbnbmafnabGreatDoorRxN
namespace Go.Proofs.YtphjbbbnbmafnabGreatDoor.G
open Go.RowKit Go.Shelf Go.Proofs.YtphjbbbnbmafnabGreatDoor.RxM

variable {outs : Nat → List E3}
/-- Graph.Out keeps its word in every world behind w0 -/
def OutC (outs : Nat → List E3) (w0 : World) (Gp n : Nat) : Prop := ∀ W, Below w0.heap.size w0 W → ∀ u : Nat, u < n → Calls Tryz.prog 27 #[.pointer (some ⟨Gp, 0, none⟩), .int .i64 (u : Int)] W fun e w' => ∃ v, e = .returned (.tuple #[v, .int .i64 0]) ∧ OwnE W w' v (outs u)
def EdPost (outs : Nat → List E3) (w : World) (base K Gp X n gs : Nat) (wv : Value) (l : List Wst) (wait : List Nat) (u : Nat) (x : Wst) (e : Ending) (w' : World) : Prop :=
  ∃ v l', e = .returned v ∧ WkAt outs w' base K Gp X n gs wv l' wait ∧ (l' = l ∨ l' = l.set u (x.1, x.2.1, v, true)) ∧ Same w w' (fun k => k = gs) ∧ Below base w w' ∧ w'.ownsRow base 41 3 v (outs u).length (flat (outs u)) ∧ ∀ g, v.ownBlock = some g → g ≠ K ∧ g ≠ gs ∧ wv.ownBlock ≠ some g
theorem own_edgesX {W : World} {base g n : Nat} {l : List Wst} (h : OwnSts W base g n l) {v : Nat} {x : Wst} (hx : l[v]? = some x) (a : Value) (b : Bool) : OwnSts ((W.setCell ⟨g, v * 10 + 8, none⟩ a).setCell ⟨g, v * 10 + 9, none⟩ (.bool b)) base g n (l.set v (x.1, x.2.1, a, b)) := by
  unfold OwnSts
  rw [← flat10_edges l v x hx a b]
  exact ((h.stored (v * 10 + 8) _).1.stored (v * 10 + 9) _).1
theorem WkAt.edges {w W : World} {base K Gp X n gs : Nat} {wv : Value} {l : List Wst} {wait : List Nat} (h : WkAt outs w base K Gp X n gs wv l wait) {u : Nat} {x : Wst} (hx : l[u]? = some x) (v : Value) (hO : OwnE w W v (outs u)) (hbase : base ≤ w.heap.size) :
    WkAt outs ((W.setCell ⟨gs, u * 10 + 8, none⟩ v).setCell ⟨gs, u * 10 + 9, none⟩ (.bool true)) base K Gp X n gs wv (l.set u (x.1, x.2.1, v, true)) wait ∧ Same w ((W.setCell ⟨gs, u * 10 + 8, none⟩ v).setCell ⟨gs, u * 10 + 9, none⟩ (.bool true)) (fun k => k = gs) ∧ Below base w ((W.setCell ⟨gs, u * 10 + 8, none⟩ v).setCell ⟨gs, u * 10 + 9, none⟩ (.bool true)) ∧ ((W.setCell ⟨gs, u * 10 + 8, none⟩ v).setCell ⟨gs, u * 10 + 9, none⟩ (.bool true)).ownsRow base 41 3 v (outs u).length (flat (outs u)) ∧ ∀ g, v.ownBlock = some g → g ≠ K ∧ g ≠ gs ∧ wv.ownBlock ≠ some g := by
  have hlt := h.lt
  have hw := h.below hO.2
  have hs : Same W ((W.setCell ⟨gs, u * 10 + 8, none⟩ v).setCell ⟨gs, u * 10 + 9, none⟩ (.bool true)) (fun k => k = gs) := ((Same.set W ⟨gs, u * 10 + 8, none⟩ v).trans (Same.set _ ⟨gs, u * 10 + 9, none⟩ (.bool true))).mono fun k _ e => e.elim id id
  have hn : ∀ g, v.ownBlock = some g → g ≠ K ∧ g ≠ gs ∧ wv.ownBlock ≠ some g := fun g e => by
    have := hO.1.lt g e
    refine ⟨by omega, by omega, fun e2 => ?_⟩
    have := (hlt.2.2 g e2).2
    omega
  have ho : W.ownsRow base 41 3 v (outs u).length (flat (outs u)) := by
    refine ⟨hO.1.1, ?_⟩
    rcases hO.1.2 with h0 | ⟨g, cap, cur, h1, h2, h3⟩
    · exact .inl h0
    · exact .inr ⟨g, cap, cur, h1, Nat.le_trans hbase h2, h3⟩
  have ho2 := own_same ho hs fun g e => (hn g e).2.1
  refine ⟨⟨hs.row hw.rK hw.ne.1, own_edgesX hw.os hx v true, own_same hw.ow hs (fun g e => (hw.ne.2 g e).2), by rw [List.length_set]; exact h.len, set_ok h.ok u (h.ok x (List.mem_of_getElem? hx)), hw.ne, h.bs, fun u2 y hy ha => ?_⟩, ((Same.below hO.2).trans hs).mono (fun k _ e => e.elim False.elim id), (((hO.2.mono hbase).setCell (p := ⟨gs, u * 10 + 8, none⟩) h.bs.2 v).setCell (p := ⟨gs, u * 10 + 9, none⟩) h.bs.2 (.bool true)), ho2, hn⟩
  by_cases e : u = u2
  · subst e
    rw [List.getElem?_set_self (List.getElem?_eq_some_iff.1 hx).1] at hy
    injection hy with hy
    subst hy
    exact ⟨ho2, hn⟩
  · rw [List.getElem?_set_ne e] at hy
    have := hw.ed u2 y hy ha
    exact ⟨own_same this.1 hs (fun g e => (this.2 g e).2.1), this.2⟩
set_option maxRecDepth 100000 in
set_option maxHeartbeats 8000000 in
theorem edges_any (w0 : World) (base K Gp X n gs : Nat) (wv : Value) (l : List Wst) (wait : List Nat) (u : Nat) (x : Wst) (hx : l[u]? = some x) (w : World) (h : WkAt outs w base K Gp X n gs wv l wait) (HOut : OutC outs w0 Gp n) (hw0 : Below w0.heap.size w0 w) :
    Calls Tryz.prog 90 #[.pointer (some ⟨K, 0, none⟩), .int .i64 (u : Int)] w (EdPost outs w base K Gp X n gs wv l wait u x) := by
  have hu : u < n := by rw [← h.len]; exact (List.getElem?_eq_some_iff.1 hx).1
  have hlt := h.lt
  have hbs := h.bs
  have huI : (u : Int) < (n : Int) := by omega
  obtain ⟨⟨k0, k1, k2, k3⟩, _⟩ := row4 h.rK
  obtain ⟨_, _, _, _, _, _, _, _, f8, f9⟩ := flat10_at l u _ hx
  have e8 := (h.os.cellAt (u * 10 + 8) (by omega)).trans f8
  have e9 := (h.os.cellAt (u * 10 + 9) (by omega)).trans f9
  obtain ⟨xs, xf, ev, ab_⟩ := x
  simp only at e8 e9
  have HO : Hid (Calls Tryz.prog 27 #[.pointer (some ⟨Gp, 0, none⟩), .int .i64 (u : Int)] w _) := HOut w hw0 u hu
  have HH : Hid _ := h
  have HX : Hid _ := hx
  clear f8 f9 h hx HOut
  cases ab_
  case true =>
    go_enter Tryz.func90, Tryz.ntmps90
    go_wp2
    go_ret
    have := HH.out.ed u _ HX.out rfl
    exact ⟨ev, l, rfl, HH.out, .inl rfl, (Same.below (Below.refl _ _)).mono (fun _ _ e => e.elim), Below.refl _ _, this.1, this.2⟩
  case false =>
    go_enter Tryz.func90, Tryz.ntmps90
    go_wp2_with fail
    refine HO.out.mono ?_
    rintro e w1 ⟨v, rfl, hO⟩
    have hed := HH.out.edges HX.out v hO (by omega)
    have hw1 := HH.out.below hO.2
    have z8 := hw1.os.frozenAt (u * 10 + 8)
    have z9' := hw1.os.frozenAt (u * 10 + 9)
    have d8 := cell_kept hO.2 _ _ e8
    have d9 := cell_kept hO.2 _ _ e9
    obtain ⟨a0, len, cap, hv⟩ : ∃ a0 len cap, v = .slice a0 len cap := by
      rcases hO.1.2 with ⟨h0, _⟩ | ⟨g, cap, cur, h1, _⟩
      · exact ⟨_, _, _, h0⟩
      · exact ⟨_, _, _, h1⟩
    subst hv
    have HED : Hid (_ ∧ _ ∧ _ ∧ _ ∧ _) := hed
    clear hed hw1 hO e8 e9
    go_wp2
    go_ret
    exact ⟨_, _, rfl, HED.out.1, .inr rfl, HED.out.2.1, HED.out.2.2.1, HED.out.2.2.2.1, HED.out.2.2.2.2⟩
end Go.Proofs.YtphjbbbnbmafnabGreatDoor.G

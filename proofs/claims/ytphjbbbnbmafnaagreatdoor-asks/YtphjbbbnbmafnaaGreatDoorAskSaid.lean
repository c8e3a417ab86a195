/-
  For every two sizes, every two lists of edges and every script, trellislaw.Asks returns true (two graphs that are built and opened answer, in turns, every question but Reach as the document says; lists that came out are their owner's), and each argument reads afterwards as it read before. The row lists math/bits.deBruijn64tab; the card ties it to the program's text. No other condition.
-/
import Derived.Test.YtphjbbbnbmafnaaGreatDoorOpenS
import Derived.Test.YtphjbbbnbmafnaaGreatDoorStq
import Derived.Test.YtphjbbbnbmafnaaGreatDoorCards
import Derived.Test.YtphjbbbnbmafnaaGreatDoorTie
import Derived.Deep.DeepHandedRow
import Derived.Lib.LaidTab
import Derived.Lib.TrailingZeros
namespace Go.Proofs.YtphjbbbnbmafnaaGreatDoor.G
open Go.RowKit

theorem steps6 : StepsTo 6 := fun w B N v1 v2 es is p n s L st hb hp hN hn _ hk hok => by
  obtain ⟨k, h, f, l, t, x1, x2, y1, y2, z1, z2, q⟩ := st
  obtain ⟨bf, bl, bt, _⟩ := hok
  simp only at hk bf bl bt ⊢
  by_cases h1 : 1 ≤ k
  · have hc : k = 1 ∨ k = 2 ∨ k = 3 ∨ k = 4 ∨ k = 5 ∨ k = 6 := by omega
    rcases hc with rfl | rfl | rfl | rfl | rfl | rfl
    · exact (step_size hb hp h f l t x1 x2 y1 y2 z1 z2 q).mono fun _ _ h => StepPost.two h
    · exact (step_edges hb hp hN hn h f l t x1 x2 y1 y2 z1 z2 q).mono fun _ _ h => StepPost.two h
    · exact (step_out hb hp hN hn h f l t x1 x2 y1 y2 z1 z2 q bf).mono fun _ _ h => StepPost.two h
    · exact (step_in hb hp hN hn h f l t x1 x2 y1 y2 z1 z2 q bt).mono fun _ _ h => StepPost.two h
    · exact (step_has hb hp h f l t x1 x2 y1 y2 z1 z2 q bf bl bt).mono fun _ _ h => StepPost.two h
    · exact (step_count hb hp h f l t x1 x2 y1 y2 z1 z2 q).mono fun _ _ h => StepPost.two h
  · exact (step_none hb h f l t x1 x2 y1 y2 z1 z2 q k (by omega)).mono fun _ _ h => StepPost.two h
set_option maxHeartbeats 2000000 in
set_option maxRecDepth 100000 in
theorem asks_any (z0 z1 z2 y0 y1 y2 : Int) (l m : List E3) (vl vm : Value) (a0 : Option Addr) (len cap : Nat) (S : Nat → Sp) (w : World) (hl : EdgesAt w vl l) (hlc : CapOk vl) (hll : l.length * 24 ≤ 140737488351232) (hm : EdgesAt w vm m) (hmc : CapOk vm) (hml : m.length * 24 ≤ 140737488351232) (hS : ScriptAt w a0 len S) (hlen : len * 104 ≤ 140737488351232) :
    Calls Tryz.prog 3 #[.agg #[.int .i64 z0, .int .i64 z1, .int .i64 z2], vl, .agg #[.int .i64 y0, .int .i64 y1, .int .i64 y2], vm, .slice a0 len cap] w fun e w' => e = .returned (.bool true) ∧ Below w.heap.size w w' := by
  obtain ⟨W0, hW0⟩ : ∃ W0, W0 = (w.alloc (.cells #[.int .i64 z0, .int .i64 z1, .int .i64 z2] 23)).alloc (.cells #[.int .i64 y0, .int .i64 y1, .int .i64 y2] 23) := ⟨_, rfl⟩
  have hJ : Below w.heap.size w W0 := by rw [hW0]; exact bel_al (below1 _ _)
  have hS2 : ScriptAt W0 a0 len S := fun i hi => by
    obtain ⟨h1, g, off, h2, c0, c1, c2, c3, c4, c5, c6, c7, c8, c9, c10, c11⟩ := hS i hi
    exact ⟨h1, g, off, h2, cell_kept hJ _ _ c0, cell_kept hJ _ _ c1, cell_kept hJ _ _ c2, cell_kept hJ _ _ c3, cell_kept hJ _ _ c4, cell_kept hJ _ _ c5, cell_kept hJ _ _ c6, cell_kept hJ _ _ c7, cell_kept hJ _ _ c8, cell_kept hJ _ _ c9, cell_kept hJ _ _ c10, cell_kept hJ _ _ c11⟩
  have HP : Hid (Calls Tryz.prog 5 _ W0 _) := plays_any 6 steps6 z0 z1 z2 y0 y1 y2 l m vl vm a0 len cap S W0 (hl.below hJ) hlc hll (hm.below hJ) hmc hml hS2 hlen
  have HJ : Hid _ := hJ
  clear hl hlc hm hmc hS hS2 hJ
  go_enter Tryz.func3, Tryz.ntmps3
  go_wp2_with fail
  rw [← hW0]
  refine (Calls.mono HP.out ?_)
  rintro e w1 ⟨rfl, hB1⟩
  have HB : Hid _ := chain HJ.out hB1
  have HW0 : Hid _ := hW0
  clear hB1 hW0 HP
  go_wp2
  go_ret
  exact ⟨rfl, HB.out⟩
end Go.Proofs.YtphjbbbnbmafnaaGreatDoor.G
namespace Go.Proofs.YtphjbbbnbmafnaaGreatDoor.asks
open Go.ChangeShapes Go.WideShapes Go.ChangeAt Go.RowKit Go.Proofs.YtphjbbbnbmafnaaGreatDoor.OpenE Go.Proofs.YtphjbbbnbmafnaaGreatDoor.OpenS

set_option maxRecDepth 100000 in
theorem contract (H : Type) (enc : TypeId × Value → H) (W : World) (base : Nat) (args : Array Value) (ds gs : List (DataW H)) (before : List MemPlace)
    (hval : ∀ (j : Nat) t v, Tryz.f3.params[j]? = some t → args[j]? = some v → Value.okWide Tryz.prog W .any base t v)
    (hW : DataW.Whole enc Tryz.prog Tryz.f3.params.toList Rows.asksSpec.vars false W args.toList ds gs before)
    (hsz : (DataW.weightsEach Tryz.prog (Tryz.f3.params.toList ++ Rows.asksSpec.plain.varTypes Tryz.prog) (ds ++ gs)).all (· ≤ reachBytes) = true) :
    Calls Tryz.prog 3 args W fun e W' => ∃ v, e = .returned v ∧ Rows.asksSpec.post enc Tryz.prog Tryz.f3 false true false false W args v W' := by
  have hW' := hW
  obtain ⟨p, q, hA0, hV, rfl, _, _⟩ := hW
  have hA : DataW.TrodAll enc Tryz.prog W 0 (fun _ => true) true Tryz.f3.params.toList args.toList ds p := hA0
  rw [Tryz.params3] at hA hval
  obtain ⟨v0, vs0, d0, ds0, p0, q0, hargs, rfl, rfl, h0, r0⟩ := trodAll_cons hA
  obtain ⟨v1, vs1, d1, ds1, p1, q1, rfl, rfl, rfl, h1, r1⟩ := trodAll_cons r0
  obtain ⟨v2, vs2, d2, ds2, p2, q2, rfl, rfl, rfl, h2, r2⟩ := trodAll_cons r1
  obtain ⟨v3, vs3, d3, ds3, p3, q3, rfl, rfl, rfl, h3, r3⟩ := trodAll_cons r2
  obtain ⟨v4, vs4, d4, ds4, p4, q4, rfl, rfl, rfl, h4, r4⟩ := trodAll_cons r3
  obtain ⟨rfl, rfl, rfl⟩ := trodAll_nil r4
  obtain rfl : args = #[v0, v1, v2, v3, v4] := by cases args; simp_all
  obtain ⟨rfl, rfl⟩ := trodVars_none hV
  obtain ⟨a1, len1, cap1, rfl⟩ := okWide_slice Tryz.underlying24 (hval 1 24 v1 rfl rfl)
  obtain ⟨a3, len3, cap3, rfl⟩ := okWide_slice Tryz.underlying24 (hval 3 24 v3 rfl rfl)
  obtain ⟨a4, len4, cap4, rfl⟩ := okWide_slice Tryz.underlying25 (hval 4 25 v4 rfl rfl)
  obtain ⟨cs0, rfl, hc0⟩ := okWide_struct Tryz.underlying23 (hval 0 23 v0 rfl rfl)
  obtain ⟨cs2, rfl, hc2⟩ := okWide_struct Tryz.underlying23 (hval 2 23 v2 rfl rfl)
  have k0 := h0
  have k1 := h1
  have k2 := h2
  have k3 := h3
  have k4 := h4
  have lt0 : ∀ x ∈ p0, x.block < W.heap.size := by obtain ⟨m, hm⟩ := k0; exact DataW.trod_lt m _ _ _ hm
  have lt1 : ∀ x ∈ p1, x.block < W.heap.size := by obtain ⟨m, hm⟩ := k1; exact DataW.trod_lt m _ _ _ hm
  have lt2 : ∀ x ∈ p2, x.block < W.heap.size := by obtain ⟨m, hm⟩ := k2; exact DataW.trod_lt m _ _ _ hm
  have lt3 : ∀ x ∈ p3, x.block < W.heap.size := by obtain ⟨m, hm⟩ := k3; exact DataW.trod_lt m _ _ _ hm
  have lt4 : ∀ x ∈ p4, x.block < W.heap.size := by obtain ⟨m, hm⟩ := k4; exact DataW.trod_lt m _ _ _ hm
  obtain ⟨l, hll, hE1, hcp1, hd1⟩ : ∃ l : List G.E3, l.length = len1 ∧ G.EdgesAt W (.slice a1 len1 cap1) l ∧ len1 ≤ cap1 ∧ (len1 = 0 ∨ ∃ elems spare, d1 = .slice elems spare ∧ elems.length = len1) := by
    obtain ⟨fuel, hf⟩ := h1
    exact edges_of hf
  obtain ⟨m, hml, hE3, hcp3, hd3⟩ : ∃ l : List G.E3, l.length = len3 ∧ G.EdgesAt W (.slice a3 len3 cap3) l ∧ len3 ≤ cap3 ∧ (len3 = 0 ∨ ∃ elems spare, d3 = .slice elems spare ∧ elems.length = len3) := by
    obtain ⟨fuel, hf⟩ := h3
    exact edges_of hf
  obtain ⟨S, hS, hd4⟩ : ∃ S : Nat → G.Sp, G.ScriptAt W a4 len4 S ∧ (len4 = 0 ∨ ∃ elems spare, d4 = .slice elems spare ∧ elems.length = len4) := by
    obtain ⟨fuel, hf⟩ := h4
    exact script_of hf
  obtain ⟨z0, z1, z2, rfl⟩ : ∃ z0 z1 z2 : Int, cs0 = #[.int .i64 z0, .int .i64 z1, .int .i64 z2] := by
    obtain ⟨fuel, hf⟩ := h0
    obtain ⟨z0, z1, z2, e⟩ := sizes3 hf
    exact ⟨z0, z1, z2, by cases cs0; simp_all [Value.cells]⟩
  obtain ⟨y0, y1, y2, rfl⟩ : ∃ z0 z1 z2 : Int, cs2 = #[.int .i64 z0, .int .i64 z1, .int .i64 z2] := by
    obtain ⟨fuel, hf⟩ := h2
    obtain ⟨z0, z1, z2, e⟩ := sizes3 hf
    exact ⟨z0, z1, z2, by cases cs2; simp_all [Value.cells]⟩
  have b1 : l.length * 24 ≤ 140737488351232 := by
    rw [hll]
    rcases hd1 with h | ⟨elems, spare, rfl, hel⟩
    · omega
    · have := sized_slice hsz (j := 1) (t := 24) (e := 38) rfl rfl Tryz.underlying24
      rw [bytesE] at this
      simp only [reachBytes] at this
      omega
  have b3 : m.length * 24 ≤ 140737488351232 := by
    rw [hml]
    rcases hd3 with h | ⟨elems, spare, rfl, hel⟩
    · omega
    · have := sized_slice hsz (j := 3) (t := 24) (e := 38) rfl rfl Tryz.underlying24
      rw [bytesE] at this
      simp only [reachBytes] at this
      omega
  have b4 : len4 * 104 ≤ 140737488351232 := by
    rcases hd4 with h | ⟨elems, spare, rfl, hel⟩
    · omega
    · have := sized_slice hsz (j := 4) (t := 25) (e := 42) rfl rfl Tryz.underlying25
      rw [bytesT] at this
      simp only [reachBytes] at this
      omega
  clear hA0 hsz
  refine (G.asks_any z0 z1 z2 y0 y1 y2 l m _ _ a4 len4 cap4 S W hE1 (fun a n c e => by cases e; exact hcp1) b1 hE3 (fun a n c e => by cases e; exact hcp3) b3 hS b4).mono fun e W' ⟨he, bel⟩ => ?_
  subst he
  exact ⟨_, rfl, _, _, _, [], _, [], hW', trodAll_mk1 (shut_bool Tryz.underlying4 _), (trodAll_cons_mk (Below.trod laidOut (by kernel_rfl) (of_decide_eq_true (by kernel_rfl)) k0 bel lt0) (trodAll_cons_mk (Below.trod laidOut (by kernel_rfl) (of_decide_eq_true (by kernel_rfl)) k1 bel lt1) (trodAll_cons_mk (Below.trod laidOut (by kernel_rfl) (of_decide_eq_true (by kernel_rfl)) k2 bel lt2) (trodAll_cons_mk (Below.trod laidOut (by kernel_rfl) (of_decide_eq_true (by kernel_rfl)) k3 bel lt3) (trodAll_cons_mk (Below.trod laidOut (by kernel_rfl) (of_decide_eq_true (by kernel_rfl)) k4 bel lt4) trodAll_mk0))))), rfl, bel.frame _, fun h => by cases h⟩

noncomputable def laidWorld (os : Os) : World :=
  { World.holding Tryz.prog os ⟨#[], #[], []⟩ with heap := (World.holding Tryz.prog os ⟨#[], #[], []⟩).heap.modify 0 fun
      | .cells _ t frozen => .cells (Lib.deBruijn64tab.map fun x : Nat => Value.int .u8 (x : Int)).toArray t frozen
      | o => o }
abbrev noArgs : Array Value := #[.agg #[.int .i64 0, .int .i64 0, .int .i64 0], .slice none 0 0, .agg #[.int .i64 0, .int .i64 0, .int .i64 0], .slice none 0 0, .slice none 0 0]
theorem laid_met (os : Os) : laidMet Tryz.prog Rows.asksRow.laid ((laidWorld os).forCall (fun _ _ => 0) ⟨#[], noArgs, []⟩).memory :=
  laidMet_of_run' 8 (by kernel_rfl) (by kernel_rfl)
theorem reads (os : Os) {H : Type} (enc : TypeId × Value → H) : ∃ places, DataW.whole enc Tryz.prog ((laidWorld os).forCall (fun _ _ => 0) ⟨#[], noArgs, []⟩).memory Tryz.f3.params.toList Rows.asksSpec.vars false noArgs.toList 8 = some ([.agg [.lit (.int .i64 0), .lit (.int .i64 0), .lit (.int .i64 0)], .nil, .agg [.lit (.int .i64 0), .lit (.int .i64 0), .lit (.int .i64 0)], .nil, .nil], [], places) :=
  ⟨[], by kernel_rfl⟩
set_option maxRecDepth 100000 in
theorem lifted (os : Os) (started : os.Started) (H : Type) (enc : TypeId × Value → H) (F : Stop.Interp) :
    ReturnsInHanded {} Tryz.checked os 3 .any ((OpenSpec.ofChange Rows.asksSpec).preRow enc Tryz.prog Tryz.f3 Rows.asksRow.domain false Rows.asksRow.laid) (((OpenSpec.ofChange Rows.asksSpec).at F).post enc Tryz.prog Tryz.f3 false true false false) := by
  obtain ⟨places, hx⟩ := reads os enc
  refine returnsInHanded_of_row (C := Tryz.checked) (s := OpenSpec.ofChange Rows.asksSpec) own started (by kernel_rfl) Tryz.func3
    (witness_row_at (enc := enc) (C := Tryz.checked) false (laidWorld os) noArgs rfl (by kernel_rfl) (by kernel_rfl) (by kernel_rfl)
      (OpenSpec.preRow_of_cond 8 hx (by kernel_rfl) (fun k hk => by cases hk) (by kernel_rfl) (laid_met os))) ?_
  intro W base args ds gs before hval hW _ _ hsz _ _ _
  exact contract H enc W base args ds gs before hval hW hsz
theorem said : Rows.AsksSaid :=
  OpenClaim.holds_of_cond 3 Tryz.f3 rfl rfl rfl rfl rfl rfl rfl ⟨rfl, rfl, rfl, rfl, rfl⟩ rfl rfl rfl rfl rfl (by kernel_rfl) Tryz.func3 (by kernel_rfl)
    (of_decide_eq_true (by kernel_rfl)) (by unfold Func.isWrapper; first | (rw [if_pos (by decide +kernel)]; kernel_rfl) | (rw [if_neg (by decide +kernel)]; exact ⟨rfl, rfl⟩))
    (fun os started H enc _ F => by rw [OpenClaim.pre_eq_preRow]; exact lifted os started H enc F)
theorem plain (f : FuncId) (fn : Func) (hf : Tryz.pinned.checked.prog.funcNamed "trellis/trellislaw.Asks" = some f) (hfn : Tryz.pinned.checked.prog.funcs[f]? = some fn) :
    false = Tryz.pinned.checked.prog.looks [] ∧ ∀ (j : Nat) t, fn.params[j]? = some t → Tryz.pinned.checked.prog.wantsStandIn t = false := by
  obtain rfl : f = 3 := Option.some.inj ((show Tryz.prog.funcNamed "trellis/trellislaw.Asks" = some 3 by kernel_rfl).symm.trans hf) |>.symm
  obtain rfl : fn = Tryz.f3 := (Option.some.inj (Tryz.func3.symm.trans hfn)).symm
  refine ⟨by kernel_rfl, fun j t ht => ?_⟩
  rw [Tryz.params3] at ht
  have hm : t ∈ [23, 24, 23, 24, 25] := by simpa using Array.mem_of_getElem? ht
  have hall : ([23, 24, 23, 24, 25].all fun u => !Tryz.prog.wantsStandIn u) = true := by kernel_rfl
  exact (show Tryz.prog.wantsStandIn t = false by simpa using List.all_eq_true.1 hall t hm)
end Go.Proofs.YtphjbbbnbmafnaaGreatDoor.asks
namespace Go.Proofs.YtphjbbbnbmafnaaGreatDoor
theorem asks_holds : Rows.AsksCardSaid :=
  Claim7.holds_tied_plain_at .later [] _ _ _ _ asks.said (fun _ h => by cases h) (by kernel_rfl) (fun _ h => by cases h) asks_row_tie rfl ⟨rfl, rfl⟩ (by kernel_rfl) rfl asks.plain (by kernel_rfl)
end Go.Proofs.YtphjbbbnbmafnaaGreatDoor

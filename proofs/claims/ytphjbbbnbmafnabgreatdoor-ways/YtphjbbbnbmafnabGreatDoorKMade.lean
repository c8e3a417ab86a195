/-
  trelliskeep.made: a list of edges out of raw numbers, each of which may be in a graph of 50 nodes and 4 labels, at most 500; nothing that was there is written.
-/
import Derived.Test.YtphjbbbnbmafnabGreatDoorNew
import Derived.Test.YtphjbbbnbmafnabGreatDoorPBuild
import Derived.Deep.RegionHeld3
import Derived.Deep.AppendLies
import Derived.Deep.DrawnRows
namespace Go.Proofs.YtphjbbbnbmafnabGreatDoor.G
open Go.RowKit

attribute [local go_sem ↓] Go.wp_at_zero Go.wp_at_succ
/-- a row of numbers that is handed in -/
abbrev RawAt (w : World) (a0 : Option Addr) (len : Nat) (R : Nat → Int) : Prop := (len = 0 ∨ ∃ b off, a0 = some ⟨b, off, none⟩ ∧ ∀ i, i < len → w.cell? ⟨b, off + i, none⟩ = some (.int .i64 (R i))) ∧ ∀ i, i < len → -9223372036854775808 ≤ R i ∧ R i ≤ 9223372036854775807
theorem own_edges' {B : Nat} {wr : World} {v : Value} {l : List E3} (h : wr.ownsRow B 41 3 v l.length (flat l)) : EdgesAt wr v l := by
  rcases h.2 with ⟨rfl, h0⟩ | ⟨g, cap, cur, rfl, _, hg, r1, r2, r3, r4⟩
  · obtain rfl : l = [] := List.eq_nil_of_length_eq_zero h0
    exact ⟨none, 0, rfl, fun j e hj => by cases hj⟩
  · refine ⟨some ⟨g, 0, none⟩, cap, rfl, fun j e hj => ⟨g, 0, rfl, ?_⟩⟩
    have hR : RowE wr g cap l := ⟨cur, hg, r3, r4⟩
    rw [Nat.zero_add]
    exact hR.cells hj
set_option maxHeartbeats 4000000 in
set_option maxRecDepth 100000 in
theorem made_any (a0 : Option Addr) (len cap : Nat) (R : Nat → Int) (w : World) (hr : RawAt w a0 len R) :
    Calls Tryz.prog 6 #[.slice a0 len cap] w fun e w' => ∃ v l, e = .returned v ∧ EdgesAt w' v l ∧ l.length ≤ 500 ∧ (∀ e ∈ l, Gm.edgeOk 50 4 e) ∧ Below w.heap.size w w' := by
  obtain ⟨hrow, hR⟩ := hr
  have HRow : Hid _ := hrow
  have HR : Hid _ := hR
  clear hrow hR
  obtain ⟨i0, hi, hz0, hz1, hz2⟩ := info_parts Tryz.infoE
  go_enter Tryz.func6, Tryz.ntmps6
  go_wp2
  go_loopw [3, 4] (fun sv si wr => ∃ (j : Nat) (l : List E3), j ≤ 1500 ∧ l.length ≤ 500 ∧ si = .int .i64 (j : Int) ∧ (∃ a1 c1, sv = .slice a1 l.length c1) ∧ Hid (j = 3 * l.length ∧ OwnE w wr sv l ∧ ∀ e ∈ l, Gm.edgeOk 50 4 e)) (fun _ si _ => 1500 - (intOf si).toNat)
  case atStart => exact ⟨0, [], Nat.zero_le _, Nat.zero_le _, rfl, ⟨none, 0, rfl⟩, rfl, ⟨World.ownsRow_nil _ _ _ _, Below.refl _ _⟩, fun e he => by cases he⟩
  case round =>
    obtain ⟨j, l, hj, hl, rfl, ⟨a1, cap1, rfl⟩, HI⟩ := hrel
    by_cases hgo : j + 2 < len ∧ j < 1500
    · obtain ⟨h1, h2⟩ := hgo
      rcases HRow.out with h0 | ⟨b, off, rfl, hc⟩
      · omega
      have c0 := cell_kept HI.out.2.1.2 _ _ (hc j (by omega))
      have c1 := cell_kept HI.out.2.1.2 _ _ (hc (j + 1) (by omega))
      have c2 := cell_kept HI.out.2.1.2 _ _ (hc (j + 2) (by omega))
      rw [show j + 2 = ((j : Int) + 2).toNat by omega] at c2
      have hbl := World.block_lt_of_cell? _ _ (hc j (by omega))
      have e0 := HR.out j (by omega)
      have e1 := HR.out (j + 1) (by omega)
      have e2 := HR.out (j + 2) (by omega)
      generalize R j = x0 at c0 e0
      generalize R (j + 1) = x1 at c1 e1
      rw [show j + 2 = ((j : Int) + 2).toNat by omega] at e2
      generalize R (((j : Int) + 2).toNat) = x2 at c2 e2
      have P0 : Hid (∀ W, Calls Tryz.prog 8 #[.int .i64 x0, .int .i64 50] W _) := fun W => pick_fn x0 50 e0 (by decide) (by decide) 50 rfl W
      have P1 : Hid (∀ W, Calls Tryz.prog 8 #[.int .i64 x1, .int .i64 4] W _) := fun W => pick_fn x1 4 e1 (by decide) (by decide) 4 rfl W
      have P2 : Hid (∀ W, Calls Tryz.prog 8 #[.int .i64 x2, .int .i64 50] W _) := fun W => pick_fn x2 50 e2 (by decide) (by decide) 50 rfl W
      have hp0 := pk_lt x0 50 (by decide)
      have hp1 := pk_lt x1 4 (by decide)
      have hp2 := pk_lt x2 50 (by decide)
      have hrw := HI.out.2.1.1
      have hszw := HI.out.2.1.2.size
      have hne : (Value.slice a1 l.length cap1).ownBlock ≠ some b := fun e => by have := (hrw.lt b e).1; simp at hbl; omega
      have l0 : (j : Int) < (len : Int) := by omega
      have l1 : (j : Int) + 1 < (len : Int) := by omega
      have l2 : (j : Int) + 2 < (len : Int) := by omega
      have l3 : (j : Int) < 1500 := by omega
      have k0 : (0 : Int) ≤ (j : Int) := by omega
      have k1 : (0 : Int) ≤ (j : Int) + 1 := by omega
      have k2 : (0 : Int) ≤ (j : Int) + 2 := by omega
      have m1 : IntKind.i64.wrap ((j : Int) + 1) = (j : Int) + 1 := by rw [IntKind.wrap_i64]; omega
      have m2 : IntKind.i64.wrap ((j : Int) + 2) = (j : Int) + 2 := by rw [IntKind.wrap_i64]; omega
      clear e0 e1 e2 hc
      go_wp2_with fail
      go_region_held3 (fun w' => w'.cell? ⟨b, off + j, none⟩ = some (.int .i64 x0) ∧ w'.cell? ⟨b, off + (j + 1), none⟩ = some (.int .i64 x1) ∧ w'.cell? ⟨b, off + ((j : Int) + 2).toNat, none⟩ = some (.int .i64 x2))
        (first
          | go_keep
          | (go_split_ands
             refine ⟨?_, ?_, ?_⟩
             · (rw [hgrow.cell_far _ (by simp; omega) (Ne.symm hne)]; assumption)
             · (rw [hgrow.cell_far _ (by simp; omega) (Ne.symm hne)]; assumption)
             · (rw [hgrow.cell_far _ (by simp; omega) (Ne.symm hne)]; assumption)))
        (first
          | (go_at_call_of 8 (Value.int IntKind.i64 x0); refine (P0.out _).mono ?_; rintro e w' ⟨rfl, rfl⟩)
          | (go_at_call_of 8 (Value.int IntKind.i64 x1); refine (P1.out _).mono ?_; rintro e w' ⟨rfl, rfl⟩)
          | (go_at_call_of 8 (Value.int IntKind.i64 x2); refine (P2.out _).mono ?_; rintro e w' ⟨rfl, rfl⟩)
          | ((refine step_append_lies _ (by rfl) _ _ _ (by rfl) w.heap.size 41 i0 _ 3 24 Tryz.underlying27 hi hz0 hz1 hz2 rfl (by omega) (.slice a1 l.length cap1) l.length (flat l) (by rfl) (((hrw.alloc _).drew).drew) ⟨wr.heap.size, 0, none⟩ 1 1 [.int .i64 (pk x0 50 : Int), .int .i64 (pk x1 4 : Int), .int .i64 (pk x2 50 : Int)] (by rfl) (by rfl) (World.news_of_block (cs := #[.int .i64 (pk x0 50 : Int), .int .i64 (pk x1 4 : Int), .int .i64 (pk x2 50 : Int)]) (t := 41) (fr := (0, 0)) (heap_alloc_new wr _)) (by simp [Value.oneCell']) (by omega) (by unfold maxLen; omega) (by omega) (by simp; omega) (wr.heap.size + 1) (by simp) ?_; intro gg gcap w1 hown1 hgrow hat hlt)))
      have HO : Hid (OwnE w w1 (.slice (some ⟨gg, 0, none⟩) (l.length + 1) gcap) (l ++ [((pk x0 50 : Int), (pk x1 4 : Int), (pk x2 50 : Int))])) := (by
        refine ⟨by rw [flat_snoc, List.length_append]; exact hown1, ?_⟩
        exact ((HI.out.2.1.2.alloc HI.out.2.1.2.size _).drew).grown hgrow (by simp; omega) (fun k hk => (hrw.lt k hk).1) : OwnE _ _ _ _)
      have HA : Hid (∀ e ∈ l ++ [((pk x0 50 : Int), (pk x1 4 : Int), (pk x2 50 : Int))], Gm.edgeOk 50 4 e) := (by
        intro e he
        rcases List.mem_append.1 he with h | h
        · exact HI.out.2.2 e h
        · rw [List.mem_singleton.1 h]
          refine ⟨?_, ?_, ?_, ?_, ?_, ?_⟩ <;> simp only <;> omega : ∀ e ∈ _, _)
      have HJ : Hid (j = 3 * l.length) := HI.out.1
      clear hown1 hgrow hat hlt hrw HI P0 P1 P2
      go_wp2
      go_roundw
      case rel => exact ⟨j + 3, l ++ [((pk x0 50 : Int), (pk x1 4 : Int), (pk x2 50 : Int))], by have := HJ.out; omega, by have := HJ.out; rw [List.length_append]; simp; omega, by go_num, ⟨_, gcap, by rw [List.length_append]; rfl⟩, by have := HJ.out; rw [List.length_append]; simp; omega, HO.out, HA.out⟩
      case measure => simp [intOf]; omega
    · have HE : Hid _ := own_edges' HI.out.2.1.1
      have HB : Hid _ := HI.out.2.1.2
      have HA : Hid _ := HI.out.2.2
      clear HI
      by_cases h1 : j + 2 < len
      · have h2 : ¬ (j : Int) < 1500 := by omega
        have h3 : (j : Int) + 2 < (len : Int) := by omega
        clear hgo
        go_wp2
        go_ret
        exact ⟨_, rfl, l, HE.out, hl, fun a b c h => HA.out (a, b, c) h, HB.out⟩
      · have h3 : ¬ (j : Int) + 2 < (len : Int) := by omega
        clear hgo
        go_wp2
        go_ret
        exact ⟨_, rfl, l, HE.out, hl, fun a b c h => HA.out (a, b, c) h, HB.out⟩
end Go.Proofs.YtphjbbbnbmafnabGreatDoor.G

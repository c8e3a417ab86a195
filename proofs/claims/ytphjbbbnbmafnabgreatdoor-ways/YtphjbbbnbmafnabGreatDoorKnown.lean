/-
  The program's Build: what it gives, at all numbers and lists of edges: the pages of the graph, or ErrInput; nothing that was there is written.
  trelliskeep.made: a list of edges out of raw numbers, each of which may be in a graph of 50 nodes and 4 labels, at most 500; nothing that was there is written.
  The document's example of a graph, as it is written: its size and its first bytes. No condition.
  trelliskeep.known returns true; nothing that was there is written. No condition.
-/
import Derived.Test.YtphjbbbnbmafnabGreatDoorInOrd
import Derived.Test.YtphjbbbnbmafnabGreatDoorPText
import Derived.Test.YtphjbbbnbmafnabGreatDoorGBits
import Derived.Deep.RegionHeld3
import Derived.Deep.AppendLies
import Derived.Deep.DrawnRows
namespace Go.Proofs.YtphjbbbnbmafnabGreatDoor.G
open Go.RowKit

theorem chain' {v : World} {w a b : World} (h1 : Below v.heap.size w a) (h2 : Below a.heap.size a b) (hs : v.heap.size ≤ w.heap.size := by exact Nat.le_refl _) : Below v.heap.size w b := h1.trans (h2.mono (Nat.le_trans hs h1.size))
/-- may these be a graph? -/
abbrev okG (n s : Int) (l : List E3) : Prop := Gm.sizeOk n s l.length ∧ ∀ e ∈ l, Gm.edgeOk n s e
def imgOf (n s : Int) (l : List E3) : ByteArray := if okG n s l then built n.toNat s.toNat l else ⟨#[]⟩
def errOf (n s : Int) (l : List E3) : Int := if okG n s l then 0 else 2
theorem gbits_le (n s : Nat) (l : List E3) (h0 : Gm.ah l 0 = 0) (hn : Gm.ah l n = l.length) (h1 : n ≤ 10000) (h2 : s ≤ 26) (h3 : l.length ≤ 20000) : (gbits n s l).length ≤ 2016000 := by
  rw [gbits_len n s l h0 hn]
  have hw1 := wid_le (s - 1) (by omega)
  have hw2 := wid_le (n - 1) (by omega)
  have e1 : wid (s - 1) * l.length ≤ 20 * 20000 := Nat.mul_le_mul hw1 h3
  have e2 : wid (n - 1) * l.length ≤ 20 * 20000 := Nat.mul_le_mul hw2 h3
  omega
set_option maxHeartbeats 4000000 in
set_option maxRecDepth 100000 in
theorem build_any (n s : Int) (l : List E3) (v : Value) (w : World) (he : EdgesAt w v l) :
    Calls Tryz.prog 5 #[.int .i64 n, .int .i64 s, v] w fun e w' => e = .returned (.tuple #[.string (imgOf n s l), .int .i64 (errOf n s l)]) ∧ Below w.heap.size w w' := by
  have HEd : Hid _ := he
  obtain ⟨a0, cap, rfl, hed⟩ := he
  have HE : Hid _ := hed
  have hb8 := below1 w (.cells #[.int .i64 n, .int .i64 s, .int .i64 (l.length : Int)] 43)
  have HSz : Hid (Calls Tryz.prog 15 _ (w.alloc (.cells #[.int .i64 n, .int .i64 s, .int .i64 (l.length : Int)] 43)) _) := isize_any n s l.length _
  have hbx : ∀ W, Below (w.alloc (.cells #[.int .i64 n, .int .i64 s, .int .i64 (l.length : Int)] 43)).heap.size (w.alloc (.cells #[.int .i64 n, .int .i64 s, .int .i64 (l.length : Int)] 43)) W → W.cell? ⟨w.heap.size, 0, none⟩ = some (.int .i64 n) ∧ W.cell? ⟨w.heap.size, 1, none⟩ = some (.int .i64 s) ∧ W.cell? ⟨w.heap.size, 2, none⟩ = some (.int .i64 (l.length : Int)) := fun W hW =>
    ⟨cell_kept hW _ _ (by simp), cell_kept hW _ _ (by simp), cell_kept hW _ _ (by simp)⟩
  have HBx : Hid _ := hbx
  have HB8 : Hid _ := hb8
  clear hed hb8 hbx
  by_cases hsz : Gm.sizeOk n s l.length
  · have HD : Hid _ := decide_eq_true hsz
    rw [HD.out] at HSz
    have HOk : Hid _ := hsz
    have hl2 : l.length ≤ 20000 := hsz.2.2.2.2
    clear hsz
    go_enter Tryz.func5, Tryz.ntmps5
    go_wp2_with fail
    refine (Calls.mono HSz.out ?_)
    rintro e w1 ⟨rfl, hB1⟩
    have HB1 : Hid _ := hB1
    clear hB1
    go_wp2
    go_loopw [21] (fun si wr => ∃ i : Nat, i ≤ l.length ∧ si = .int .i64 (i : Int) ∧ Hid ((∀ e ∈ l.take i, Gm.edgeOk n s e) ∧ Below (w.alloc (.cells #[.int .i64 n, .int .i64 s, .int .i64 (l.length : Int)] 43)).heap.size (w.alloc (.cells #[.int .i64 n, .int .i64 s, .int .i64 (l.length : Int)] 43)) wr)) (fun si _ => l.length - (intOf si).toNat)
    case atStart => exact ⟨0, Nat.zero_le _, rfl, (fun e he => by simp at he), HB1.out⟩
    case round =>
      obtain ⟨i, hi, rfl, HI⟩ := hrel
      have hBw : Below w.heap.size w wr := chain HB8.out HI.out.2
      obtain ⟨s0, s1, s2⟩ := HBx.out wr HI.out.2
      by_cases hlt : i < l.length
      · obtain ⟨x, hx⟩ : ∃ x, l[i]? = some x := ⟨_, List.getElem?_eq_getElem hlt⟩
        obtain ⟨g, off, rfl, c0, c1, c2⟩ := HE.out i x hx
        have d0 := cell_kept hBw _ _ c0
        have d1 := cell_kept hBw _ _ c1
        have d2 := cell_kept hBw _ _ c2
        have hiI : (i : Int) < (l.length : Int) := by omega
        have hT := take_snoc' hx
        have hmem := List.mem_of_getElem? hx
        obtain ⟨x1, x2, x3⟩ := x
        simp only at d0 d1 d2
        obtain ⟨b0, b1, b2⟩ := box3 wr (.int .i64 x1) (.int .i64 x2) (.int .i64 x3) 41
        have t0 := cell_al (o := .cells #[.int .i64 x1, .int .i64 x2, .int .i64 x3] 41) s0
        have t1 := cell_al (o := .cells #[.int .i64 x1, .int .i64 x2, .int .i64 x3] 41) s1
        have t2 := cell_al (o := .cells #[.int .i64 x1, .int .i64 x2, .int .i64 x3] 41) s2
        have HEg : Hid (Calls Tryz.prog 16 _ (wr.alloc (.cells #[.int .i64 x1, .int .i64 x2, .int .i64 x3] 41)) _) := iedge_any x1 x2 x3 n s (l.length : Int) _
        have HBa : Hid _ := HI.out.2.alloc HI.out.2.size (.cells #[.int .i64 x1, .int .i64 x2, .int .i64 x3] 41)
        have HBw : Hid _ := hBw
        by_cases hok : Gm.edgeOk n s (x1, x2, x3)
        · rw [decide_eq_true hok] at HEg
          have HI2 : Hid (∀ e ∈ l.take (i + 1), Gm.edgeOk n s e) := (fun e he => by
            rw [hT] at he
            rcases List.mem_append.1 he with h | h
            · exact HI.out.1 e h
            · simp at h; rw [h]; exact hok : ∀ e ∈ l.take (i + 1), Gm.edgeOk n s e)
          clear hok c0 c1 c2 hx hT hmem hBw
          go_wp2_with fail
          refine (Calls.mono HEg.out ?_)
          rintro e w3 ⟨rfl, hB3⟩
          have HB3 : Hid _ := chain' HBa.out hB3
          clear hB3
          go_wp2
          go_roundw
          case rel => exact ⟨i + 1, by omega, by go_num, HI2.out, HB3.out⟩
          case measure => simp [intOf] <;> omega
        · rw [decide_eq_false hok] at HEg
          have HN : Hid (¬ okG n s l) := (fun h => hok (h.2 _ hmem) : ¬ okG n s l)
          clear hok c0 c1 c2 hx hT hmem hBw
          go_wp2_with fail
          refine (Calls.mono HEg.out ?_)
          rintro e w3 ⟨rfl, hB3⟩
          have HB3 : Hid _ := chain' HBa.out hB3
          clear hB3
          go_wp2
          go_ret2
          exact ⟨by rw [imgOf, if_neg HN.out, errOf, if_neg HN.out]; rfl, chain HB8.out HB3.out⟩
      · obtain rfl : i = l.length := by omega
        have hI := HI.out.1
        rw [List.take_length] at hI
        have hOk : okG n s l := ⟨HOk.out, hI⟩
        have hEw := EdgesAt.below HEd.out hBw
        have HIn : Hid (Calls Tryz.prog 19 _ wr _) := inorder_any _ l (by omega) wr hEw
        have HGo : Hid _ := hOk
        have HBw : Hid _ := hBw
        obtain ⟨n', hn'⟩ : ∃ n' : Nat, n = (n' : Int) := ⟨n.toNat, by have := HOk.out.1; omega⟩
        obtain ⟨s', hs'⟩ : ∃ s' : Nat, s = (s' : Int) := ⟨s.toNat, by have := HOk.out.2.2.1; omega⟩
        clear hI hOk hEw hBw s0 s1 s2
        go_wp2_with fail
        refine (Calls.mono HIn.out ?_)
        rintro e w3 ⟨v3, rfl, hrow, hB3⟩
        have hE3 : EdgesAt w3 v3 (Gm.ordE l) := ownE_edges hrow
        subst hn' hs'
        have hall : ∀ e ∈ Gm.ordE l, Gm.edgeOk n' s' e := fun e he => HGo.out.2 e ((Gm.ordE_mem l e).1 he)
        have hlen := Gm.ordE_len l
        have HT : Hid (Calls Tryz.prog 18 _ w3 _) := textof_any n' s' (Gm.ordE l) v3 w3 hE3 (Gm.ordE_strict l) hall (by have := HOk.out.1; omega) (by have := HOk.out.2.1; omega) (by have := HOk.out.2.2.1; omega) (by have := HOk.out.2.2.2.1; omega) (by omega)
        have HP : ∀ W, Hid (Calls Tryz.prog 17 #[.string (txt (gbits n' s' (Gm.ordE l)))] W _) := fun W => pwrite_any (gbits n' s' (Gm.ordE l)) (gbits_le n' s' _ (Gm.ah_zero _ (fun e h => (hall e h).1)) (Gm.ah_all _ n' (fun e h => (hall e h).2.1)) (by have := HOk.out.2.1; omega) (by have := HOk.out.2.2.2.1; omega) (by omega)) W
        have HB3 : Hid _ := chain HBw.out hB3
        clear hE3 hrow hB3 hall hlen
        go_wp2_with fail
        refine (Calls.mono HT.out ?_)
        rintro e w4 ⟨rfl, hB4⟩
        have HB4 : Hid _ := chain HB3.out hB4
        clear hB4
        go_wp2_with fail
        refine (Calls.mono (HP w4).out ?_)
        rintro e w5 ⟨rfl, hB5⟩
        have HB5 : Hid _ := chain HB4.out hB5
        clear hB5
        go_wp2
        go_ret2
        exact ⟨by rw [imgOf, if_pos HGo.out, errOf, if_pos HGo.out, built, Int.toNat_natCast, Int.toNat_natCast]; rfl, HB5.out⟩
  · have HD : Hid _ := decide_eq_false hsz
    rw [HD.out] at HSz
    have HN : Hid (¬ okG n s l) := (fun h => hsz h.1 : ¬ okG n s l)
    clear hsz
    go_enter Tryz.func5, Tryz.ntmps5
    go_wp2_with fail
    refine (Calls.mono HSz.out ?_)
    rintro e w1 ⟨rfl, hB1⟩
    have HB1 : Hid _ := chain HB8.out hB1
    clear hB1
    go_wp2
    go_ret2
    exact ⟨by rw [imgOf, if_neg HN.out, errOf, if_neg HN.out]; rfl, HB1.out⟩
end Go.Proofs.YtphjbbbnbmafnabGreatDoor.G

namespace Go.Proofs.YtphjbbbnbmafnabGreatDoor.G
open Go.RowKit

attribute [local go_sem ↓] Go.wp_at_zero Go.wp_at_succ
/-- a row of numbers that is handed in -/
abbrev RawAt (w : World) (a0 : Option Addr) (len : Nat) (R : Nat → Int) : Prop := (len = 0 ∨ ∃ b off, a0 = some ⟨b, off, none⟩ ∧ ∀ i, i < len → w.cell? ⟨b, off + i, none⟩ = some (.int .i64 (R i))) ∧ ∀ i, i < len → -9223372036854775808 ≤ R i ∧ R i ≤ 9223372036854775807
theorem own_edges' {B : Nat} {wr : World} {v : Value} {l : List E3} (h : wr.ownsRow B 41 3 v l.length (flat l)) : EdgesAt wr v l := by
  rcases h.2 with ⟨rfl, h0⟩ | ⟨g, cap, cur, rfl, _, hg, r1, r2, r3, r4⟩
  · obtain rfl : l = [] := List.eq_nil_of_length_eq_zero h0
    exact ⟨none, 0, rfl, fun j e hj => by cases hj⟩
  · refine ⟨some ⟨g, 0, none⟩, cap, rfl, fun j e hj => ⟨g, 0, rfl, ?_⟩⟩
    have hR : RowE wr g cap l := ⟨cur, hg, r3, r4⟩
    rw [Nat.zero_add]
    exact hR.cells hj
set_option maxHeartbeats 4000000 in
set_option maxRecDepth 100000 in
theorem made_any (a0 : Option Addr) (len cap : Nat) (R : Nat → Int) (w : World) (hr : RawAt w a0 len R) :
    Calls Tryz.prog 6 #[.slice a0 len cap] w fun e w' => ∃ v l, e = .returned v ∧ EdgesAt w' v l ∧ l.length ≤ 500 ∧ (∀ e ∈ l, Gm.edgeOk 50 4 e) ∧ Below w.heap.size w w' := by
  obtain ⟨hrow, hR⟩ := hr
  have HRow : Hid _ := hrow
  have HR : Hid _ := hR
  clear hrow hR
  obtain ⟨i0, hi, hz0, hz1, hz2⟩ := info_parts Tryz.infoE
  go_enter Tryz.func6, Tryz.ntmps6
  go_wp2
  go_loopw [3, 4] (fun sv si wr => ∃ (j : Nat) (l : List E3), j ≤ 1500 ∧ l.length ≤ 500 ∧ si = .int .i64 (j : Int) ∧ (∃ a1 c1, sv = .slice a1 l.length c1) ∧ Hid (j = 3 * l.length ∧ OwnE w wr sv l ∧ ∀ e ∈ l, Gm.edgeOk 50 4 e)) (fun _ si _ => 1500 - (intOf si).toNat)
  case atStart => exact ⟨0, [], Nat.zero_le _, Nat.zero_le _, rfl, ⟨none, 0, rfl⟩, rfl, ⟨World.ownsRow_nil _ _ _ _, Below.refl _ _⟩, fun e he => by cases he⟩
  case round =>
    obtain ⟨j, l, hj, hl, rfl, ⟨a1, cap1, rfl⟩, HI⟩ := hrel
    by_cases hgo : j + 2 < len ∧ j < 1500
    · obtain ⟨h1, h2⟩ := hgo
      rcases HRow.out with h0 | ⟨b, off, rfl, hc⟩
      · omega
      have c0 := cell_kept HI.out.2.1.2 _ _ (hc j (by omega))
      have c1 := cell_kept HI.out.2.1.2 _ _ (hc (j + 1) (by omega))
      have c2 := cell_kept HI.out.2.1.2 _ _ (hc (j + 2) (by omega))
      rw [show j + 2 = ((j : Int) + 2).toNat by omega] at c2
      have hbl := World.block_lt_of_cell? _ _ (hc j (by omega))
      have e0 := HR.out j (by omega)
      have e1 := HR.out (j + 1) (by omega)
      have e2 := HR.out (j + 2) (by omega)
      generalize R j = x0 at c0 e0
      generalize R (j + 1) = x1 at c1 e1
      rw [show j + 2 = ((j : Int) + 2).toNat by omega] at e2
      generalize R (((j : Int) + 2).toNat) = x2 at c2 e2
      have P0 : Hid (∀ W, Calls Tryz.prog 8 #[.int .i64 x0, .int .i64 50] W _) := fun W => pick_fn x0 50 e0 (by decide) (by decide) 50 rfl W
      have P1 : Hid (∀ W, Calls Tryz.prog 8 #[.int .i64 x1, .int .i64 4] W _) := fun W => pick_fn x1 4 e1 (by decide) (by decide) 4 rfl W
      have P2 : Hid (∀ W, Calls Tryz.prog 8 #[.int .i64 x2, .int .i64 50] W _) := fun W => pick_fn x2 50 e2 (by decide) (by decide) 50 rfl W
      have hp0 := pk_lt x0 50 (by decide)
      have hp1 := pk_lt x1 4 (by decide)
      have hp2 := pk_lt x2 50 (by decide)
      have hrw := HI.out.2.1.1
      have hszw := HI.out.2.1.2.size
      have hne : (Value.slice a1 l.length cap1).ownBlock ≠ some b := fun e => by have := (hrw.lt b e).1; simp at hbl; omega
      have l0 : (j : Int) < (len : Int) := by omega
      have l1 : (j : Int) + 1 < (len : Int) := by omega
      have l2 : (j : Int) + 2 < (len : Int) := by omega
      have l3 : (j : Int) < 1500 := by omega
      have k0 : (0 : Int) ≤ (j : Int) := by omega
      have k1 : (0 : Int) ≤ (j : Int) + 1 := by omega
      have k2 : (0 : Int) ≤ (j : Int) + 2 := by omega
      have m1 : IntKind.i64.wrap ((j : Int) + 1) = (j : Int) + 1 := by rw [IntKind.wrap_i64]; omega
      have m2 : IntKind.i64.wrap ((j : Int) + 2) = (j : Int) + 2 := by rw [IntKind.wrap_i64]; omega
      clear e0 e1 e2 hc
      go_wp2_with fail
      go_region_held3 (fun w' => w'.cell? ⟨b, off + j, none⟩ = some (.int .i64 x0) ∧ w'.cell? ⟨b, off + (j + 1), none⟩ = some (.int .i64 x1) ∧ w'.cell? ⟨b, off + ((j : Int) + 2).toNat, none⟩ = some (.int .i64 x2))
        (first
          | go_keep
          | (go_split_ands
             refine ⟨?_, ?_, ?_⟩
             · (rw [hgrow.cell_far _ (by simp; omega) (Ne.symm hne)]; assumption)
             · (rw [hgrow.cell_far _ (by simp; omega) (Ne.symm hne)]; assumption)
             · (rw [hgrow.cell_far _ (by simp; omega) (Ne.symm hne)]; assumption)))
        (first
          | (go_at_call_of 8 (Value.int IntKind.i64 x0); refine (P0.out _).mono ?_; rintro e w' ⟨rfl, rfl⟩)
          | (go_at_call_of 8 (Value.int IntKind.i64 x1); refine (P1.out _).mono ?_; rintro e w' ⟨rfl, rfl⟩)
          | (go_at_call_of 8 (Value.int IntKind.i64 x2); refine (P2.out _).mono ?_; rintro e w' ⟨rfl, rfl⟩)
          | ((refine step_append_lies _ (by rfl) _ _ _ (by rfl) w.heap.size 41 i0 _ 3 24 Tryz.underlying27 hi hz0 hz1 hz2 rfl (by omega) (.slice a1 l.length cap1) l.length (flat l) (by rfl) (((hrw.alloc _).drew).drew) ⟨wr.heap.size, 0, none⟩ 1 1 [.int .i64 (pk x0 50 : Int), .int .i64 (pk x1 4 : Int), .int .i64 (pk x2 50 : Int)] (by rfl) (by rfl) (World.news_of_block (cs := #[.int .i64 (pk x0 50 : Int), .int .i64 (pk x1 4 : Int), .int .i64 (pk x2 50 : Int)]) (t := 41) (fr := (0, 0)) (heap_alloc_new wr _)) (by simp [Value.oneCell']) (by omega) (by unfold maxLen; omega) (by omega) (by simp; omega) (wr.heap.size + 1) (by simp) ?_; intro gg gcap w1 hown1 hgrow hat hlt)))
      have HO : Hid (OwnE w w1 (.slice (some ⟨gg, 0, none⟩) (l.length + 1) gcap) (l ++ [((pk x0 50 : Int), (pk x1 4 : Int), (pk x2 50 : Int))])) := (by
        refine ⟨by rw [flat_snoc, List.length_append]; exact hown1, ?_⟩
        exact ((HI.out.2.1.2.alloc HI.out.2.1.2.size _).drew).grown hgrow (by simp; omega) (fun k hk => (hrw.lt k hk).1) : OwnE _ _ _ _)
      have HA : Hid (∀ e ∈ l ++ [((pk x0 50 : Int), (pk x1 4 : Int), (pk x2 50 : Int))], Gm.edgeOk 50 4 e) := (by
        intro e he
        rcases List.mem_append.1 he with h | h
        · exact HI.out.2.2 e h
        · rw [List.mem_singleton.1 h]
          refine ⟨?_, ?_, ?_, ?_, ?_, ?_⟩ <;> simp only <;> omega : ∀ e ∈ _, _)
      have HJ : Hid (j = 3 * l.length) := HI.out.1
      clear hown1 hgrow hat hlt hrw HI P0 P1 P2
      go_wp2
      go_roundw
      case rel => exact ⟨j + 3, l ++ [((pk x0 50 : Int), (pk x1 4 : Int), (pk x2 50 : Int))], by have := HJ.out; omega, by have := HJ.out; rw [List.length_append]; simp; omega, by go_num, ⟨_, gcap, by rw [List.length_append]; rfl⟩, by have := HJ.out; rw [List.length_append]; simp; omega, HO.out, HA.out⟩
      case measure => simp [intOf]; omega
    · have HE : Hid _ := own_edges' HI.out.2.1.1
      have HB : Hid _ := HI.out.2.1.2
      have HA : Hid _ := HI.out.2.2
      clear HI
      by_cases h1 : j + 2 < len
      · have h2 : ¬ (j : Int) < 1500 := by omega
        have h3 : (j : Int) + 2 < (len : Int) := by omega
        clear hgo
        go_wp2
        go_ret
        exact ⟨_, rfl, l, HE.out, hl, fun a b c h => HA.out (a, b, c) h, HB.out⟩
      · have h3 : ¬ (j : Int) + 2 < (len : Int) := by omega
        clear hgo
        go_wp2
        go_ret
        exact ⟨_, rfl, l, HE.out, hl, fun a b c h => HA.out (a, b, c) h, HB.out⟩
end Go.Proofs.YtphjbbbnbmafnabGreatDoor.G

namespace Go.Proofs.YtphjbbbnbmafnabGreatDoor.G
open Go.RowKit

/-- the document's example -/
theorem first_img : imgOf 2 1 [(0, 0, 1)] = image (gbits 2 1 [(0, 0, 1)]) := by
  have h : okG 2 1 [(0, 0, 1)] := by decide
  unfold imgOf built
  rw [if_pos h, Gm.ordE_self [(0, 0, 1)] (List.pairwise_singleton _ _)]
  rfl
theorem first_size : (imgOf 2 1 [(0, 0, 1)]).size = 256 := by
  rw [first_img, image_size]
  have h := gbits_len 2 1 [(0, 0, 1)] (by decide) (by decide)
  rw [h]
  decide
theorem first_head : (imgOf 2 1 [(0, 0, 1)]).extract 0 5 = ⟨#[0, 8, 32, 0, 100]⟩ := by
  rw [first_img]
  decide +kernel
end Go.Proofs.YtphjbbbnbmafnabGreatDoor.G

namespace Go.Proofs.YtphjbbbnbmafnabGreatDoor.G
open Go.RowKit

set_option maxHeartbeats 1000000 in
set_option maxRecDepth 100000 in
theorem known_any (w : World) : Calls Tryz.prog 4 #[] w fun e w' => e = .returned (.bool true) ∧ Below w.heap.size w w' := by
  have hB1 := below1 w (.cells #[.int .i64 0, .int .i64 0, .int .i64 1] 41)
  have hE : EdgesAt (w.alloc (.cells #[.int .i64 0, .int .i64 0, .int .i64 1] 41)) (.slice (some ⟨w.heap.size, 0, none⟩) 1 1) [(0, 0, 1)] := by
    refine ⟨_, 1, rfl, fun j e hj => ?_⟩
    match j, hj with
    | 0, hj =>
      simp at hj; subst hj
      exact ⟨w.heap.size, 0, rfl, by simp, by simp, by simp⟩
  have hBd := build_any 2 1 [(0, 0, 1)] _ _ hE
  rw [show errOf 2 1 [(0, 0, 1)] = 0 by decide] at hBd
  have HBt : Hid (Calls Tryz.prog 5 _ (w.alloc (.cells #[.int .i64 0, .int .i64 0, .int .i64 1] 41)) _) := hBd
  have hs := first_size
  have hh := first_head
  clear hBd
  generalize imgOf 2 1 [(0, 0, 1)] = img at HBt hs hh
  have HB1 : Hid _ := hB1
  clear hE hB1
  go_enter Tryz.func4, Tryz.ntmps4
  go_wp2_with fail
  refine (Calls.mono HBt.out ?_)
  rintro e w2 ⟨rfl, hB2⟩
  have HB2 : Hid _ := chain HB1.out hB2
  clear hB2
  go_wp2
  go_ret
  exact ⟨rfl, HB2.out⟩
end Go.Proofs.YtphjbbbnbmafnabGreatDoor.G

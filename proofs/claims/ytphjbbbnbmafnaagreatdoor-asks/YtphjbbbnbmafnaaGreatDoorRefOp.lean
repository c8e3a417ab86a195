/-
  The document's own reading of a number out of a text of bits (trellisref.number): for every text, place and size that it is called with; nothing is written.
  The document's own reading of a graph out of bits (trellisref.read): the graph that was read, or none at all; new memory; nothing that was there is written.
  The document's own Open (trellisref.Open): nil and ErrSize, ErrCorrupt or ErrShape, or the graph whose image was handed in; new memory; nothing that was there is written.
  trellislaw.opened and trellislaw.Opens: one Open held against the document's: they give the same, at every image; and a graph that is opened is as large as the document's; nothing that was there is written.
-/
import Derived.Test.YtphjbbbnbmafnaaGreatDoorRefG
import Derived.Test.YtphjbbbnbmafnaaGreatDoorRefOut
import Derived.Test.YtphjbbbnbmafnaaGreatDoorDec
import Derived.Test.YtphjbbbnbmafnaaGreatDoorROrd
import Derived.Deep.RegionHeld3
import Derived.Deep.DrawnRows
import Derived.Test.YtphjbbbnbmafnaaGreatDoorRBuild
import Derived.Test.YtphjbbbnbmafnaaGreatDoorPOpen
import Derived.Lib.AppendStr
import Derived.BigRegion
import Derived.Test.YtphjbbbnbmafnaaGreatDoorPSp16
namespace Go.Proofs.YtphjbbbnbmafnaaGreatDoor.G
open Go.RowKit

set_option maxHeartbeats 1000000 in
set_option maxRecDepth 100000 in
theorem number_any (s : ByteArray) (a k : Nat) (ha : a ≤ 1000000000) (hk : k ≤ 30) (hs : s.size ≤ 1000000000) (w : World) :
    Calls Tryz.prog 110 #[.string s, .int .i64 (a : Int), .int .i64 (k : Int)] w fun e w' => e = .returned (.int .i64 (numOf (part s a k) : Int)) ∧ w' = w := by
  go_enter Tryz.func110, Tryz.ntmps110
  go_wp2
  go_loop [7, 8] (fun sn si => ∃ p m : Nat, a ≤ p ∧ p ≤ a + k ∧ si = .int .i64 (p : Int) ∧ sn = .int .i64 (m : Int) ∧ m < 1073741824 ∧ Hid (m = numOf (part s a (p - a)))) (fun _ si => a + k - (intOf si).toNat)
  case atStart => exact ⟨a, 0, Nat.le_refl _, by omega, rfl, rfl, by decide, (by rw [Nat.sub_self]; rfl : 0 = numOf (part s a (a - a)))⟩
  case round =>
    obtain ⟨p, m, hp1, hp2, rfl, rfl, hm, HM⟩ := hrel
    by_cases hlt : p < a + k
    · have hN := numOf_snoc (part s a (p - a)) (s.data.toList[a + (p - a)]? == some 49)
      rw [← part_succ, ← HM.out, show a + (p - a) = p by omega] at hN
      have hL := numOf_lt (part s a (p - a + 1))
      rw [part_len] at hL
      have hp : 2 ^ (p - a + 1) ≤ 2 ^ 30 := Nat.pow_le_pow_right (by decide) (by omega)
      have hlI : (p : Int) < (a : Int) + (k : Int) := by omega
      have e1 : p + 1 - a = p - a + 1 := by omega
      by_cases hin : p < s.size
      · rw [one_at s p hin] at hN
        have hinI : (p : Int) < (s.size : Int) := by omega
        cases hone : ((s[p].toNat : Int) == 49)
        · rw [hone] at hN
          have HN : Hid (2 * m = numOf (part s a (p + 1 - a))) := (by rw [e1, hN]; simp : _ = _)
          have hmm : 2 * m < 1073741824 := by rw [HN.out, e1]; omega
          clear hN hL hp e1 HM
          go_wp2
          go_round
          case rel => exact ⟨p + 1, 2 * m, by omega, by omega, by go_num, by go_num, hmm, HN.out⟩
          case measure => simp [intOf]; omega
        · rw [hone] at hN
          have HN : Hid (2 * m + 1 = numOf (part s a (p + 1 - a))) := (by rw [e1, hN]; simp : _ = _)
          have hmm : 2 * m + 1 < 1073741824 := by rw [HN.out, e1]; omega
          clear hN hL hp e1 HM
          go_wp2
          go_round
          case rel => exact ⟨p + 1, 2 * m + 1, by omega, by omega, by go_num, by go_num, hmm, HN.out⟩
          case measure => simp [intOf]; omega
      · have hinI : ¬ (p : Int) < (s.size : Int) := by omega
        rw [List.getElem?_eq_none (by simp; omega)] at hN
        have HN : Hid (2 * m = numOf (part s a (p + 1 - a))) := (by rw [e1, hN]; rfl : _ = _)
        have hmm : 2 * m < 1073741824 := by rw [HN.out, e1]; omega
        clear hN hL hp e1 HM
        go_wp2
        go_round
        case rel => exact ⟨p + 1, 2 * m, by omega, by omega, by go_num, by go_num, hmm, HN.out⟩
        case measure => simp [intOf]; omega
    · obtain rfl : p = a + k := by omega
      have hE := HM.out
      rw [show a + k - a = k by omega] at hE
      have HE : Hid (m = numOf (part s a k)) := hE
      clear hE HM
      go_wp2
      go_ret
      exact ⟨by rw [← HE.out]; rfl, rfl⟩
end Go.Proofs.YtphjbbbnbmafnaaGreatDoor.G

namespace Go.Proofs.YtphjbbbnbmafnaaGreatDoor.G
open Go.RowKit

attribute [local go_sem ↓] Go.wp_at_zero Go.wp_at_succ
theorem part_txt (t : List Bool) (a k : Nat) : part (txt t) a k = sub t a k := by
  unfold part sub
  refine List.map_congr_left (fun i _ => ?_)
  unfold txt
  simp only [List.getElem?_map, List.getD_eq_getElem?_getD]
  cases t[a + i]? with
  | none => rfl
  | some b => cases b <;> rfl
/-- the document's reading ends here -/
def RStop (t : List Bool) (N K : Nat) : Prop := (∀ k < K, (rdf t 34 k).2 < N ∧ 34 + k < t.length) ∧ ¬ ((rdf t 34 K).2 < N ∧ 34 + K < t.length)
/-- what was read -/
def RRead (t : List Bool) (N S : Nat) (l : List E3) : Prop :=
  (N = 0 ∧ S = 0 ∧ l = [] ∧ ∃ K, RStop t (numOf (sub t 0 14)) K ∧ (rdf t 34 K).1.length ≠ numOf (sub t 19 15)) ∨
  (N = numOf (sub t 0 14) ∧ S = numOf (sub t 14 5) ∧ ∃ K, RStop t N K ∧ (rdf t 34 K).1.length = numOf (sub t 19 15) ∧ l = edg t 34 N S K)
theorem rstop_one {t : List Bool} {N K J : Nat} (h1 : RStop t N K) (h2 : RStop t N J) : K = J := by
  rcases Nat.lt_trichotomy K J with h | h | h
  · exact absurd (h2.1 K h) h1.2
  · exact h
  · exact absurd (h1.1 J h) h2.2
/-- of an image it is the graph that was written -/
theorem rread_is {img : ByteArray} {n s : Nat} {L : List E3} (h : Is img n s L) {np : Nat} (hnp : img.size = 256 * np) {N S : Nat} {l : List E3} (hr : RRead (textN img np) N S l) : N = n ∧ S = s ∧ l = L := by
  obtain ⟨a1, a2, a3, a4⟩ := h.read hnp
  have e : np = npages (gbits n s L).length := by have := h.size.2.1; omega
  have ht := text_at (gbits n s L)
  rw [← h.2.2, ← e] at ht
  have htl := textN_len img np
  generalize textN img np = t at hr a1 a2 a3 a4 ht htl
  have hall : ∀ x ∈ L, 0 ≤ x.1 ∧ x.1 < (n : Int) := fun x hx => ⟨(h.1.2 x hx).1, (h.1.2 x hx).2.1⟩
  have hsr : At t 34 (srcs L n) := by
    unfold gbits at ht
    have := ht.left.left.right
    simpa only [List.length_append, digs_len, Nat.zero_add] using this
  obtain ⟨hst, hfr⟩ := stop_srcs L (Gm.strict_rising h.2.1) hall (by have := h.1.1.1; omega) hsr
  have hgl := gbits_len n s L (Gm.ah_zero L (fun x hx => (hall x hx).1)) (Gm.ah_all L n (fun x hx => (hall x hx).2))
  have hlen : 34 + n + L.length ≤ t.length := by
    have := npages_le (gbits n s L).length
    rw [hgl] at this
    rw [htl, e, hgl]
    omega
  have hrs : RStop t n (L.length + n) := by
    refine ⟨fun k hk => ⟨(hst.1 k hk).1, by omega⟩, fun hc => ?_⟩
    have h1 := rdf_sum t 34 (L.length + n)
    have h2 : (rdf t 34 (L.length + n)).1.length = L.length := by rw [hfr]; simp [frs]
    omega
  have hfl : (rdf t 34 (L.length + n)).1.length = L.length := by rw [hfr]; simp [frs]
  rcases hr with ⟨_, _, _, K, hK, hne⟩ | ⟨rfl, rfl, K, hK, _, rfl⟩
  · rw [a1] at hK
    obtain rfl := rstop_one hK hrs
    rw [a3] at hne
    exact absurd hfl hne
  · rw [a1] at hK ⊢
    rw [a2]
    obtain rfl := rstop_one hK hrs
    exact ⟨rfl, rfl, (a4 _ hst).1⟩
set_option maxHeartbeats 400000 in
theorem width_all (k : Nat) (h2 : k ≤ 100000) (w : World) :
    Calls Tryz.prog 96 #[.int .i64 (k : Int)] w fun e w' => e = .returned (.int .i64 (wid (k - 1) : Int)) ∧ w' = w := by
  rcases Nat.eq_zero_or_pos k with rfl | h
  · go_enter Tryz.func96, Tryz.ntmps96
    go_wp2
    go_loop [0, 3] (fun sk sn => sk = .int .i64 (-1) ∧ sn = .int .i64 0) (fun _ _ => 0)
    case atStart => exact ⟨rfl, rfl⟩
    case round =>
      obtain ⟨rfl, rfl⟩ := hrel
      go_wp2
      go_ret
      exact ⟨rfl, rfl⟩
  · exact width_any k h h2 w
/-- a graph that is being read -/
def RS (w wr : World) (N S : Nat) (v : Value) (l : List E3) : Prop :=
  wr.heap[w.heap.size]? = some (.cells #[.int .i64 (N : Int), .int .i64 (S : Int), v] 53 (0, 0)) ∧ wr.ownsRow (w.heap.size + 1) 38 3 v l.length (flat l) ∧ Below w.heap.size w wr
theorem RS.cells {w wr : World} {N S : Nat} {v : Value} {l : List E3} (h : RS w wr N S v l) : wr.cell? ⟨w.heap.size, 0, none⟩ = some (.int .i64 (N : Int)) ∧ wr.cell? ⟨w.heap.size, 1, none⟩ = some (.int .i64 (S : Int)) ∧ wr.cell? ⟨w.heap.size, 2, none⟩ = some v ∧ wr.frozen? ⟨w.heap.size, 2, none⟩ = false :=
  ⟨by rw [cell_of_row _ _ 0 _ _ _ h.1]; rfl, by rw [cell_of_row _ _ 1 _ _ _ h.1]; rfl, by rw [cell_of_row _ _ 2 _ _ _ h.1]; rfl, frozen_of_row _ _ 2 _ _ h.1⟩
theorem RS.app {w wr w2 : World} {N S : Nat} {v v' : Value} {l : List E3} {e : E3} {o : Obj} (h : RS w wr N S v l) (hown : w2.ownsRow (w.heap.size + 1) 38 3 v' (l.length + 1) (flat l ++ [.int .i64 e.1, .int .i64 e.2.1, .int .i64 e.2.2])) (hg : (wr.alloc o).grownBy w2 v.ownBlock) :
    RS w (w2.setCell ⟨w.heap.size, 2, none⟩ v') N S v' (l ++ [e]) ∧ w2.cell? ⟨w.heap.size, 2, none⟩ = some v ∧ w2.frozen? ⟨w.heap.size, 2, none⟩ = false := by
  have hlt : w.heap.size < wr.heap.size := (Array.getElem?_eq_some_iff.1 h.1).1
  have hne : some w.heap.size ≠ v.ownBlock := fun e => by have := (h.2.1.lt w.heap.size e.symm).1; omega
  have hb : w2.heap[w.heap.size]? = some (.cells #[.int .i64 (N : Int), .int .i64 (S : Int), v] 53 (0, 0)) := by
    rw [hg.block _ (by simp; omega) hne, old_alloc hlt]; exact h.1
  refine ⟨⟨by rw [heap_setCell_same w2 _ 2 _ _ _ hb]; rfl, ?_, ?_⟩, by rw [cell_of_row _ _ 2 _ _ _ hb]; rfl, frozen_of_row _ _ 2 _ _ hb⟩
  · rw [flat_snoc, List.length_append]
    refine ⟨hown.1, ?_⟩
    rcases hown.2 with h0 | ⟨g, cap, cur, hv, hbs, hgb, r⟩
    · exact .inl h0
    · exact .inr ⟨g, cap, cur, hv, hbs, by rw [heap_setCell_other _ _ _ _ (by show g ≠ w.heap.size; omega)]; exact hgb, r⟩
  · have h1 := (h.2.2.alloc h.2.2.size o).grown hg (by have := h.2.2.size; simp; omega) (fun j hj => by have := (h.2.1.lt j hj).1; omega)
    exact h1.setCell (p := ⟨w.heap.size, 2, none⟩) (Nat.le_refl _) _
theorem RS.put {w wr : World} {N S : Nat} {g m cap : Nat} {l l' : List E3} {j : Nat} {u : Value} (h : RS w wr N S (.slice (some ⟨g, 0, none⟩) m cap) l) (hf : (flat l).set j u = flat l') (hm : l.length = m) (hl : l'.length = m) : RS w (wr.setCell ⟨g, j, none⟩ u) N S (.slice (some ⟨g, 0, none⟩) m cap) l' ∧ w.heap.size < g := by
  subst hm
  have h2 := h.2.1.stored j u
  have hgk := (h.2.1.lt g rfl).1
  refine ⟨⟨?_, by rw [hl, ← hf]; exact h2.1, ?_⟩, by omega⟩
  · rw [heap_setCell_other _ _ _ _ (by show w.heap.size ≠ g; omega)]; exact h.1
  · exact h.2.2.setCell (p := ⟨g, j, none⟩) (by show w.heap.size ≤ g; omega) _
theorem RS.drew {w wr : World} {N S : Nat} {v : Value} {l : List E3} (h : RS w wr N S v l) : RS w wr.drew N S v l := ⟨h.1, h.2.1.drew, h.2.2.drew⟩
theorem RS.cellAt {w wr : World} {N S : Nat} {g m cap : Nat} {l : List E3} {j : Nat} {e : E3} (h : RS w wr N S (.slice (some ⟨g, 0, none⟩) m cap) l) (hm : l.length = m) (hj : l[j]? = some e) :
    (wr.cell? ⟨g, j * 3 + 1, none⟩ = some (.int .i64 e.2.1) ∧ wr.frozen? ⟨g, j * 3 + 1, none⟩ = false) ∧ wr.cell? ⟨g, j * 3 + 2, none⟩ = some (.int .i64 e.2.2) ∧ wr.frozen? ⟨g, j * 3 + 2, none⟩ = false := by
  subst hm
  have hl := len_of hj
  obtain ⟨_, h1, h2⟩ := flat_three hj
  exact ⟨⟨by rw [h.2.1.cellAt _ (by omega)]; exact h1, h.2.1.frozenAt _⟩, by rw [h.2.1.cellAt _ (by omega)]; exact h2, h.2.1.frozenAt _⟩
theorem RS.some {w wr : World} {N S : Nat} {a0 : Option Addr} {m cap : Nat} {l : List E3} (h : RS w wr N S (.slice a0 m cap) l) (hm : l.length = m) (h0 : 0 < m) : ∃ g, a0 = some ⟨g, 0, none⟩ := by
  rcases h.2.1.2 with ⟨h', h2⟩ | ⟨g', cap', cur, h', _⟩
  · cases h'; omega
  · cases h'; exact ⟨g', rfl⟩
theorem set_far {W : World} {g j B o : Nat} {u z : Value} (hne : g ≠ B) (h : W.cell? ⟨B, o, none⟩ = some z) : (W.setCell ⟨g, j, none⟩ u).cell? ⟨B, o, none⟩ = some z := by
  rw [World.cell?_setCell_other _ ⟨g, j, none⟩ ⟨B, o, none⟩ u (fun e => hne (congrArg Addr.block e))]
  exact h
theorem own_capok {w : World} {B : Nat} {e : TypeId} {k : Nat} {v : Value} {n : Nat} {xs : List Value} (h : w.ownsRow B e k v n xs) : CapOk v := by
  intro a0 m cap hv
  rcases h.2 with ⟨h0, _⟩ | ⟨g, c, cur, h0, _, _, r1, _⟩
  · rw [h0] at hv; cases hv; exact Nat.le_refl _
  · rw [h0] at hv; cases hv; exact r1
theorem own_edges2 {B : Nat} {wr : World} {v : Value} {l : List E3} (h : wr.ownsRow B 38 3 v l.length (flat l)) : EdgesAt wr v l := by
  rcases h.2 with ⟨rfl, h0⟩ | ⟨g, cap, cur, rfl, _, hg, r1, r2, r3, r4⟩
  · obtain rfl : l = [] := List.eq_nil_of_length_eq_zero h0
    exact ⟨none, 0, rfl, fun j e hj => by cases hj⟩
  · refine ⟨some ⟨g, 0, none⟩, cap, rfl, fun j e hj => ⟨g, 0, rfl, ?_⟩⟩
    have hR : RowE wr g cap l := ⟨cur, hg, r3, r4⟩
    rw [Nat.zero_add]
    exact hR.cells hj
theorem number_t (t : List Bool) (ht : t.length ≤ 2016000) (a k : Nat) (ha : a ≤ 10000000) (hk : k ≤ 30) (w : World) :
    Calls Tryz.prog 110 #[.string (txt t), .int .i64 (a : Int), .int .i64 (k : Int)] w fun e w' => e = .returned (.int .i64 (numOf (sub t a k) : Int)) ∧ w' = w := by
  have h := number_any (txt t) a k (by omega) hk (by rw [txt_size]; omega) w
  rw [part_txt] at h
  exact h
set_option maxHeartbeats 8000000 in
set_option maxRecDepth 100000 in
theorem rread_any (t : List Bool) (w : World) (ht : t.length ≤ 2016000) :
    Calls Tryz.prog 62 #[.string (txt t)] w fun e w' => ∃ b : Nat, e = .returned (.pointer (some ⟨b, 0, none⟩)) ∧ ∃ (N S : Nat) (v : Value) (l : List E3), Hid (RGraph w' b N S v l ∧ RRead t N S l ∧ CapOk v ∧ Below w.heap.size w w') := by
  have hts := txt_size t
  have HN0 : Hid (Calls Tryz.prog 110 _ w _) := number_t t ht 0 14 (by decide) (by decide) w
  have HN1 : Hid (Calls Tryz.prog 110 _ w _) := number_t t ht 14 5 (by decide) (by decide) w
  have HN2 : Hid (∀ W, Calls Tryz.prog 110 #[.string (txt t), .int .i64 ((19 : Nat) : Int), .int .i64 ((15 : Nat) : Int)] W _) := fun W => number_t t ht 19 15 (by decide) (by decide) W
  have l0 := numOf_lt (sub t 0 14)
  have l1 := numOf_lt (sub t 14 5)
  have l2 := numOf_lt (sub t 19 15)
  rw [sub_len] at l0 l1 l2
  obtain ⟨N, hN⟩ : ∃ N, N = numOf (sub t 0 14) := ⟨_, rfl⟩
  obtain ⟨S, hS⟩ : ∃ S, S = numOf (sub t 14 5) := ⟨_, rfl⟩
  obtain ⟨M, hM⟩ : ∃ M, M = numOf (sub t 19 15) := ⟨_, rfl⟩
  rw [← hN] at HN0 l0
  rw [← hS] at HN1 l1
  rw [← hM] at HN2 l2
  have HN : Hid _ := hN
  have HS : Hid _ := hS
  have HM : Hid _ := hM
  have HTs : Hid _ := hts
  clear hN hS hM
  obtain ⟨i0, hi, hz0, hz1, hz2⟩ := info_parts Tryz.infoE
  have H0 : Hid (RS w (w.alloc (.cells #[.int .i64 (N : Int), .int .i64 (S : Int), .slice none 0 0] 53)) N S (.slice none 0 0) (lst [] (fun _ => 0) (fun _ => 0) 0 0)) := (⟨heap_alloc_new _ _, World.ownsRow_nil _ _ _ _, below1 _ _⟩ : RS _ _ _ _ _ _)
  go_enter Tryz.func62, Tryz.ntmps62
  go_wp2_with fail
  refine (Calls.mono HN0.out ?_)
  rintro e w1 ⟨rfl, hw⟩
  rw [hw]
  clear hw w1
  go_wp2_with fail
  refine (Calls.mono HN1.out ?_)
  rintro e w1 ⟨rfl, hw⟩
  rw [hw]
  clear hw w1
  go_wp2_with fail
  refine (Calls.mono (HN2.out _) ?_)
  rintro e w1 ⟨rfl, hw⟩
  rw [hw]
  clear hw w1
  go_wp2
  go_loopw [5, 6] (fun sa su wr => ∃ (k : Nat) (fs : List Nat) (u : Nat) (v : Value), k ≤ t.length ∧ u ≤ N ∧ fs.length ≤ k ∧ sa = .int .i64 ((34 + k : Nat) : Int) ∧ su = .int .i64 (u : Int) ∧ (∃ a0 cap, v = .slice a0 fs.length cap) ∧ Hid (rdf t 34 k = (fs, u) ∧ RS w wr N S v (lst fs (fun _ => 0) (fun _ => 0) 0 0) ∧ ∀ j < k, (rdf t 34 j).2 < N ∧ 34 + j < t.length)) (fun sa _ _ => t.length + 34 - (intOf sa).toNat)
  case atStart => exact ⟨0, [], 0, .slice none 0 0, Nat.zero_le _, Nat.zero_le _, Nat.le_refl _, rfl, rfl, ⟨none, 0, rfl⟩, rfl, H0.out, fun j hj => by omega⟩
  case round =>
    obtain ⟨k, fs, u, v, hk0, hk1, hk2, rfl, rfl, ⟨a0, cap, rfl⟩, HI⟩ := hrel
    obtain ⟨c0, c1, c2, f2⟩ := HI.out.2.1.cells
    by_cases hgo : u < N ∧ 34 + k < t.length
    · obtain ⟨hlt, hle⟩ := hgo
      have hltI : (u : Int) < (N : Int) := by omega
      have hleI : ((34 + k : Nat) : Int) < (t.length : Int) := by omega
      have HJ : Hid (∀ j < k + 1, (rdf t 34 j).2 < N ∧ 34 + j < t.length) := (by
        intro j hj
        rcases Nat.lt_succ_iff_lt_or_eq.1 hj with h | h
        · exact HI.out.2.2 j h
        · rw [h, HI.out.1]; exact ⟨hlt, hle⟩ : ∀ j < k + 1, _)
      have hx := txt_at t (34 + k) (by rw [HTs.out]; exact hle)
      cases hbit : t.getD (34 + k) false
      · rw [hbit] at hx
        have HF : Hid (rdf t 34 (k + 1) = (fs, u + 1)) := (by show (if t.getD (34 + k) false then _ else _) = _; rw [hbit, HI.out.1]; rfl : _ = _)
        have HI2 : Hid (rdf t 34 (k + 1) = (fs, u + 1) ∧ RS w wr N S (.slice a0 fs.length cap) (lst fs (fun _ => 0) (fun _ => 0) 0 0) ∧ ∀ j < k + 1, (rdf t 34 j).2 < N ∧ 34 + j < t.length) := (⟨HF.out, HI.out.2.1, HJ.out⟩ : _ ∧ _)
        clear hbit HI
        go_wp2
        refine ⟨⟨k + 1, fs, u + 1, _, by omega, by omega, by omega, by go_num, by go_num, ⟨a0, cap, rfl⟩, HI2.out⟩, ?_⟩
        simp [intOf]; omega
      · rw [hbit] at hx
        have HF : Hid (rdf t 34 (k + 1) = (fs ++ [u], u)) := (by show (if t.getD (34 + k) false then _ else _) = _; rw [hbit, HI.out.1]; rfl : _ = _)
        have hrow := HI.out.2.1.2.1
        have hln := lst_len fs (fun _ => 0) (fun _ => 0) 0 0
        have hsz : w.heap.size < wr.heap.size := (Array.getElem?_eq_some_iff.1 HI.out.2.1.1).1
        clear hbit
        rw [hln] at hrow
        have HI1 : Hid _ := HI.out.2.1
        go_wp2_with (at_builtin; refine wpList_append_lies _ rfl _ _ 24 rfl (w.heap.size + 1) 38 i0 (.agg #[.int .i64 0, .int .i64 0, .int .i64 0]) 3 24 Tryz.underlying24 hi hz0 hz1 hz2 rfl (by decide) _ _ _ rfl (hrow.alloc _) ⟨wr.heap.size, 0, none⟩ 1 1 [.int .i64 (u : Int), .int .i64 0, .int .i64 0] rfl rfl (src3 _ _ _ _ _) (one3 _ _ _) (by omega) (by unfold maxLen; omega) (by omega) (by simp; omega) (wr.heap.size + 1) (by simp) ?_; intro gg gc w3 hown hgrow hat hlt3; have HOw : Hid _ := hown; have HGw : Hid _ := hgrow; obtain ⟨hA, c2', f2'⟩ := RS.app (e := ((u : Int), 0, 0)) HI1.out (by rw [hln]; exact hown) hgrow; have HA : Hid _ := hA; have hs3 := hgrow.size; simp at hs3; clear hown hgrow hat hA hrow c0 c1 c2 f2 HI)
        refine ⟨⟨k + 1, fs ++ [u], u, _, by omega, by omega, by rw [List.length_append]; simp; omega, by go_num, rfl, ⟨_, gc, by rw [List.length_append]⟩, HF.out, by rw [lst_new]; exact HA.out, HJ.out⟩, ?_⟩
        simp [intOf]; omega
    · have HSt : Hid (RStop t N k) := (⟨HI.out.2.2, by rw [HI.out.1]; exact hgo⟩ : RStop t N k)
      have HF : Hid _ := HI.out.1
      have HRS : Hid _ := HI.out.2.1
      have HW1 : Hid (∀ W, Calls Tryz.prog 96 _ W _) := fun W => width_all S (by omega) W
      have HW2 : Hid (∀ W, Calls Tryz.prog 96 _ W _) := fun W => width_all N (by omega) W
      have hw1 := wid_le (S - 1) (by omega)
      have hw2 := wid_le (N - 1) (by omega)
      have hbool : (decide ((u : Int) < (N : Int)) && decide (((34 + k : Nat) : Int) < (t.length : Int))) = false := by
        rw [Bool.and_eq_false_iff, decide_eq_false_iff_not, decide_eq_false_iff_not]
        by_cases h : u < N
        · right; intro h2; exact hgo ⟨h, by omega⟩
        · left; omega
      clear hgo HI
      by_cases hm : fs.length = M
      · have hmI : ((fs.length : Int) != (M : Int)) = false := by rw [hm]; simp
        have hb0 : Below w.heap.size w wr := HRS.out.2.2
        have HB0 : Hid _ := hb0
        clear hb0
        obtain ⟨lb, hlb⟩ : ∃ lb : Nat → Nat, lb = fun i => numOf (sub t (34 + k + i * wid (S - 1)) (wid (S - 1))) := ⟨_, rfl⟩
        obtain ⟨tb, htb⟩ : ∃ tb : Nat → Nat, tb = fun i => numOf (sub t (34 + k + fs.length * wid (S - 1) + i * wid (N - 1)) (wid (N - 1))) := ⟨_, rfl⟩
        have HEdg : Hid (edg t 34 N S k = lst fs lb tb fs.length fs.length) := (by unfold edg; rw [HF.out, hlb, htb] : _ = _)
        have HLB : Hid _ := hlb
        have HTB : Hid _ := htb
        have HMM : Hid _ := hm
        clear hlb htb hm
        by_cases hun : (u : Int) < (N : Int)
        all_goals
          have hat : ¬ (((34 + k : Nat) : Int) < (t.length : Int)) ∨ ¬ (u : Int) < (N : Int) := by
            rw [Bool.and_eq_false_iff, decide_eq_false_iff_not, decide_eq_false_iff_not] at hbool
            exact hbool.symm
          try (have hat2 : ¬ (((34 + k : Nat) : Int) < (t.length : Int)) := hat.resolve_right (fun h => h hun))
          clear hat hbool
          go_wp2_with fail
          refine (Calls.mono (HW1.out _) ?_)
          rintro e w2 ⟨rfl, hw⟩
          rw [hw]
          clear hw w2
          go_wp2
          go_loopw [5, 8] (fun sa si wx => ∃ i : Nat, i ≤ fs.length ∧ sa = .int .i64 ((34 + k + i * wid (S - 1) : Nat) : Int) ∧ si = .int .i64 (i : Int) ∧ Hid (RS w wx N S (.slice a0 fs.length cap) (lst fs lb tb i 0))) (fun _ si _ => fs.length - (intOf si).toNat)
          case atStart => exact ⟨0, Nat.zero_le _, by rw [Nat.zero_mul]; rfl, rfl, HRS.out⟩
          case round =>
            obtain ⟨i, hi2, rfl, rfl, HI⟩ := hrel
            clear c0 c1 c2 f2
            obtain ⟨c0, c1, c2, f2⟩ := HI.out.cells
            have hMl : fs.length < 32768 := by have := HMM.out; omega
            have hmul : i * wid (S - 1) ≤ 32768 * 20 := Nat.mul_le_mul (by omega) hw1
            by_cases hlt2 : i < fs.length
            · have hltI : (i : Int) < (M : Int) := by have := HMM.out; omega
              obtain ⟨g, rfl⟩ := HI.out.some (lst_len _ _ _ _ _) (by omega)
              obtain ⟨⟨hcl, hfr⟩, _⟩ := HI.out.cellAt (lst_len _ _ _ _ _) (lst_at fs lb tb i 0 i hlt2)
              obtain ⟨hput, hgb⟩ := HI.out.put (lst_lab fs lb tb i 0 hlt2) (lst_len _ _ _ _ _) (lst_len _ _ _ _ _)
              have HPut : Hid _ := hput
              have hA2 : 34 + k + (i + 1) * wid (S - 1) = 34 + k + i * wid (S - 1) + wid (S - 1) := by rw [Nat.add_mul]; omega
              have HA2 : Hid _ := hA2
              have HNm : Hid (∀ W, Calls Tryz.prog 110 #[.string (txt t), .int .i64 ((34 + k + i * wid (S - 1) : Nat) : Int), .int .i64 (wid (S - 1) : Int)] W fun e w' => e = .returned (.int .i64 (lb i : Int)) ∧ w' = W) := (fun W => by
                have h := number_t t ht (34 + k + i * wid (S - 1)) (wid (S - 1)) (by omega) (by omega) W
                rw [HLB.out]
                exact h : ∀ W, _)
              have hiI : (i : Int) < (fs.length : Int) := by omega
              have hi0 : (0 : Int) ≤ (i : Int) := by omega
              generalize hA : 34 + k + i * wid (S - 1) = A at HNm HA2
              have hAl : A ≤ 10000000 := by omega
              clear hput hA2 hA hmul
              go_wp2_with fail
              go_region_held3 (fun w' => w'.cell? ⟨w.heap.size, 2, none⟩ = some (.slice (some ⟨g, 0, none⟩) fs.length cap))
                (first | assumption | exact set_far (by omega) (by assumption))
                (first
                  | (go_at_call 110; refine (HNm.out _).mono ?_; rintro r w2 ⟨rfl, rfl⟩))
              go_wp2
              go_roundw
              case rel => exact ⟨i + 1, by omega, by rw [HA2.out]; go_num, by go_num, RS.drew HPut.out⟩
              case measure => simp [intOf]; omega
            · have hltI : ¬ (i : Int) < (M : Int) := by have := HMM.out; omega
              obtain rfl : i = fs.length := by omega
              have HRS2 : Hid _ := HI.out
              obtain ⟨W0, rfl⟩ : ∃ W0, W0 = wr := ⟨wr, rfl⟩
              clear HI
              go_wp2_with fail
              refine (Calls.mono (HW2.out _) ?_)
              rintro e w2 ⟨rfl, hw⟩
              rw [hw]
              clear hw w2
              go_wp2
              go_loopw [5, 9] (fun sa si wx => ∃ i : Nat, i ≤ fs.length ∧ sa = .int .i64 ((34 + k + fs.length * wid (S - 1) + i * wid (N - 1) : Nat) : Int) ∧ si = .int .i64 (i : Int) ∧ Hid (RS w wx N S (.slice a0 fs.length cap) (lst fs lb tb fs.length i))) (fun _ si _ => fs.length - (intOf si).toNat)
              case atStart => exact ⟨0, Nat.zero_le _, by rw [Nat.zero_mul]; rfl, rfl, HRS2.out⟩
              case round =>
                clear c0 c1 c2 f2 hltI
                obtain ⟨i, hi2, rfl, rfl, HI⟩ := hrel
                obtain ⟨c0, c1, c2, f2⟩ := HI.out.cells
                have hmul2 : fs.length * wid (S - 1) ≤ 32768 * 20 := Nat.mul_le_mul (by omega) hw1
                have hmul : i * wid (N - 1) ≤ 32768 * 20 := Nat.mul_le_mul (by omega) hw2
                by_cases hlt2 : i < fs.length
                · have hltI : (i : Int) < (M : Int) := by have := HMM.out; omega
                  obtain ⟨g, rfl⟩ := HI.out.some (lst_len _ _ _ _ _) (by omega)
                  obtain ⟨_, hcl, hfr⟩ := HI.out.cellAt (lst_len _ _ _ _ _) (lst_at fs lb tb fs.length i i hlt2)
                  obtain ⟨hput, hgb⟩ := HI.out.put (lst_to fs lb tb fs.length i hlt2) (lst_len _ _ _ _ _) (lst_len _ _ _ _ _)
                  have HPut : Hid _ := hput
                  have hA2 : 34 + k + fs.length * wid (S - 1) + (i + 1) * wid (N - 1) = 34 + k + fs.length * wid (S - 1) + i * wid (N - 1) + wid (N - 1) := by rw [Nat.add_mul i]; omega
                  have HA2 : Hid _ := hA2
                  have HNm : Hid (∀ W, Calls Tryz.prog 110 #[.string (txt t), .int .i64 ((34 + k + fs.length * wid (S - 1) + i * wid (N - 1) : Nat) : Int), .int .i64 (wid (N - 1) : Int)] W fun e w' => e = .returned (.int .i64 (tb i : Int)) ∧ w' = W) := (fun W => by
                    have h := number_t t ht (34 + k + fs.length * wid (S - 1) + i * wid (N - 1)) (wid (N - 1)) (by omega) (by omega) W
                    rw [HTB.out]
                    exact h : ∀ W, _)
                  have hiI : (i : Int) < (fs.length : Int) := by omega
                  have hi0 : (0 : Int) ≤ (i : Int) := by omega
                  generalize hA : 34 + k + fs.length * wid (S - 1) + i * wid (N - 1) = A at HNm HA2
                  have hAl : A ≤ 10000000 := by omega
                  clear hput hA2 hA hmul
                  go_wp2_with fail
                  go_region_held3 (fun w' => w'.cell? ⟨w.heap.size, 2, none⟩ = some (.slice (some ⟨g, 0, none⟩) fs.length cap))
                    (first | assumption | exact set_far (by omega) (by assumption))
                    (first
                      | (go_at_call 110; refine (HNm.out _).mono ?_; rintro r w2 ⟨rfl, rfl⟩))
                  go_wp2
                  go_roundw
                  case rel => exact ⟨i + 1, by omega, by rw [HA2.out]; go_num, by go_num, RS.drew HPut.out⟩
                  case measure => simp [intOf]; omega
                · have hltI : ¬ (i : Int) < (M : Int) := by have := HMM.out; omega
                  obtain rfl : i = fs.length := by omega
                  have HG : Hid (RGraph _ w.heap.size N S _ _ ∧ RRead t N S (lst fs lb tb fs.length fs.length) ∧ CapOk _ ∧ Below w.heap.size w _) := ⟨⟨c0, c1, c2, own_edges2 HI.out.2.1⟩, .inr ⟨HN.out, HS.out, k, HSt.out, by rw [HF.out, ← HM.out]; exact HMM.out, HEdg.out.symm⟩, own_capok HI.out.2.1, HI.out.2.2⟩
                  clear HI c0 c1 c2 f2
                  go_wp2
                  go_ret
                  exact ⟨_, rfl, N, S, _, _, HG.out⟩
      · have hmI : ((fs.length : Int) != (M : Int)) = true := by simpa using (by omega : ¬ (fs.length : Int) = (M : Int))
        have HMM : Hid _ := hm
        by_cases hun : (u : Int) < (N : Int)
        all_goals
          have hat : ¬ (((34 + k : Nat) : Int) < (t.length : Int)) ∨ ¬ (u : Int) < (N : Int) := by
            rw [Bool.and_eq_false_iff, decide_eq_false_iff_not, decide_eq_false_iff_not] at hbool
            exact hbool.symm
          try (have hat2 : ¬ (((34 + k : Nat) : Int) < (t.length : Int)) := hat.resolve_right (fun h => h hun))
          have HB : Hid (Below w.heap.size w (wr.alloc (.cells #[.int .i64 0, .int .i64 0, .slice none 0 0] 53))) := HRS.out.2.2.alloc HRS.out.2.2.size _
          have HG : Hid (RGraph (wr.alloc (.cells #[.int .i64 0, .int .i64 0, .slice none 0 0] 53)) wr.heap.size (0 : Nat) (0 : Nat) (.slice none 0 0) []) := ⟨by simp, by simp, by simp, none, 0, rfl, fun j e hj => by cases hj⟩
          have HR : Hid (RRead t 0 0 []) := (.inl ⟨rfl, rfl, rfl, k, by rw [← HN.out]; exact HSt.out, by rw [HF.out, ← HM.out]; exact HMM.out⟩ : RRead t 0 0 [])
          clear hat hbool hm HRS
          go_wp2
          go_ret
          exact ⟨_, rfl, 0, 0, _, [], HG.out, HR.out, (fun a n c e => by cases e; exact Nat.le_refl _), HB.out⟩
end Go.Proofs.YtphjbbbnbmafnaaGreatDoor.G

namespace Go.Proofs.YtphjbbbnbmafnaaGreatDoor.G
open Go.RowKit

/-- the document's graph as Open gives it -/
def RG (w : World) (b n s : Nat) (L : List E3) : Prop := ∃ v, RGraph w b n s v L
theorem be4_num (a b c d S : Nat) (ha : a < 256) (hb : b < 256) (hc : c < 256) (hd : d < 256) (hS : S < 4294967296) : ([a, b, c, d] = Crc.be4 S) ↔ S = 16777216 * a + 65536 * b + 256 * c + d := by
  unfold Crc.be4
  simp only [List.cons.injEq, and_true]
  omega
theorem byt4 (s : ByteArray) (a : Nat) : byt s a 4 = [(s.data.toList.getD a 0).toNat, (s.data.toList.getD (a + 1) 0).toNat, (s.data.toList.getD (a + 2) 0).toNat, (s.data.toList.getD (a + 3) 0).toNat] := rfl
theorem ext_at (s : ByteArray) (a b i : Nat) (hb : b ≤ s.size) (hi : a + i < b) : ∀ h : i < (s.extract a b).size, ((s.extract a b)[i].toNat) = (s.data.toList.getD (a + i) 0).toNat := by
  intro h
  have hsz : s.data.size = s.size := rfl
  have e : (s.extract a b)[i] = s[a + i]'(by omega) := ByteArray.getElem_extract ..
  rw [e, List.getD_eq_getElem?_getD, Array.getElem?_toList, Array.getElem?_eq_getElem (by omega)]; rfl
theorem ext_byt (s : ByteArray) (a n : Nat) (h : a + n ≤ s.size) : (List.range (s.extract a (a + n)).size).map (fun i => ((s.extract a (a + n)).data.toList.getD i 0).toNat) = byt s a n := by
  have hsz : s.data.size = s.size := rfl
  have hx : (s.extract a (a + n)).size = n := by simp; omega
  rw [hx]
  unfold byt
  refine List.map_congr_left (fun i hi => ?_)
  have hi : i < n := by simpa using hi
  have h2 : i < (s.extract a (a + n)).size := by omega
  have e := ext_at s a (a + n) i h (by omega) h2
  rw [← e, List.getD_eq_getElem?_getD, Array.getElem?_toList, Array.getElem?_eq_getElem (show i < (s.extract a (a + n)).data.size from h2)]; rfl
set_option maxHeartbeats 8000000 in
set_option maxRecDepth 100000 in
theorem ropen_size (img : ByteArray) (w : World) (hs : ¬ sizeOkI img) (hb : img.size ≤ 9223372036854775807) : Calls Tryz.prog 31 #[.string img] w (OpenPost RG img w) := by
  have HS : Hid _ := hs
  have htd : (img.size : Int).tdiv 256 = (img.size : Int) / 256 := Int.tdiv_eq_ediv_of_nonneg (by omega)
  by_cases h1 : (img.size : Int) / 256 < 1
  · clear hs
    go_enter Tryz.func31, Tryz.ntmps31
    go_wp2
    go_ret2
    exact ⟨Below.refl _ _, .inl ⟨HS.out, rfl⟩⟩
  · by_cases h2 : (img.size : Int) / 256 > 1000
    · clear hs
      go_enter Tryz.func31, Tryz.ntmps31
      go_wp2
      go_ret2
      exact ⟨Below.refl _ _, .inl ⟨HS.out, rfl⟩⟩
    · have h3 : ((img.size : Int) != 256 * ((img.size : Int) / 256)) = true := by
        have : ¬ (img.size : Int) = 256 * ((img.size : Int) / 256) := fun e => hs ⟨by omega, by omega, by omega⟩
        simpa using this
      clear hs
      go_enter Tryz.func31, Tryz.ntmps31
      go_wp2
      go_ret2
      exact ⟨Below.refl _ _, .inl ⟨HS.out, rfl⟩⟩
/-- the bits so far, a row of bytes of one's own -/
def Bt (w wr : World) (v : Value) (L : List Bool) : Prop := wr.ownsRow w.heap.size 5 1 v L.length (valsT L) ∧ Below w.heap.size w wr
theorem bt_more {w wr w2 : World} {v v' : Value} {L M : List Bool} (h : Bt w wr v L) (hown : w2.ownsRow w.heap.size 5 1 v' (L.length + (txt M).size) (valsT L ++ Lib.strCells (txt M))) (hg : wr.grownBy w2 v.ownBlock) : Bt w w2 v' (L ++ M) := by
  refine ⟨by rw [valsT_append, List.length_append, ← strT M, ← txt_size M]; exact hown, ?_⟩
  exact h.2.grown hg h.2.size (fun j hj => (h.1.lt j hj).1)
theorem bt_below {w wr w2 : World} {v : Value} {L : List Bool} (h : Bt w wr v L) (hb : Below wr.heap.size wr w2) : Bt w w2 v L := ⟨own_below h.1 hb, chain h.2 hb⟩
theorem bt_end {w wr : World} {v : Value} {L : List Bool} (h : Bt w wr v L) (hl : 0 < L.length) : ∃ g cap, v = .slice (some ⟨g, 0, none⟩) L.length cap ∧ (convert 113 9 (.slice (some ⟨g, 0, none⟩) L.length cap)).run Tryz.prog wr = .ok (.string (txt L)) wr := by
  rcases h.1.2 with ⟨_, h0⟩ | ⟨g, cap, cur, rfl, _⟩
  · omega
  · refine ⟨g, cap, rfl, ?_⟩
    have := run_convert_bytes_back (P := Tryz.prog) wr 113 9 5 ⟨g, 0, none⟩ cap (L.map fun b => if b then (49 : UInt8) else 48) Tryz.underlying113 Tryz.underlying5 Tryz.underlying9 (fun j hj => by
      have hjl : j < L.length := by simpa using hj
      rw [addr_add, Nat.zero_add, h.1.cellAt j (by omega)]
      unfold valsT
      simp only [List.getElem?_map, List.getElem?_eq_getElem hjl, List.getElem_map, Option.map_some]
      cases L[j] <;> rfl)
    rw [List.length_map] at this
    exact this
/-- a page's bytes in memory, in a block with a mark behind its cells (no row of one's own that append grows is such a block) -/
def PgAt (w : World) (g : Nat) (l : List Nat) : Prop := ∃ cur fz, w.heap[g]? = some (.cells cur 5 fz) ∧ fz ≠ (0, 0) ∧ ∀ (j x : Nat), l[j]? = some x → cur[j]? = some (.int .u8 (x : Int))
theorem PgAt.cell {w : World} {g : Nat} {l : List Nat} (h : PgAt w g l) {j x : Nat} (hj : l[j]? = some x) : w.cell? ⟨g, j, none⟩ = some (.int .u8 (x : Int)) := by
  obtain ⟨cur, fz, h1, _, h3⟩ := h
  rw [cell_of_row w g j cur _ fz h1]; exact h3 j x hj
theorem PgAt.lt {w : World} {g : Nat} {l : List Nat} (h : PgAt w g l) : g < w.heap.size := by
  obtain ⟨cur, fz, h1, _⟩ := h
  exact (Array.getElem?_eq_some_iff.1 h1).1
theorem PgAt.below {w w' : World} {g : Nat} {l : List Nat} (h : PgAt w g l) (hb : Below w.heap.size w w') : PgAt w' g l := by
  have hl := h.lt
  obtain ⟨cur, fz, h1, h2, h3⟩ := h
  exact ⟨cur, fz, (hb.block g hl).trans h1, h2, h3⟩
theorem PgAt.grown {w w' : World} {g B k : Nat} {l : List Nat} {v : Value} {xs : List Value} (h : PgAt w g l) (hown : w.ownsRow B 5 1 v k xs) (hg : w.grownBy w' v.ownBlock) : PgAt w' g l := by
  have hl := h.lt
  obtain ⟨cur, fz, h1, h2, h3⟩ := h
  refine ⟨cur, fz, (hg.block g hl (fun e => ?_)).trans h1, h2, h3⟩
  rcases hown.2 with ⟨rfl, _⟩ | ⟨g2, cap, cur2, rfl, _, hg2, _⟩
  · cases e
  · simp only [Value.ownBlock, Option.some.injEq] at e
    subst e
    rw [h1] at hg2
    simp only [Option.some.injEq, Obj.cells.injEq] at hg2
    exact h2 hg2.2.2
/-- a page's bytes, made a slice -/
theorem page_start (img : ByteArray) (a n : Nat) (h : a + n ≤ img.size) (w : World) : ∃ g cap w1, (convert 9 113 (.string (img.extract a (a + n)))).run Tryz.prog w = .ok (.slice (some ⟨g, 0, none⟩) n cap) w1 ∧ PgAt w1 g (byt img a n) ∧ Below w.heap.size w w1 := by
  have hx : (img.extract a (a + n)).size = n := by simp; omega
  have hcv := run_bytes_of_string (P := Tryz.prog) w 9 113 5 (img.extract a (a + n)) Tryz.underlying9 Tryz.underlying113 Tryz.underlying5
  rw [hx] at hcv
  refine ⟨_, _, _, hcv, ⟨_, _, heap_alloc_new w.drew _, by simp, fun j x hj => ?_⟩, (Below.refl _ w).drew.alloc (Nat.le_refl _) _⟩
  have hjl : j < n := by have := (List.getElem?_eq_some_iff.1 hj).1; rwa [byt_len] at this
  have hj2 : j < (img.extract a (a + n)).data.size := by show j < (img.extract a (a + n)).size; omega
  unfold bytesRow
  rw [Array.getElem?_append_left (by simp; omega), Array.getElem?_map, Array.getElem?_eq_getElem hj2]
  have e := ext_at img a (a + n) j h (by omega) hj2
  have hx2 : x = (img.data.toList.getD (a + j) 0).toNat := by
    unfold byt at hj
    rw [List.getElem?_map, List.getElem?_range hjl] at hj
    simpa using hj.symm
  simp only [Option.map_some]
  rw [hx2, ← e]; rfl
set_option maxHeartbeats 8000000 in
set_option maxRecDepth 100000 in
theorem ropen_any (img : ByteArray) (w : World) (hb : img.size ≤ 9223372036854775807) : Calls Tryz.prog 31 #[.string img] w (OpenPost RG img w) := by
  by_cases hs : sizeOkI img
  · obtain ⟨n, hn⟩ : ∃ n, n = img.size / 256 := ⟨_, rfl⟩
    have hn1 : img.size = 256 * n := by have := hs.2.1; omega
    have hn2 : 1 ≤ n ∧ n ≤ 1000 := by have := hs.1; have := hs.2.2; omega
    have HSz : Hid _ := hn1
    have HS : Hid _ := hs
    have HN : Hid _ := hn
    obtain ⟨hn3, hn4⟩ := hn2
    have hszI : (img.size : Int) = 256 * (n : Int) := by omega
    have htd : (256 * (n : Int)).tdiv 256 = (n : Int) := by rw [Int.tdiv_eq_ediv_of_nonneg (by omega)]; omega
    have hneI : ((256 * (n : Int)) != 256 * (n : Int)) = false := by simp
    obtain ⟨i0, hi, hz0, hz1, hz2⟩ := info_parts Tryz.infoB
    clear hs hn hn1 hb
    go_enter Tryz.func31, Tryz.ntmps31
    go_wp2
    go_loopw [5, 6] (fun sb sp wr => ∃ p : Nat, p ≤ n ∧ sp = .int .i64 (p : Int) ∧ Hid (Bt w wr sb (textN img p) ∧ ∀ q < p, pageOk img q)) (fun _ sp _ => n - (intOf sp).toNat)
    case atStart => exact ⟨0, Nat.zero_le _, rfl, ⟨World.ownsRow_nil _ _ _ _, Below.refl _ _⟩, fun q hq => by omega⟩
    case round =>
      obtain ⟨p, hp, rfl, HI⟩ := hrel
      obtain ⟨vb, rfl⟩ : ∃ vb, vb = u5 := ⟨u5, rfl⟩
      obtain ⟨W0, rfl⟩ : ∃ W0, W0 = wr := ⟨wr, rfl⟩
      by_cases hlt : p < n
      · have hltI : (p : Int) < (n : Int) := by omega
        obtain ⟨g, cap, w1, hcv, hpc, hB1⟩ := page_start img (256 * p) 252 (by have := HSz.out; omega) W0
        have HPC : Hid _ := hpc
        have HB1 : Hid _ := hB1
        have HSum : Hid (Calls Tryz.prog 60 _ w1 _) := sum_any p (byt img (256 * p) 252) (.slice (some ⟨g, 0, none⟩) 252 cap) w1 (by omega) (by rw [byt_len]; omega) ⟨g, 0, cap, by rw [byt_len], fun j x hj => by rw [Nat.zero_add]; exact PgAt.cell hpc hj⟩ (fun x hx => byt_lt _ _ _ _ hx)
        have hSl := Crc.sum_lt p (byt img (256 * p) 252)
        obtain ⟨S, hS⟩ : ∃ S, S = Crc.sumOf p (byt img (256 * p) 252) := ⟨_, rfl⟩
        rw [← hS] at HSum hSl
        have hx4 : (img.extract (256 * p + 252) (256 * p + 256)).size = 4 := by have := HSz.out; simp; omega
        have b0 : ((img.extract (256 * p + 252) (256 * p + 256))[0]'(by omega)).toNat = (img.data.toList.getD (256 * p + 252) 0).toNat := ext_at img (256 * p + 252) (256 * p + 256) 0 (by have := HSz.out; omega) (by omega) (by omega)
        have b1 := ext_at img (256 * p + 252) (256 * p + 256) 1 (by have := HSz.out; omega) (by omega) (by omega)
        have b2 := ext_at img (256 * p + 252) (256 * p + 256) 2 (by have := HSz.out; omega) (by omega) (by omega)
        have b3 := ext_at img (256 * p + 252) (256 * p + 256) 3 (by have := HSz.out; omega) (by omega) (by omega)
        have HPk : Hid (pageOk img p ↔ byt img (256 * p + 252) 4 = Crc.be4 S) := (by rw [hS]; exact Iff.rfl : _ ↔ _)
        have HSe : Hid _ := hS
        have hby := byt4 img (256 * p + 252)
        have k0 := UInt8.toNat_lt (img.data.toList.getD (256 * p + 252) 0)
        have k1 := UInt8.toNat_lt (img.data.toList.getD (256 * p + 252 + 1) 0)
        have k2 := UInt8.toNat_lt (img.data.toList.getD (256 * p + 252 + 2) 0)
        have k3 := UInt8.toNat_lt (img.data.toList.getD (256 * p + 252 + 3) 0)
        generalize (img.data.toList.getD (256 * p + 252) 0).toNat = x0 at b0 k0 hby
        generalize (img.data.toList.getD (256 * p + 252 + 1) 0).toNat = x1 at b1 k1 hby
        generalize (img.data.toList.getD (256 * p + 252 + 2) 0).toNat = x2 at b2 k2 hby
        generalize (img.data.toList.getD (256 * p + 252 + 3) 0).toNat = x3 at b3 k3 hby
        have HPk2 : Hid (pageOk img p ↔ S = 16777216 * x0 + 65536 * x1 + 256 * x2 + x3) := (by rw [HPk.out, hby]; exact be4_num x0 x1 x2 x3 S k0 k1 k2 k3 hSl : _ ↔ _)
        clear hS hpc hB1 hby HPk
        by_cases hq : S = 16777216 * x0 + 65536 * x1 + 256 * x2 + x3
        · have hqI : ((S : Int) != 16777216 * (x0 : Int) + 65536 * (x1 : Int) + 256 * (x2 : Int) + (x3 : Int)) = false := by
            rw [bne_eq_false_iff_eq]; omega
          have HOk : Hid (pageOk img p) := HPk2.out.2 hq
          clear hq HPk2
          go_wp2_with fail
          refine (Calls.mono HSum.out ?_)
          rintro e w2 ⟨rfl, hB2⟩
          have HB2 : Hid _ := hB2
          clear hB2
          go_wp2_with fail
          go_region
          have HP2 : Hid (PgAt w2.drew g (byt img (256 * p) 252)) := PgAt.below (PgAt.below HPC.out HB2.out) (Below.refl _ _).drew
          have HT2 : Hid (Bt w w2.drew vb (textN img p)) := bt_below (bt_below (bt_below HI.out.1 HB1.out) HB2.out) (Below.refl _ _).drew
          go_wp2
          go_loopw [5, 10] (fun sb si wq => ∃ i : Nat, i ≤ 252 ∧ si = .int .i64 (i : Int) ∧ Hid (Bt w wq sb (textN img p ++ nums 8 ((byt img (256 * p) 252).take i)) ∧ PgAt wq g (byt img (256 * p) 252))) (fun _ si _ => 252 - (intOf si).toNat)
          case atStart => exact ⟨0, Nat.zero_le _, rfl, by rw [List.take_zero, show textN img p ++ nums 8 [] = textN img p from List.append_nil _]; exact HT2.out, HP2.out⟩
          case round =>
            obtain ⟨i, hi2, rfl, HJ⟩ := hrel
            obtain ⟨vc, rfl⟩ : ∃ vc, vc = u5 := ⟨u5, rfl⟩
            by_cases hlt2 : i < 252
            · have hltI2 : (i : Int) < 252 := by omega
              obtain ⟨x, hx⟩ : ∃ x, (byt img (256 * p) 252)[i]? = some x := ⟨_, List.getElem?_eq_getElem (by rw [byt_len]; exact hlt2)⟩
              have hcl := PgAt.cell HJ.out.2 hx
              have hxl := byt_lt _ _ _ _ (List.mem_of_getElem? hx)
              have HNx : Hid _ := nums_take (k := 8) hx
              have HDg : Hid (Calls Tryz.prog 61 _ wr _) := digits_any x 8 (by omega) (by decide) wr
              have hLl : (textN img p ++ nums 8 ((byt img (256 * p) 252).take i)).length ≤ 5000000 := by
                have := nums_take_len 8 (byt img (256 * p) 252) i
                rw [byt_len] at this
                rw [List.length_append, textN_len]; omega
              generalize hLJ : textN img p ++ nums 8 ((byt img (256 * p) 252).take i) = LJ at HJ hLl
              have HLJ : Hid _ := hLJ
              have hdz : (txt (digs 8 x)).size = 8 := by rw [txt_size, digs_len]
              clear hLJ hx
              go_wp2_with fail
              refine (Calls.mono HDg.out ?_)
              rintro e w3 ⟨rfl, hB3⟩
              have HT3 : Hid (Bt w w3 vc LJ) := bt_below HJ.out.1 hB3
              have HP3 : Hid (PgAt w3 g (byt img (256 * p) 252)) := PgAt.below HJ.out.2 hB3
              have hown := HT3.out.1
              have hbs := HT3.out.2.size
              clear hB3
              go_wp2_with (at_builtin; refine Lib.wpList_append_own_string _ rfl _ _ 113 9 rfl w.heap.size 5 i0 Tryz.underlying113 Tryz.underlying9 hi hz0 hz1 hz2 _ _ _ rfl hown (txt (digs 8 x)) rfl (by rw [hdz]; unfold maxLen; omega) (by rw [hdz]; omega) hbs ?_)
              intro v' w4 hown' hgrow _
              have HT4 : Hid (Bt w w4 v' (textN img p ++ nums 8 ((byt img (256 * p) 252).take (i + 1)))) := (by
                rw [HNx.out, ← List.append_assoc, HLJ.out]
                exact bt_more HT3.out hown' hgrow : Bt _ _ _ _)
              have HP4 : Hid (PgAt w4 g (byt img (256 * p) 252)) := PgAt.grown HP3.out hown hgrow
              clear hown' hgrow hown
              go_wp2
              go_roundw
              case rel => exact ⟨i + 1, by omega, by go_num, HT4.out, HP4.out⟩
              case measure => simp [intOf] <;> omega
            · obtain rfl : i = 252 := by omega
              have hJ := HJ.out.1
              rw [List.take_of_length_le (by rw [byt_len]; exact Nat.le_refl _)] at hJ
              have HT5 : Hid (Bt w wr vc (textN img (p + 1))) := hJ
              clear hJ
              go_wp2
              go_roundw
              case rel => exact ⟨p + 1, by omega, by go_num, HT5.out, fun q hq => by
                rcases Nat.lt_succ_iff_lt_or_eq.1 hq with h | h
                · exact HI.out.2 q h
                · rw [h]; exact HOk.out⟩
              case measure => simp [intOf] <;> omega
        · have hqI : ((S : Int) != 16777216 * (x0 : Int) + 65536 * (x1 : Int) + 256 * (x2 : Int) + (x3 : Int)) = true := by
            rw [bne_iff_ne]; omega
          have HNo : Hid (¬ pageOk img p) := fun h => hq (HPk2.out.1 h)
          clear hq HPk2
          go_wp2_with fail
          refine (Calls.mono HSum.out ?_)
          rintro e w2 ⟨rfl, hB2⟩
          have HB2 : Hid _ := hB2
          clear hB2
          go_wp2_with fail
          go_region
          have HB4 : Hid (Below w.heap.size w w2.drew) := (chain (chain HI.out.1.2 HB1.out) HB2.out).drew
          go_wp2
          go_ret2
          exact ⟨HB4.out, .inr (.inl ⟨HS.out, ⟨p, by rw [← HN.out]; exact hlt, HNo.out⟩, rfl⟩)⟩
      · obtain rfl : p = n := by omega
        obtain ⟨g, cap, hv, hcv⟩ := bt_end HI.out.1 (by rw [textN_len]; omega)
        have htl := textN_len img p
        have HRd : Hid (Calls Tryz.prog 62 _ W0 _) := rread_any (textN img p) W0 (by rw [htl]; omega)
        have HAll : Hid (∀ q < img.size / 256, pageOk img q) := (by rw [← HN.out]; exact HI.out.2 : ∀ q < _, _)
        have HB0 : Hid _ := HI.out.1.2
        have HT : Hid (∃ t, t = textN img p) := ⟨_, rfl⟩
        have HUn : Hid (∀ N S l, RRead (textN img p) N S l → ∀ n' s' L, Is img n' s' L → N = n' ∧ S = s' ∧ l = L) := (fun N S l hr n' s' L h => rread_is h HSz.out hr : ∀ N S l, _)
        rw [htl] at hv hcv
        rw [hv]
        generalize textN img p = t at hcv HRd HUn
        clear hlt hv htl HI HT
        have hpp : ¬ (p : Int) < (p : Int) := by omega
        go_wp2_with fail
        refine (Calls.mono HRd.out ?_)
        rintro e w1 ⟨b, rfl, N, S, v, l, HG⟩
        have c0 := HG.out.1.cn
        have c1 := HG.out.1.cs
        have c2 := HG.out.1.ce
        have HB1 : Hid _ := chain HB0.out HG.out.2.2.2
        have HU : Hid _ := HUn.out N S l HG.out.2.1
        have HBd : Hid (∀ W, EdgesAt W v l → Calls Tryz.prog 29 #[.int .i64 (N : Int), .int .i64 (S : Int), v] W _) := fun W h => rbuild_any N S l v W h HG.out.2.2.1
        clear HUn HRd hcv HB0
        go_wp2_with fail
        go_region_held3 (fun w' => w'.cell? ⟨b, 0, none⟩ = some (.int .i64 (N : Int)) ∧ w'.cell? ⟨b, 1, none⟩ = some (.int .i64 (S : Int)) ∧ w'.cell? ⟨b, 2, none⟩ = some v) (go_keep)
          (first
            | (go_at_call 29; refine (HBd.out _ ?_).mono ?_; exact (HG.out.1.ed.below (Below.refl _ _).drew); rintro r w2 ⟨rfl, hB2⟩; have q1 := cell_kept hB2 _ _ c0; have q2 := cell_kept hB2 _ _ c1; have q3 := cell_kept hB2 _ _ c2))
        have hB3 : Below w1.heap.size w1 w2 := ((Below.refl _ _).drew).trans hB2
        have HB3 : Hid _ := chain HB1.out hB3
        have HG3 : Hid (RG w2 b N S l) := (⟨v, RGraph.below HG.out.1 hB3⟩ : RG _ _ _ _ _)
        clear q1 q2 q3 hB2 hB3
        by_cases hgood : okG N S l
        · have he0 : errOf N S l = 0 := by unfold errOf; rw [if_pos hgood]
          rw [he0]
          by_cases himg : imgOf N S l = img
          · have HIs : Hid (Is img N S l) := (by
              have h := imgOf_is hgood
              rw [himg] at h
              have h2 := (HU.out N S _ h).2.2
              rw [← h2] at h
              exact h : Is _ _ _ _)
            have hne := same_bytes _ _ himg
            generalize imgOf N S l = again at hne
            clear himg hgood he0
            go_wp2
            go_ret2
            exact ⟨HB3.out, .inr (.inr (.inr ⟨N, S, l, b, HIs.out, rfl, HG3.out⟩))⟩
          · have HNo : Hid (∀ n' s' L, ¬ Is img n' s' L) := (fun n' s' L h => by
              obtain ⟨rfl, rfl, rfl⟩ := HU.out n' s' L h
              exact himg (is_img h).1 : ∀ n' s' L, _)
            have hne := other_bytes _ _ himg
            generalize imgOf N S l = again at hne
            clear himg hgood he0
            go_wp2
            go_ret2
            exact ⟨HB3.out, .inr (.inr (.inl ⟨HS.out, HAll.out, HNo.out, rfl⟩))⟩
        · have HNo : Hid (∀ n' s' L, ¬ Is img n' s' L) := (fun n' s' L h => by
            obtain ⟨rfl, rfl, rfl⟩ := HU.out n' s' L h
            exact hgood h.1 : ∀ n' s' L, _)
          have he0 : ¬ errOf N S l = 0 := by
            unfold errOf; rw [if_neg hgood]; decide
          have he1 : (errOf N S l != 0) = true := by rw [bne_iff_ne]; exact he0
          generalize errOf N S l = er at he0 he1
          generalize imgOf N S l = again
          clear hgood
          go_wp2
          go_ret2
          exact ⟨HB3.out, .inr (.inr (.inl ⟨HS.out, HAll.out, HNo.out, rfl⟩))⟩
  · exact ropen_size img w hs hb
end Go.Proofs.YtphjbbbnbmafnaaGreatDoor.G

namespace Go.Proofs.YtphjbbbnbmafnaaGreatDoor.G
open Go.RowKit

set_option maxHeartbeats 400000 in
theorem num2_any (n : Int) (w : World) : Calls Tryz.prog 17 #[.int .i64 n] w fun e w' => e = .returned (.int .i64 n) ∧ w' = w := by
  go_enter Tryz.func17, Tryz.ntmps17
  go_wp2
  go_ret
  exact ⟨rfl, rfl⟩
theorem Is.ok {img : ByteArray} {n s : Nat} {L : List E3} (h : Is img n s L) : sizeOkI img ∧ ∀ p < img.size / 256, pageOk img p := by
  have k := h.size
  refine ⟨k.1, fun p hp => k.2.2.2.2 p ?_⟩
  rw [k.2.1] at hp
  omega
theorem RG.below {w w' : World} {b n s : Nat} {L : List E3} (h : RG w b n s L) (hB : Below w.heap.size w w') : RG w' b n s L := by
  obtain ⟨v, hv⟩ := h
  exact ⟨v, RGraph.below hv hB⟩
/-- a pair: the program's graph, and the document's -/
def PairAt (w : World) (q n s : Nat) (L : List E3) : Prop := ∃ a b, w.cell? ⟨q, 0, none⟩ = some (.pointer (some ⟨a, 0, none⟩)) ∧ w.cell? ⟨q, 1, none⟩ = some (.pointer (some ⟨b, 0, none⟩)) ∧ GraphAt w a n s L ∧ RG w b n s L
theorem PairAt.below {w w' : World} {q n s : Nat} {L : List E3} (h : PairAt w q n s L) (hB : Below w.heap.size w w') : PairAt w' q n s L := by
  obtain ⟨a, b, h1, h2, h3, h4⟩ := h
  exact ⟨a, b, cell_kept hB _ _ h1, cell_kept hB _ _ h2, h3.below hB, h4.below hB⟩
def OpenedPost (img : ByteArray) (w : World) (e : Ending) (w' : World) : Prop :=
  Below w.heap.size w w' ∧
  (((∀ n s L, ¬ Is img n s L) ∧ e = .returned (.tuple #[.pointer none, .bool true])) ∨
   (∃ n s L q, Is img n s L ∧ e = .returned (.tuple #[.pointer (some ⟨q, 0, none⟩), .bool true]) ∧ PairAt w' q n s L))
set_option maxHeartbeats 4000000 in
set_option maxRecDepth 100000 in
theorem opened_any (img : ByteArray) (w : World) (hb : img.size ≤ 9223372036854775807) : Calls Tryz.prog 11 #[.string img] w (OpenedPost img w) := by
  have HA : Hid (Calls Tryz.prog 30 #[.string img] w (OpenPost GraphAt img w)) := open_any img w hb
  have HR : Hid (∀ W, Calls Tryz.prog 31 #[.string img] W (OpenPost RG img W)) := fun W => ropen_any img W hb
  have HNm : ∀ (q : Int) W, Hid (Calls Tryz.prog 17 #[.int .i64 q] W _) := fun q W => num2_any q W
  clear hb
  go_enter Tryz.func11, Tryz.ntmps11
  go_wp2_with fail
  refine (Calls.mono HA.out ?_)
  rintro e w1 ⟨hB1, h1⟩
  have HB1 : Hid _ := hB1
  rcases h1 with ⟨p1, rfl⟩ | ⟨p1, p2, rfl⟩ | ⟨p1, p2, p3, rfl⟩ | ⟨n, s, L, a, his, rfl, hg⟩
  · have H1 : Hid _ := p1
    clear hB1 p1
    go_wp2_with fail
    refine (Calls.mono (HR.out _) ?_)
    rintro e w2 ⟨hB2, ⟨_, rfl⟩ | ⟨k1, _⟩ | ⟨k1, _⟩ | ⟨_, _, _, _, k1, _⟩⟩
    · have HB2 : Hid _ := chain HB1.out hB2
      clear hB2
      go_wp2_with fail
      refine (Calls.mono (HNm _ _).out ?_)
      rintro e w3 ⟨rfl, hw⟩
      rw [hw]; clear hw w3
      go_wp2_with fail
      refine (Calls.mono (HNm _ _).out ?_)
      rintro e w3 ⟨rfl, hw⟩
      rw [hw]; clear hw w3
      go_wp2
      go_ret2
      exact ⟨HB2.out, .inl ⟨fun n s L h => H1.out (Is.ok h).1, rfl⟩⟩
    · exact absurd k1 H1.out
    · exact absurd k1 H1.out
    · exact absurd (Is.ok k1).1 H1.out
  · have H1 : Hid _ := p1
    have H2 : Hid _ := p2
    clear hB1 p1 p2
    go_wp2_with fail
    refine (Calls.mono (HR.out _) ?_)
    rintro e w2 ⟨hB2, ⟨k1, _⟩ | ⟨_, _, rfl⟩ | ⟨_, k1, _⟩ | ⟨_, _, _, _, k1, _⟩⟩
    · exact absurd H1.out k1
    · have HB2 : Hid _ := chain HB1.out hB2
      clear hB2
      go_wp2_with fail
      refine (Calls.mono (HNm _ _).out ?_)
      rintro e w3 ⟨rfl, hw⟩
      rw [hw]; clear hw w3
      go_wp2_with fail
      refine (Calls.mono (HNm _ _).out ?_)
      rintro e w3 ⟨rfl, hw⟩
      rw [hw]; clear hw w3
      go_wp2
      go_ret2
      exact ⟨HB2.out, .inl ⟨fun n s L h => by obtain ⟨p, hp, hq⟩ := H2.out; exact hq ((Is.ok h).2 p hp), rfl⟩⟩
    · obtain ⟨p, hp, hq⟩ := H2.out; exact absurd (k1 p hp) hq
    · obtain ⟨p, hp, hq⟩ := H2.out; exact absurd ((Is.ok k1).2 p hp) hq
  · have H1 : Hid _ := p1
    have H2 : Hid _ := p2
    have H3 : Hid _ := p3
    clear hB1 p1 p2 p3
    go_wp2_with fail
    refine (Calls.mono (HR.out _) ?_)
    rintro e w2 ⟨hB2, ⟨k1, _⟩ | ⟨_, ⟨p, hp, hq⟩, _⟩ | ⟨_, _, _, rfl⟩ | ⟨_, _, _, _, k1, _⟩⟩
    · exact absurd H1.out k1
    · exact absurd (H2.out p hp) hq
    · have HB2 : Hid _ := chain HB1.out hB2
      clear hB2
      go_wp2_with fail
      refine (Calls.mono (HNm _ _).out ?_)
      rintro e w3 ⟨rfl, hw⟩
      rw [hw]; clear hw w3
      go_wp2_with fail
      refine (Calls.mono (HNm _ _).out ?_)
      rintro e w3 ⟨rfl, hw⟩
      rw [hw]; clear hw w3
      go_wp2
      go_ret2
      exact ⟨HB2.out, .inl ⟨H3.out, rfl⟩⟩
    · exact absurd k1 (H3.out _ _ _)
  · have H1 : Hid _ := his
    have HG : Hid _ := hg
    clear hB1 his hg
    go_wp2_with fail
    refine (Calls.mono (HR.out _) ?_)
    rintro e w2 ⟨hB2, ⟨k1, _⟩ | ⟨_, ⟨p, hp, hq⟩, _⟩ | ⟨_, _, k1, _⟩ | ⟨n', s', L', b, k1, rfl, hg2⟩⟩
    · exact absurd (Is.ok H1.out).1 k1
    · exact absurd ((Is.ok H1.out).2 p hp) hq
    · exact absurd H1.out (k1 _ _ _)
    · obtain ⟨rfl, rfl, rfl⟩ := Is.one H1.out k1
      have HB2 : Hid _ := chain HB1.out hB2
      have HG1 : Hid (GraphAt w2 a n s L) := GraphAt.below HG.out hB2
      have HG2 : Hid _ := hg2
      clear hB2 hg2 k1
      have hB3 : Below w2.heap.size w2 (w2.alloc (.cells #[.pointer (some ⟨a, 0, none⟩), .pointer (some ⟨b, 0, none⟩)] 50)) := below1 _ _
      have HP : Hid (PairAt (w2.alloc (.cells #[.pointer (some ⟨a, 0, none⟩), .pointer (some ⟨b, 0, none⟩)] 50)) w2.heap.size n s L) := (⟨a, b, by simp, by simp, GraphAt.below HG1.out hB3, RG.below HG2.out hB3⟩ : PairAt _ _ _ _ _)
      have HB4 : Hid _ := chain HB2.out hB3
      clear hB3
      go_wp2_with fail
      refine (Calls.mono (HNm _ _).out ?_)
      rintro e w3 ⟨rfl, hw⟩
      rw [hw]; clear hw w3
      go_wp2_with fail
      refine (Calls.mono (HNm _ _).out ?_)
      rintro e w3 ⟨rfl, hw⟩
      rw [hw]; clear hw w3
      go_wp2
      go_ret2
      exact ⟨HB4.out, .inr ⟨n, s, L, _, H1.out, rfl, HP.out⟩⟩
end Go.Proofs.YtphjbbbnbmafnaaGreatDoor.G

/-
  What Agreed counts, without the program: the edges out of all nodes, into all nodes, within spans.
  trelliskeep.Agreed: what goes out of all nodes is what comes into all; each edge is there; Count counts them: true, for all raw numbers; nothing that was there is written.
-/
import Derived.Test.YtphjbbbnbmafnaaGreatPIo
import Derived.Test.YtphjbbbnbmafnaaGreatPHs
import Derived.Test.YtphjbbbnbmafnaaGreatKAm
import Derived.Test.YtphjbbbnbmafnaaGreatKMade
import Derived.Test.YtphjbbbnbmafnaaGreatKnown
import Derived.Test.YtphjbbbnbmafnaaGreatPOpen
namespace Go.Proofs.YtphjbbbnbmafnaaGreat.G
theorem len_or (L : List E3) (f g h : E3 → Bool) (h1 : ∀ e ∈ L, h e = (f e || g e)) (h2 : ∀ e ∈ L, ¬ (f e = true ∧ g e = true)) : (L.filter h).length = (L.filter f).length + (L.filter g).length := by
  induction L with
  | nil => rfl
  | cons a L ih =>
    have := ih (fun e he => h1 e (by simp [he])) (fun e he => h2 e (by simp [he]))
    simp only [List.filter_cons]
    rw [h1 a (by simp)]
    have := h2 a (by simp)
    cases hf : f a <;> cases hg : g a <;> simp_all <;> omega
theorem from_step (L : List E3) (u : Nat) : (L.filter (fromB 0 (u + 1 : Nat))).length = (L.filter (fromB 0 u)).length + (L.filter (fromB (u : Int) ((u : Int) + 1))).length := by
  refine len_or L _ _ _ (fun e _ => ?_) (fun e _ => ?_)
  · unfold fromB
    rw [Bool.eq_iff_iff]
    simp only [Bool.or_eq_true, decide_eq_true_eq]
    omega
  · unfold fromB
    simp only [decide_eq_true_eq]
    omega
theorem to_step (L : List E3) (u : Nat) : (L.filter (toB 0 (u + 1 : Nat))).length = (L.filter (toB 0 u)).length + (L.filter (toB (u : Int) ((u : Int) + 1))).length := by
  refine len_or L _ _ _ (fun e _ => ?_) (fun e _ => ?_)
  · unfold toB
    rw [Bool.eq_iff_iff]
    simp only [Bool.or_eq_true, decide_eq_true_eq]
    omega
  · unfold toB
    simp only [decide_eq_true_eq]
    omega
theorem from_none (L : List E3) : L.filter (fromB 0 (0 : Nat)) = [] := List.filter_eq_nil_iff.2 fun e _ => by unfold fromB; simp
theorem to_none (L : List E3) : L.filter (toB 0 (0 : Nat)) = [] := List.filter_eq_nil_iff.2 fun e _ => by unfold toB; simp
theorem from_all (L : List E3) (n : Nat) (h : ∀ e ∈ L, 0 ≤ e.1 ∧ e.1 < (n : Int)) : L.filter (fromB 0 n) = L := List.filter_eq_self.2 fun e he => by unfold fromB; simp [h e he]
theorem to_all (L : List E3) (n : Nat) (h : ∀ e ∈ L, 0 ≤ e.2.2 ∧ e.2.2 < (n : Int)) : L.filter (toB 0 n) = L := List.filter_eq_self.2 fun e he => by unfold toB; simp [h e he]
/-- what the last loop counts -/
def asked (u c v : Int) (e : E3) : Bool := decide (e.1 ≥ u) && decide (e.2.1 < c) && decide (e.2.2 ≥ v)
theorem asked_in (L : List E3) (n : Nat) (u c v : Int) (h : ∀ e ∈ L, (0 ≤ e.1 ∧ e.1 < (n : Int)) ∧ 0 ≤ e.2.1 ∧ (0 ≤ e.2.2 ∧ e.2.2 < (n : Int))) : L.filter (asked u c v) = L.filter (inB u n 0 c v n) := by
  refine List.filter_congr fun e he => ?_
  have := h e he
  unfold asked inB
  rw [Bool.eq_iff_iff]
  simp only [Bool.and_eq_true, decide_eq_true_eq]
  omega
theorem take_len (L : List E3) (f : E3 → Bool) (k : Nat) (e : E3) (h : L[k]? = some e) : ((L.take (k + 1)).filter f).length = ((L.take k).filter f).length + (if f e then 1 else 0) := by
  rw [List.take_add_one, h, Option.toList_some, List.filter_append, List.length_append]
  congr 1
  cases hf : f e <;> simp [hf]
end Go.Proofs.YtphjbbbnbmafnaaGreat.G

namespace Go.Proofs.YtphjbbbnbmafnaaGreat.G
open Go.RowKit

attribute [local go_sem ↓] Go.wp_at_zero Go.wp_at_succ
theorem raw_below {w w' : World} {a0 : Option Addr} {len : Nat} {R : Nat → Int} (h : RawAt w a0 len R) (hB : Below w.heap.size w w') : RawAt w' a0 len R := by
  refine ⟨?_, h.2⟩
  rcases h.1 with h1 | ⟨b, off, ha, hc⟩
  · exact .inl h1
  · exact .inr ⟨b, off, ha, fun i hi => cell_kept hB _ _ (hc i hi)⟩
set_option maxHeartbeats 16000000 in
set_option maxRecDepth 100000 in
theorem agreed_any (a0 : Option Addr) (len cap : Nat) (R : Nat → Int) (p1 p2 p3 : Int) (w : World) (hr : RawAt w a0 len R) (h1 : -9223372036854775808 ≤ p1 ∧ p1 ≤ 9223372036854775807) (h2 : -9223372036854775808 ≤ p2 ∧ p2 ≤ 9223372036854775807) (h3 : -9223372036854775808 ≤ p3 ∧ p3 ≤ 9223372036854775807) :
    Calls Tryz.prog 6 #[.slice a0 len cap, .int .i64 p1, .int .i64 p2, .int .i64 p3] w fun e w' => e = .returned (.bool true) ∧ Below w.heap.size w w' := by
  have HK : Hid (Calls Tryz.prog 10 _ w _) := known_any w
  have HR : Hid _ := hr
  have HP1 : Hid (∀ W, Calls Tryz.prog 20 #[.int .i64 p1, .int .i64 51] W _) := fun W => pick_any p1 51 h1 (by omega) (by omega) 51 rfl W
  have HP2 : Hid (∀ W, Calls Tryz.prog 20 #[.int .i64 p2, .int .i64 5] W _) := fun W => pick_any p2 5 h2 (by omega) (by omega) 5 rfl W
  have HP3 : Hid (∀ W, Calls Tryz.prog 20 #[.int .i64 p3, .int .i64 51] W _) := fun W => pick_any p3 51 h3 (by omega) (by omega) 51 rfl W
  clear hr h1 h2 h3
  go_enter Tryz.func6, Tryz.ntmps6
  go_wp2_with fail
  refine (Calls.mono HK.out ?_)
  rintro e w1 ⟨rfl, hB1⟩
  have HB1 : Hid _ := hB1
  have HM : Hid (Calls Tryz.prog 17 _ w1 _) := made_any a0 len cap R w1 (raw_below HR.out hB1)
  clear hB1 HK
  go_wp2_with fail
  refine (Calls.mono HM.out ?_)
  rintro e w2 ⟨v, l, rfl, hE, hl5, hok, hB2⟩
  have HB2 : Hid _ := chain HB1.out hB2
  have hok2 : okG 50 4 l := ⟨⟨by omega, by omega, by omega, by omega, by omega⟩, hok⟩
  have HBd : Hid (Calls Tryz.prog 11 _ w2 _) := build_any 50 4 l v w2 hE
  rw [show errOf 50 4 l = 0 by unfold errOf; rw [if_pos hok2]] at HBd
  have his := imgOf_is (n := 50) (s := 4) hok2
  obtain ⟨a2, cap2, rfl, _⟩ := hE
  rw [show ((50 : Nat) : Int) = 50 from rfl, show ((4 : Nat) : Int) = 4 from rfl] at his
  generalize imgOf 50 4 l = img at HBd his
  have hnp := his.size
  have hsz : img.size ≤ 9223372036854775807 := by have := hnp.2.1; have := hnp.2.2.1; omega
  have HO : Hid (∀ W, Calls Tryz.prog 12 #[.string img] W (OpenPost GraphAt img W)) := fun W => open_any img W hsz
  have HIs : Hid _ := his
  clear hok hok2 hnp his hB2 HM hl5
  go_wp2_with fail
  refine (Calls.mono HBd.out ?_)
  rintro e w3 ⟨rfl, hB3⟩
  have HB3 : Hid _ := chain HB2.out hB3
  clear hB3 HBd
  go_wp2_with fail
  refine (Calls.mono (HO.out w3) ?_)
  rintro e w4 ⟨hB4, ⟨h1, _⟩ | ⟨_, ⟨p, hp1, hp2⟩, _⟩ | ⟨_, _, h1, _⟩ | ⟨n', s', L, b, h1, rfl, hg⟩⟩
  · exact absurd (Is.size HIs.out).1 h1
  · refine absurd ((Is.size HIs.out).2.2.2.2 p ?_) hp2
    have := (Is.size HIs.out).2.1
    omega
  · exact absurd HIs.out (h1 _ _ _)
  obtain ⟨rfl, rfl, rfl⟩ := Is.one h1 HIs.out
  have HG : Hid _ := hg
  have HB4 : Hid _ := chain HB3.out hB4
  have hbd := hg.bd
  have HE : Hid (Calls Tryz.prog 13 _ w4 _) := gedges_any hg
  obtain ⟨L, hL⟩ : ∃ L, L = Gm.ordE l := ⟨_, rfl⟩
  rw [← hL] at HG hbd HE
  have HEd : Hid (∀ e ∈ L, (0 ≤ e.1 ∧ e.1 < ((50 : Nat) : Int)) ∧ 0 ≤ e.2.1 ∧ (0 ≤ e.2.2 ∧ e.2.2 < ((50 : Nat) : Int))) := (fun e he => by
    have h := HG.out.ok.2 e he
    unfold Gm.edgeOk at h
    omega : ∀ e ∈ L, _)
  have hL2 : L.length ≤ 20000 := hbd.2.2.2.2
  clear hB4 hg h1 HIs hL HO hbd
  go_wp2_with fail
  refine (Calls.mono HE.out ?_)
  rintro e w5 ⟨v5, rfl, hO5⟩
  have hE5 := own_edges hO5.1
  have HE5 : Hid _ := hE5
  obtain ⟨a5, cap5, rfl, hed5⟩ := hE5
  have HEd5 : Hid _ := hed5
  have HB5 : Hid _ := chain HB4.out hO5.2
  have HG5 : Hid _ := HG.out.below hO5.2
  clear hO5 hed5 HE
  go_wp2
  go_loopw [15, 16, 17] (fun si so su wr => ∃ u : Nat, u ≤ 50 ∧ si = .int .i64 ((L.filter (toB 0 u)).length : Int) ∧ so = .int .i64 ((L.filter (fromB 0 u)).length : Int) ∧ su = .int .i64 (u : Int) ∧ Hid (Below w5.heap.size w5 wr)) (fun _ _ su _ => 50 - (intOf su).toNat)
  case atStart => exact ⟨0, Nat.zero_le _, by rw [to_none]; rfl, by rw [from_none]; rfl, rfl, Below.refl _ _⟩
  case round =>
    obtain ⟨u, hu, rfl, rfl, rfl, HI⟩ := hrel
    have hn1 : (L.filter (toB 0 u)).length ≤ 20000 := Nat.le_trans (List.length_filter_le _ _) hL2
    have hn2 : (L.filter (fromB 0 u)).length ≤ 20000 := Nat.le_trans (List.length_filter_le _ _) hL2
    by_cases hlt : u < 50
    · have huI : (u : Int) < 50 := by omega
      have HSo : Hid _ := from_step L u
      have HSi : Hid _ := to_step L u
      have HOu : Hid (Calls Tryz.prog 18 _ wr _) := gout_any (HG5.out.below HI.out) (u : Int) (by omega) (by omega)
      have HIn : Hid (∀ W, Below w5.heap.size w5 W → Calls Tryz.prog 19 #[.pointer (some ⟨b, 0, none⟩), .int .i64 (u : Int)] W _) := fun W h => gin_any (HG5.out.below h) (u : Int) (by omega) (by omega)
      generalize (L.filter (toB 0 u)).length = ni at hn1 HSi
      generalize (L.filter (fromB 0 u)).length = no at hn2 HSo
      obtain ⟨W0, rfl⟩ : ∃ W0, W0 = wr := ⟨wr, rfl⟩
      go_wp2_with fail
      refine (Calls.mono HOu.out ?_)
      rintro e w6 (⟨hno, _⟩ | ⟨_, v6, rfl, hO6⟩)
      · exact absurd ⟨by omega, by omega⟩ hno
      have hE6 := own_edges hO6.1
      have HB6 : Hid _ := chain HI.out hO6.2
      obtain ⟨a6, cap6, rfl, hed6⟩ := hE6
      have HE6 : Hid _ := hed6
      clear hO6 hed6 HOu
      go_wp2_with fail
      refine (Calls.mono (HIn.out w6 HB6.out) ?_)
      rintro e w7 (⟨hno, _⟩ | ⟨_, v7, rfl, hO7⟩)
      · exact absurd ⟨by omega, by omega⟩ hno
      have hE7 := own_edges hO7.1
      have HB67 : Hid _ := hO7.2
      have HB7 : Hid _ := chain HB6.out hO7.2
      obtain ⟨a7, cap7, rfl, hed7⟩ := hE7
      have HE7 : Hid _ := hed7
      clear hO7 hed7 HIn
      obtain ⟨A, hA⟩ : ∃ A, A = L.filter (fromB (u : Int) ((u : Int) + 1)) := ⟨_, rfl⟩
      obtain ⟨B, hB⟩ : ∃ B, B = L.filter (toB (u : Int) ((u : Int) + 1)) := ⟨_, rfl⟩
      rw [← hA] at HE6 HSo
      rw [← hB] at HE7 HSi
      rw [← hA, ← hB]
      have hAl : A.length ≤ 20000 := by rw [hA]; exact Nat.le_trans (List.length_filter_le _ _) hL2
      have hBl : B.length ≤ 20000 := by rw [hB]; exact Nat.le_trans (List.length_filter_le _ _) hL2
      have HA : Hid (∀ e ∈ A, e ∈ L ∧ e.1 = (u : Int)) := (fun e he => by
        rw [hA, List.mem_filter] at he
        refine ⟨he.1, ?_⟩
        have := he.2
        unfold fromB at this
        simp only [decide_eq_true_eq] at this
        omega : ∀ e ∈ A, _)
      have HBm : Hid (∀ e ∈ B, e ∈ L ∧ e.2.2 = (u : Int)) := (fun e he => by
        rw [hB, List.mem_filter] at he
        refine ⟨he.1, ?_⟩
        have := he.2
        unfold toB at this
        simp only [decide_eq_true_eq] at this
        omega : ∀ e ∈ B, _)
      clear hA hB
      go_wp2
      go_loopw [22] (fun sk wr => ∃ k : Nat, k ≤ A.length ∧ sk = .int .i64 (k : Int) ∧ Hid (Below w7.heap.size w7 wr)) (fun sk _ => A.length - (intOf sk).toNat)
      case atStart => exact ⟨0, Nat.zero_le _, rfl, Below.refl _ _⟩
      case round =>
        obtain ⟨k, hk, rfl, HI2⟩ := hrel
        by_cases hlt2 : k < A.length
        · obtain ⟨x, hx⟩ : ∃ x, A[k]? = some x := ⟨_, List.getElem?_eq_getElem hlt2⟩
          obtain ⟨g, off, rfl, c0, c1, c2⟩ := HE6.out k x hx
          have hB8 := chain HB67.out HI2.out
          have d0 := cell_kept hB8 _ _ c0
          have d1 := cell_kept hB8 _ _ c1
          have d2 := cell_kept hB8 _ _ c2
          have hkI : (k : Int) < (A.length : Int) := by omega
          have hm := HA.out x (List.mem_of_getElem? hx)
          have hAm := among_any (.slice a5 L.length cap5) L x wr (EdgesAt.below HE5.out (chain HB7.out HI2.out)) (by omega)
          rw [decide_eq_true hm.1] at hAm
          have HAm : Hid (Calls Tryz.prog 14 _ wr _) := hAm
          obtain ⟨x1, x2, x3⟩ := x
          obtain rfl : x1 = (u : Int) := hm.2
          simp only at d0 d1 d2 HAm
          clear c0 c1 c2 hx hm hAm hB8
          go_wp2_with fail
          refine (Calls.mono HAm.out ?_)
          rintro e w8 ⟨rfl, hB8⟩
          have e0 := cell_kept hB8 _ _ d0
          have e1 := cell_kept hB8 _ _ d1
          have e2 := cell_kept hB8 _ _ d2
          have HB8 : Hid _ := chain HI2.out hB8
          clear hB8 d0 d1 d2
          go_wp2
          go_roundw
          case rel => exact ⟨k + 1, by omega, by go_num, HB8.out⟩
          case measure => simp [intOf]; omega
        · obtain rfl : k = A.length := by omega
          have HBa : Hid _ := HI2.out
          clear HI2
          obtain ⟨W8, rfl⟩ : ∃ W8, W8 = wr := ⟨wr, rfl⟩
          go_wp2
          go_loopw [24] (fun sk wr => ∃ k : Nat, k ≤ B.length ∧ sk = .int .i64 (k : Int) ∧ Hid (Below w7.heap.size w7 wr)) (fun sk _ => B.length - (intOf sk).toNat)
          case atStart => exact ⟨0, Nat.zero_le _, rfl, HBa.out⟩
          case round =>
            obtain ⟨k, hk, rfl, HI2⟩ := hrel
            by_cases hlt2 : k < B.length
            · obtain ⟨x, hx⟩ : ∃ x, B[k]? = some x := ⟨_, List.getElem?_eq_getElem hlt2⟩
              obtain ⟨g, off, rfl, c0, c1, c2⟩ := HE7.out k x hx
              have d0 := cell_kept HI2.out _ _ c0
              have d1 := cell_kept HI2.out _ _ c1
              have d2 := cell_kept HI2.out _ _ c2
              have hkI : (k : Int) < (B.length : Int) := by omega
              have hm := HBm.out x (List.mem_of_getElem? hx)
              have hAm := among_any (.slice a5 L.length cap5) L x wr (EdgesAt.below HE5.out (chain HB7.out HI2.out)) (by omega)
              rw [decide_eq_true hm.1] at hAm
              have HAm : Hid (Calls Tryz.prog 14 _ wr _) := hAm
              obtain ⟨x1, x2, x3⟩ := x
              obtain rfl : x3 = (u : Int) := hm.2
              simp only at d0 d1 d2 HAm
              clear c0 c1 c2 hx hm hAm
              go_wp2_with fail
              refine (Calls.mono HAm.out ?_)
              rintro e w8 ⟨rfl, hB8⟩
              have e0 := cell_kept hB8 _ _ d0
              have e1 := cell_kept hB8 _ _ d1
              have e2 := cell_kept hB8 _ _ d2
              have HB8 : Hid _ := chain HI2.out hB8
              clear hB8 d0 d1 d2
              go_wp2
              go_roundw
              case rel => exact ⟨k + 1, by omega, by go_num, HB8.out⟩
              case measure => simp [intOf]; omega
            · obtain rfl : k = B.length := by omega
              have HBb : Hid _ := chain HB7.out HI2.out
              clear HI2
              go_wp2
              go_roundw
              case rel => exact ⟨u + 1, by omega, by rw [HSi.out]; go_num, by rw [HSo.out]; go_num, by go_num, HBb.out⟩
              case measure => simp [intOf]; omega
    · obtain rfl : u = 50 := by omega
      have HF : Hid ((L.filter (toB 0 (50 : Nat))).length = L.length ∧ (L.filter (fromB 0 (50 : Nat))).length = L.length) := ⟨by rw [to_all L 50 fun e he => (HEd.out e he).2.2], by rw [from_all L 50 fun e he => (HEd.out e he).1]⟩
      have hq1 := HF.out.1
      have hq2 := HF.out.2
      rw [hq1, hq2]
      clear hq1 hq2 hn1 hn2
      have HBa : Hid _ := HI.out
      clear HI
      obtain ⟨W0, rfl⟩ : ∃ W0, W0 = wr := ⟨wr, rfl⟩
      rw [show (((50 : Nat) : Int)) = 50 from rfl]
      go_wp2_with fail
      refine (Calls.mono (HP1.out _) ?_)
      rintro e w6 ⟨u, rfl, hu1, hw⟩
      rw [hw]
      clear hw w6
      go_wp2_with fail
      refine (Calls.mono (HP2.out _) ?_)
      rintro e w6 ⟨c, rfl, hc1, hw⟩
      rw [hw]
      clear hw w6
      go_wp2_with fail
      refine (Calls.mono (HP3.out _) ?_)
      rintro e w6 ⟨v, rfl, hv1, hw⟩
      rw [hw]
      clear hw w6
      have HC : Hid (Calls Tryz.prog 21 #[.pointer (some ⟨b, 0, none⟩), .agg #[.int .i64 (u : Int), .int .i64 50], .agg #[.int .i64 0, .int .i64 (c : Int)], .agg #[.int .i64 (v : Int), .int .i64 50]] W0 _) := gcountq_yes (HG5.out.below HBa.out) u 50 0 c v 50 ⟨by omega, by omega⟩ ⟨by omega, by omega⟩ ⟨by omega, by omega⟩
      have HAs : Hid ((L.filter (inB (u : Int) (50 : Nat) (0 : Nat) c v (50 : Nat))).length = (L.filter (asked u c v)).length) := (by rw [asked_in L 50 u c v HEd.out]; rfl : _ = _)
      rw [HAs.out] at HC
      have hnA : (L.filter (asked u c v)).length ≤ 20000 := Nat.le_trans (List.length_filter_le _ _) hL2
      go_wp2_with fail
      refine (Calls.mono HC.out ?_)
      rintro e w6 ⟨rfl, hB6⟩
      have HB6 : Hid _ := chain HBa.out hB6
      clear hB6 HC
      obtain ⟨NA, hNA⟩ : ∃ NA, NA = (L.filter (asked u c v)).length := ⟨_, rfl⟩
      rw [← hNA] at hnA
      rw [← hNA]
      have HNA : Hid _ := hNA
      clear hNA
      go_wp2
      go_loopw [31, 32] (fun sc si wr => ∃ i : Nat, i ≤ L.length ∧ sc = .int .i64 (((L.take i).filter (asked u c v)).length : Int) ∧ si = .int .i64 (i : Int) ∧ Hid (Below w6.heap.size w6 wr)) (fun _ si _ => L.length - (intOf si).toNat)
      case atStart => exact ⟨0, Nat.zero_le _, rfl, rfl, Below.refl _ _⟩
      case round =>
        obtain ⟨i, hi, rfl, rfl, HI2⟩ := hrel
        have hnI : ((L.take i).filter (asked u c v)).length ≤ 20000 := Nat.le_trans (List.length_filter_le _ _) (by rw [List.length_take]; omega)
        by_cases hlt : i < L.length
        · obtain ⟨x, hx⟩ : ∃ x, L[i]? = some x := ⟨_, List.getElem?_eq_getElem hlt⟩
          obtain ⟨g, off, rfl, c0, c1, c2⟩ := HEd5.out i x hx
          have hB8 := chain HB6.out HI2.out
          have d0 := cell_kept hB8 _ _ c0
          have d1 := cell_kept hB8 _ _ c1
          have d2 := cell_kept hB8 _ _ c2
          have hiI : (i : Int) < (L.length : Int) := by omega
          have HHa : Hid (Calls Tryz.prog 22 _ wr _) := ghas_mem (HG5.out.below hB8) x (List.mem_of_getElem? hx)
          have HTk : Hid _ := take_len L (asked u c v) i x hx
          obtain ⟨x1, x2, x3⟩ := x
          simp only at d0 d1 d2 HHa
          generalize ((L.take i).filter (asked u c v)).length = N at hnI HTk
          clear c0 c1 c2 hx hB8
          go_wp2_with fail
          refine (Calls.mono HHa.out ?_)
          rintro e w8 ⟨rfl, hB8⟩
          have e0 := cell_kept hB8 _ _ d0
          have e1 := cell_kept hB8 _ _ d1
          have e2 := cell_kept hB8 _ _ d2
          have HB8 : Hid _ := chain HI2.out hB8
          clear hB8 d0 d1 d2
          by_cases g1 : x1 ≥ (u : Int)
          · by_cases g2 : x2 < (c : Int)
            · by_cases g3 : x3 ≥ (v : Int)
              · have HT2 : Hid (((L.take (i + 1)).filter (asked u c v)).length = N + 1) := (by rw [HTk.out]; unfold asked; simp [g1, g2, g3] : _ = _)
                go_wp2
                go_roundw
                case rel => exact ⟨i + 1, by omega, by rw [HT2.out]; go_num, by go_num, HB8.out⟩
                case measure => simp [intOf]; omega
              · have HT2 : Hid (((L.take (i + 1)).filter (asked u c v)).length = N) := (by rw [HTk.out]; unfold asked; simp [g1, g2, g3] : _ = _)
                go_wp2
                go_roundw
                case rel => exact ⟨i + 1, by omega, by rw [HT2.out], by go_num, HB8.out⟩
                case measure => simp [intOf]; omega
            · have HT2 : Hid (((L.take (i + 1)).filter (asked u c v)).length = N) := (by rw [HTk.out]; unfold asked; simp [g1, g2] : _ = _)
              go_wp2
              go_roundw
              case rel => exact ⟨i + 1, by omega, by rw [HT2.out], by go_num, HB8.out⟩
              case measure => simp [intOf]; omega
          · have HT2 : Hid (((L.take (i + 1)).filter (asked u c v)).length = N) := (by rw [HTk.out]; unfold asked; simp [g1] : _ = _)
            go_wp2
            go_roundw
            case rel => exact ⟨i + 1, by omega, by rw [HT2.out], by go_num, HB8.out⟩
            case measure => simp [intOf]; omega
        · obtain rfl : i = L.length := by omega
          rw [List.take_length, ← HNA.out]
          have HB : Hid _ := chain HB5.out (chain HB6.out HI2.out)
          clear HI2 hnI
          go_wp2
          go_ret
          exact ⟨rfl, HB.out⟩
end Go.Proofs.YtphjbbbnbmafnaaGreat.G

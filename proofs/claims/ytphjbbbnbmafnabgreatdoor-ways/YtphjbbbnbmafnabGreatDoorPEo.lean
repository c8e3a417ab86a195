/-
  Where the edges of a graph that lies in memory are: sourceOf, edgesAhead, sortedPlace, edgeAt: what the edge at a place is; nothing that was there is written.
  The questions of a graph that lies in memory that go by where edges are from: span.Ends, placesFrom, edgesOf, Edges, Out, Size: what they answer; new lists; nothing that was there is written.
  The program's edgesOf over places that a method tells, and Edges, Out, Size by it: the edges, a new list, or ErrRange; nothing that was there is written.
-/
import Derived.Test.YtphjbbbnbmafnabGreatDoorNewG
import Derived.Test.YtphjbbbnbmafnabGreatDoorNums
import Derived.Deep.RegionHeld3
import Derived.Deep.DrawnRows
namespace Go.Proofs.YtphjbbbnbmafnabGreatDoor.G
open Go.RowKit

attribute [local go_sem ↓] Go.wp_at_zero Go.wp_at_succ
theorem GraphAt.lab0 {w : World} {b n s : Nat} {L : List E3} (h : GraphAt w b n s L) : Lab0 L := fun e he => ⟨(h.ok.2 e he).2.2.1, (h.ok.2 e he).2.2.2.2.1⟩
theorem GraphAt.bd {w : World} {b n s : Nat} {L : List E3} (h : GraphAt w b n s L) : 1 ≤ n ∧ n ≤ 10000 ∧ 1 ≤ s ∧ s ≤ 26 ∧ L.length ≤ 20000 := by
  obtain ⟨⟨g1, g2, g3, g4, g5⟩, _⟩ := h.ok
  omega
theorem below_drewN' {w w1 : World} {q : Nat} (h : Below (w.drewN q).heap.size (w.drewN q) w1) : Below w.heap.size w w1 := (below_drewN (Below.refl _ _) q).trans h
/-! ### where an edge is from -/
set_option maxHeartbeats 1000000 in
theorem srcof_any {w : World} {b n s : Nat} {L : List E3} (h : GraphAt w b n s L) (p : Nat) (e : E3) (he : L[p]? = some e) :
    Calls Tryz.prog 113 #[.pointer (some ⟨b, 0, none⟩), .int .i64 (p : Int)] w fun r w' => r = .returned (.int .i64 e.1) ∧ Below w.heap.size w w' := by
  obtain ⟨bb, bw, ba, W, c3, hb⟩ := h.src
  have hall : ∀ e ∈ L, 0 ≤ e.1 ∧ e.1 < (n : Int) := fun e he => ⟨(h.ok.2 e he).1, (h.ok.2 e he).2.1⟩
  have hbd := h.bd
  have hpl := (List.getElem?_eq_some_iff.1 he).1
  have hone := srcs_one L n p e (Gm.strict_rising h.st) hall he
  have hq := (srcs_all L n hall).1
  have HS : Hid (Calls Tryz.prog 137 _ w _) := select_yes hb p (by rw [hq]; exact hpl)
  have he2 := hall e (List.mem_of_getElem? he)
  have HO : Hid _ := hone
  clear hone hq hall hb h he
  go_enter Tryz.func113, Tryz.ntmps113
  go_wp2_with fail
  refine (Calls.mono HS.out ?_)
  rintro r w1 ⟨q, rfl, hq1, hq2, hq3, hB1⟩
  have hqe : q = p + e.1.toNat := cnt_uniq (bf (srcs L n)) hq2 HO.out.1 (by rw [hq3, HO.out.2])
  have hqi : (q : Int) - (p : Int) = e.1 := by omega
  have hq0 : q ≤ 40000 := by omega
  have HB1 : Hid _ := hB1
  have HQ : Hid _ := hqi
  clear hq1 hq2 hq3 hB1 hqe hqi
  go_wp2
  go_ret
  exact ⟨ret1 (by rw [HQ.out]; rfl), HB1.out⟩
/-! ### how many edges are from nodes ahead -/
set_option maxHeartbeats 1000000 in
theorem eahead1_any {w : World} {b n s : Nat} {L : List E3} (h : GraphAt w b n s L) (B C : Nat) (u : Int) (hB : w.cell? ⟨B, 0, none⟩ = some (.pointer (some ⟨b, 0, none⟩))) (hC : w.cell? ⟨C, 0, none⟩ = some (.int .i64 u)) (p : Nat) (e : E3) (he : L[p]? = some e) :
    Calls Tryz.prog 115 #[.int .i64 (p : Int), .pointer (some ⟨B, 0, none⟩), .pointer (some ⟨C, 0, none⟩)] w fun r w' => r = .returned (.bool (decide (u ≤ e.1))) ∧ Below w.heap.size w w' := by
  have HG : Hid _ := h
  have HS : Hid (∀ W, GraphAt W b n s L → Calls Tryz.prog 113 #[.pointer (some ⟨b, 0, none⟩), .int .i64 (p : Int)] W _) := fun W h => srcof_any h p e he
  clear h he
  go_enter Tryz.func115, Tryz.ntmps115
  go_wp2_with fail
  go_region_held3 (fun w' => w'.cell? ⟨B, 0, none⟩ = some (.pointer (some ⟨b, 0, none⟩)) ∧ w'.cell? ⟨C, 0, none⟩ = some (.int .i64 u)) (go_keep)
    (first
      | (go_at_call 113; refine (HS.out _ ?_).mono ?_; exact (HG.out.kept (fun _ _ h => h)); rintro r w1 ⟨rfl, hB1⟩; have q1 := cell_kept hB1 _ _ hB; have q2 := cell_kept hB1 _ _ hC))
  go_wp2
  go_ret
  exact ⟨rfl, below_drewN' hB1⟩
set_option maxHeartbeats 1000000 in
theorem search2_any (n : Nat) (p : Nat → Bool) (B C : Nat) (w : World) (hsz : n < 4611686018427387904)
    (hf : ∀ (W : World) (i : Nat), Below w.heap.size w W → i < n → Calls Tryz.prog 115 #[.int .i64 (i : Int), .pointer (some ⟨B, 0, none⟩), .pointer (some ⟨C, 0, none⟩)] W fun e w' => e = .returned (.bool (p i)) ∧ Below W.heap.size W w')
    (hmono : ∀ a b, a ≤ b → b < n → p a = true → p b = true) :
    Calls Tryz.prog 114 #[.int .i64 (n : Int), .func (.func 115) #[] #[.pointer (some ⟨B, 0, none⟩), .pointer (some ⟨C, 0, none⟩)]] w fun e w' => ∃ r : Nat, e = .returned (.int .i64 (r : Int)) ∧ Below w.heap.size w w' ∧ r ≤ n ∧ (∀ t, t < r → p t = false) ∧ (∀ t, r ≤ t → t < n → p t = true) := by
  have HF : Hid _ := hf
  have M : Hid _ := hmono
  clear hf hmono
  go_enter Tryz.func114, Tryz.ntmps114
  go_wp2
  go_loopw [5, 6] (fun s5 s6 wr => ∃ lo hi : Nat, s5 = .int .i64 lo ∧ s6 = .int .i64 hi ∧ lo ≤ hi ∧ hi ≤ n ∧ Hid (Below w.heap.size w wr ∧ (∀ t, t < lo → p t = false) ∧ (∀ t, hi ≤ t → t < n → p t = true))) (fun s5 s6 _ => (intOf s6 - intOf s5).toNat)
  case atStart => exact ⟨0, n, rfl, rfl, Nat.zero_le _, Nat.le_refl _, Below.refl _ _, (⟨fun t ht => absurd ht (Nat.not_lt_zero _), fun t h1 h2 => by omega⟩ : (∀ t, t < 0 → p t = false) ∧ (∀ t, n ≤ t → t < n → p t = true))⟩
  case round =>
    obtain ⟨lo, hi, rfl, rfl, hlh, hin, I⟩ := hrel
    by_cases hlt : lo < hi
    · have ee : (((lo + hi) / 2 : Nat) : Int) = ((lo : Int) + (hi : Int)) / 2 := by omega
      have hc := HF.out wr ((lo + hi) / 2) I.out.1 (by omega)
      rw [ee] at hc
      clear ee
      cases hp : p ((lo + hi) / 2)
      · have HP : Hid (p ((lo + hi) / 2) = false) := hp
        rw [hp] at hc
        have HC : Hid (Calls Tryz.prog 115 _ wr _) := hc
        clear hp hc
        go_wp2_with fail
        refine (Calls.mono HC.out ?_)
        rintro e w1 ⟨rfl, hB1⟩
        have I2 : Hid (Below w.heap.size w w1 ∧ (∀ t, t < (lo + hi) / 2 + 1 → p t = false) ∧ (∀ t, hi ≤ t → t < n → p t = true)) := ⟨chain I.out.1 hB1, fun t ht => (by
            cases h : p t with
            | false => rfl
            | true => have := M.out t ((lo + hi) / 2) (by omega) (by omega) h; rw [HP.out] at this; cases this), I.out.2.2⟩
        clear hB1
        go_wp2
        go_roundw
        case rel => exact ⟨(lo + hi) / 2 + 1, hi, by rw [show ((lo : Int) + (hi : Int)) / 2 + 1 = (((lo + hi) / 2 + 1 : Nat) : Int) by omega], rfl, by omega, hin, I2⟩
        case measure => simp [intOf]; omega
      · have HP : Hid (p ((lo + hi) / 2) = true) := hp
        rw [hp] at hc
        have HC : Hid (Calls Tryz.prog 115 _ wr _) := hc
        clear hp hc
        go_wp2_with fail
        refine (Calls.mono HC.out ?_)
        rintro e w1 ⟨rfl, hB1⟩
        have I2 : Hid (Below w.heap.size w w1 ∧ (∀ t, t < lo → p t = false) ∧ (∀ t, (lo + hi) / 2 ≤ t → t < n → p t = true)) := ⟨chain I.out.1 hB1, I.out.2.1, fun t ht htn => M.out ((lo + hi) / 2) t ht htn HP.out⟩
        clear hB1
        go_wp2
        go_roundw
        case rel => exact ⟨lo, (lo + hi) / 2, rfl, by rw [show ((lo : Int) + (hi : Int)) / 2 = (((lo + hi) / 2 : Nat) : Int) by omega], by omega, by omega, I2⟩
        case measure => simp [intOf]; omega
    · obtain rfl : hi = lo := by omega
      go_wp2
      go_ret
      exact ⟨hi, rfl, I.out.1, hin, I.out.2.1, I.out.2.2⟩
theorem ah_found {L : List E3} (hr : Gm.Rising L) (u r : Nat) (h0 : r ≤ L.length) (h1 : ∀ t, t < r → decide ((u : Int) ≤ (L.getD t (0, 0, 0)).1) = false) (h2 : ∀ t, r ≤ t → t < L.length → decide ((u : Int) ≤ (L.getD t (0, 0, 0)).1) = true) : r = Gm.ah L u := by
  have hle := Gm.ah_le L u
  have hg : ∀ t (h : t < L.length), L.getD t (0, 0, 0) = L[t] := fun t h => by rw [List.getD_eq_getElem?_getD, List.getElem?_eq_getElem h]; rfl
  rcases Nat.lt_trichotomy r (Gm.ah L u) with h | h | h
  · have h3 := h2 r (Nat.le_refl _) (by omega)
    rw [hg r (by omega)] at h3
    have h4 := (Gm.ah_at L u r _ hr (List.getElem?_eq_getElem (by omega))).2 h
    simp at h3; omega
  · exact h
  · have h3 := h1 (Gm.ah L u) h
    rw [hg _ (by omega)] at h3
    have h4 := (Gm.ah_at L u (Gm.ah L u) _ hr (List.getElem?_eq_getElem (by omega))).1
    simp at h3
    have := h4 h3
    omega
set_option maxHeartbeats 1000000 in
theorem eahead_any {w : World} {b n s : Nat} {L : List E3} (h : GraphAt w b n s L) (u : Nat) :
    Calls Tryz.prog 96 #[.pointer (some ⟨b, 0, none⟩), .int .i64 (u : Int)] w fun r w' => r = .returned (.int .i64 (Gm.ah L u : Int)) ∧ Below w.heap.size w w' := by
  have hB2 := below2 w (.cells #[.pointer (some ⟨b, 0, none⟩)] 29) (.cells #[.int .i64 (u : Int)] 3)
  have h2 := h.below hB2
  obtain ⟨k0, k1⟩ := two_cells w (.pointer (some ⟨b, 0, none⟩)) (.int .i64 (u : Int)) 29 3
  have hr := Gm.strict_rising h.st
  have HA : Hid (Calls Tryz.prog 114 _ _ _) := search2_any L.length (fun i => decide ((u : Int) ≤ (L.getD i (0, 0, 0)).1)) w.heap.size (w.heap.size + 1) _ (by have := h.bd; omega)
    (fun W i hW hi => eahead1_any (h2.below hW) w.heap.size (w.heap.size + 1) (u : Int) (cell_kept hW _ _ k0) (cell_kept hW _ _ k1) i _ (by rw [List.getD_eq_getElem?_getD, List.getElem?_eq_getElem hi]; rfl))
    (fun x y hxy hy hx => by
      simp only [decide_eq_true_eq] at hx ⊢
      rcases Nat.lt_or_eq_of_le hxy with hlt | rfl
      · have := (List.pairwise_iff_getElem.1 hr) x y (by omega) hy hlt
        rw [List.getD_eq_getElem?_getD, List.getElem?_eq_getElem (by omega)] at hx ⊢
        simp only [Option.getD_some] at hx ⊢
        omega
      · exact hx)
  have hz := h2.sz2
  have HR : Hid _ := hr
  have HB2 : Hid _ := hB2
  clear h hB2 h2 hr
  go_enter Tryz.func96, Tryz.ntmps96
  go_wp2_with fail
  refine (Calls.mono HA.out ?_)
  rintro e w1 ⟨r, rfl, hB1, hr1, hr2, hr3⟩
  have HE : Hid (r = Gm.ah L u) := ah_found HR.out u r hr1 hr2 hr3
  have HB1 : Hid _ := chain HB2.out hB1
  clear hB1 hr1 hr2 hr3
  go_wp2
  go_ret
  exact ⟨by rw [← HE.out]; rfl, HB1.out⟩
/-! ### where an edge lies by labels -/
set_option maxHeartbeats 1000000 in
theorem whole8_any {w : World} {b g : Nat} {l : List Nat} (hs : SeqAt 8 w b g l) :
    Calls Tryz.prog 135 #[.pointer (some ⟨b, 0, none⟩)] w fun e w' => e = .returned (.agg #[.int .i64 0, .int .i64 (l.length : Int)]) ∧ Below w.heap.size w w' := by
  have hB := below1 w (.cells #[.int .i64 0, .int .i64 0] 133)
  have HL : Hid (Calls Tryz.prog 150 _ (w.alloc (.cells #[.int .i64 0, .int .i64 0] 133)) _) := S8.len_any (hs.below hB)
  clear hs hB
  go_enter Tryz.func135, Tryz.ntmps135
  go_wp2_with fail
  refine (Calls.mono HL.out ?_)
  rintro e w1 ⟨rfl, hw⟩
  rw [hw]
  clear hw w1
  go_wp2
  refine bodyPost_ret (v := .agg #[.int .i64 0, .int .i64 (l.length : Int)]) (by simp [results, Tryz.results135, go_sem]) rfl ?_
  exact ⟨rfl, below1 _ _⟩
set_option maxHeartbeats 1000000 in
theorem splace8_any {w : World} {b g : Nat} {l : List Nat} (hs : SeqAt 8 w b g l) (p c : Nat) (hp : l[p]? = some c) :
    Calls Tryz.prog 112 #[.pointer (some ⟨b, 0, none⟩), .int .i64 (p : Int)] w fun e w' => e = .returned (.int .i64 ((bel l 0 l.length c + cnt (eqf l c) p : Nat) : Int)) ∧ Below w.heap.size w w' := by
  have hpl := (List.getElem?_eq_some_iff.1 hp).1
  have hn := hs.hn
  have hc := hs.lt c (List.mem_of_getElem? hp)
  have hb1 := bel_le l 0 l.length c
  have hb2 := cnt_le (eqf l c) p
  have HS : Hid _ := hs
  have HA : Hid (Calls Tryz.prog 110 _ w _) := S8.at_yes hs p c hp
  clear hs hp
  go_enter Tryz.func112, Tryz.ntmps112
  go_wp2_with fail
  refine (Calls.mono HA.out ?_)
  rintro e w1 ⟨rfl, hB1⟩
  have HB1 : Hid _ := hB1
  have HW : Hid (Calls Tryz.prog 135 _ w1 _) := whole8_any (HS.out.below hB1)
  clear HA hB1
  go_wp2_with fail
  refine (Calls.mono HW.out ?_)
  rintro e w2 ⟨rfl, hB2⟩
  have HB2 : Hid _ := chain HB1.out hB2
  have HL : Hid (Calls Tryz.prog 134 _ w2 _) := S8.below_yes (HS.out.below HB2.out) c 0 l.length hc (Nat.zero_le _) (Nat.le_refl _)
  clear hB2 HW
  go_wp2_with fail
  refine (Calls.mono HL.out ?_)
  rintro e w3 ⟨rfl, hB3⟩
  have HB3 : Hid _ := chain HB2.out hB3
  have HR : Hid (Calls Tryz.prog 136 _ w3 _) := S8.rank_yes (HS.out.below HB3.out) c hc p (by omega)
  clear hB3 HL
  go_wp2_with fail
  refine (Calls.mono HR.out ?_)
  rintro e w4 ⟨rfl, hB4⟩
  have HB4 : Hid _ := chain HB3.out hB4
  clear hB4 HR
  go_wp2
  go_ret
  exact ⟨ret1 (by rw [Int.natCast_add]; rfl), HB4.out⟩
/-! ### the edge at a place -/
set_option maxHeartbeats 2000000 in
theorem edgeat_any {w : World} {b n s : Nat} {L : List E3} (h : GraphAt w b n s L) (p : Nat) (e : E3) (he : L[p]? = some e) :
    Calls Tryz.prog 94 #[.pointer (some ⟨b, 0, none⟩), .int .i64 (p : Int)] w fun r w' => r = .returned (.agg #[.int .i64 e.1, .int .i64 e.2.1, .int .i64 e.2.2]) ∧ Below w.heap.size w w' := by
  obtain ⟨k1, k2, k3, k4, k5, k6⟩ := h.ok.2 e (List.mem_of_getElem? he)
  have hbd := h.bd
  have hpl := (List.getElem?_eq_some_iff.1 he).1
  obtain ⟨c, hc⟩ : ∃ c : Nat, e.2.1 = (c : Int) := ⟨e.2.1.toNat, by omega⟩
  obtain ⟨d, hd⟩ : ∃ d : Nat, e.2.2 = (d : Int) := ⟨e.2.2.toNat, by omega⟩
  have hlc : (labs L)[p]? = some c := by unfold labs; rw [List.getElem?_map, he]; simp [hc]
  obtain ⟨bl, gl, c4, h8⟩ := h.lab
  obtain ⟨R, bt, gt, c5, h16, hperm, hs2⟩ := h.tgt
  have hpos := pos_label h.st hperm hs2 h.lab0 p c e he hc
  have hrt : (tos R)[bel (labs L) 0 (labs L).length c + cnt (eqf (labs L) c) p]? = some d := by unfold tos; rw [List.getElem?_map, hpos]; simp [hd]
  have hB0 := below1 w (.cells #[.int .i64 0, .int .i64 0, .int .i64 0] 41)
  have HG : Hid _ := h
  have H8 : Hid _ := h8
  have H16 : Hid _ := h16
  have HAt : Hid (∀ W, SeqAt 8 W bl gl (labs L) → Calls Tryz.prog 110 #[.pointer (some ⟨bl, 0, none⟩), .int .i64 (p : Int)] W _) := fun W h => S8.at_yes h p c hlc
  have HPl : Hid (∀ W, SeqAt 8 W bl gl (labs L) → Calls Tryz.prog 112 #[.pointer (some ⟨bl, 0, none⟩), .int .i64 (p : Int)] W _) := fun W h => splace8_any h p c hlc
  have HT : Hid (∀ W, SeqAt 16 W bt gt (tos R) → Calls Tryz.prog 111 #[.pointer (some ⟨bt, 0, none⟩), .int .i64 ((bel (labs L) 0 (labs L).length c + cnt (eqf (labs L) c) p : Nat) : Int)] W _) := fun W h => S16.at_yes h _ d hrt
  have HSr : Hid (∀ W, GraphAt W b n s L → Calls Tryz.prog 113 #[.pointer (some ⟨b, 0, none⟩), .int .i64 (p : Int)] W _) := fun W h => srcof_any h p e he
  have HB0 : Hid _ := hB0
  generalize ((bel (labs L) 0 (labs L).length c + cnt (eqf (labs L) c) p : Nat) : Int) = q at HPl HT
  obtain ⟨e1, e2, e3⟩ := e
  simp only at hc hd HSr k1 k2
  subst hc hd
  have a4 := cell_kept hB0 _ _ c4
  clear h h8 h16 hpos hrt hlc he hB0
  go_enter Tryz.func94, Tryz.ntmps94
  go_wp2_with fail
  refine (Calls.mono (HAt.out _ (H8.out.below HB0.out)) ?_)
  rintro r w1 ⟨rfl, hB1⟩
  have HB1 : Hid _ := chain HB0.out hB1
  have b4 := cell_kept HB1.out _ _ c4
  have b5 := cell_kept HB1.out _ _ c5
  have hs1 : w.heap.size < w1.heap.size := by have := hB1.size; simp at this; omega
  have z0 := cell_kept hB1 ⟨w.heap.size, 0, none⟩ (.int .i64 0) (by simp)
  have z1 := cell_kept hB1 ⟨w.heap.size, 1, none⟩ (.int .i64 0) (by simp)
  have z2 := cell_kept hB1 ⟨w.heap.size, 2, none⟩ (.int .i64 0) (by simp)
  have HR1 : Hid (w1.heap[w.heap.size]? = some (.cells #[.int .i64 0, .int .i64 0, .int .i64 0] 41 (0, 0))) := ((hB1.block _ (by simp)).trans (heap_alloc_new _ _) : _ = _)
  clear hB1 a4 z0 z1 z2
  go_wp2_with fail
  go_region_held3 (fun w' => w'.cell? ⟨b, 4, none⟩ = some (.pointer (some ⟨bl, 0, none⟩)) ∧ w'.cell? ⟨b, 5, none⟩ = some (.pointer (some ⟨bt, 0, none⟩))) (go_keep)
    (first
      | (go_at_call 112; refine (HPl.out _ ?_).mono ?_; exact ((H8.out.below HB1.out).kept (fun _ _ h => h)); rintro r w2 ⟨rfl, hB2d⟩; have hB2 := ((Below.refl w1.heap.size w1).drew).trans hB2d; have q1 := cell_kept hB2 _ _ b4; have q2 := cell_kept hB2 _ _ b5)
      | (go_at_call 111; refine (HT.out _ ?_).mono ?_; exact (((H16.out.below HB1.out).kept (cell_kept hB2)).kept (fun _ _ h => h)); rintro r w3 ⟨rfl, hB3⟩; have q3 := cell_kept hB3 _ _ q1; have q4 := cell_kept hB3 _ _ q2))
  have HB3 : Hid (Below w1.heap.size w1 w3) := (by first | exact chain hB2 hB3 | exact chain hB2 (((Below.refl w2.heap.size w2).drew).trans hB3) : Below _ _ _)
  have HR3 : Hid (w3.heap[w.heap.size]? = some (.cells #[.int .i64 0, .int .i64 0, .int .i64 0] 41 (0, 0))) := ((HB3.out.block _ hs1).trans HR1.out : _ = _)
  have hs3 := HB3.out.size
  clear q1 q2 q3 q4 b4 b5 hB2d hB2 hB3
  go_wp2_with fail
  refine (Calls.mono (HSr.out _ (HG.out.below (chain HB1.out HB3.out))) ?_)
  rintro r w4 ⟨rfl, hB4⟩
  have hg4 : w4.heap[w.heap.size]? = some (.cells #[.int .i64 0, .int .i64 0, .int .i64 0] 41 (0, 0)) := (hB4.block _ (by omega)).trans HR3.out
  have HB4 : Hid _ := chain (chain HB1.out HB3.out) hB4
  have y0 : w4.cell? ⟨w.heap.size, 0, none⟩ = some (.int .i64 0) := by rw [cell_of_row w4 _ 0 _ _ _ hg4]; rfl
  have y1 : w4.cell? ⟨w.heap.size, 1, none⟩ = some (.int .i64 0) := by rw [cell_of_row w4 _ 1 _ _ _ hg4]; rfl
  have y2 : w4.cell? ⟨w.heap.size, 2, none⟩ = some (.int .i64 0) := by rw [cell_of_row w4 _ 2 _ _ _ hg4]; rfl
  have f0 := frozen_of_row w4 _ 0 _ _ hg4
  have f1 := frozen_of_row w4 _ 1 _ _ hg4
  have f2 := frozen_of_row w4 _ 2 _ _ hg4
  have hs4 := hB4.size
  clear hB4 hg4
  go_wp2
  refine bodyPost_ret (v := .agg #[.int .i64 e1, .int .i64 (c : Int), .int .i64 (d : Int)]) (by simp [results, Tryz.results94, go_sem, *]) rfl ?_
  exact ⟨rfl, ((HB4.out.setCell (p := ⟨w.heap.size, 0, none⟩) (Nat.le_refl _) _).setCell (p := ⟨w.heap.size, 1, none⟩) (Nat.le_refl _) _).setCell (p := ⟨w.heap.size, 2, none⟩) (Nat.le_refl _) _⟩
end Go.Proofs.YtphjbbbnbmafnabGreatDoor.G

namespace Go.Proofs.YtphjbbbnbmafnabGreatDoor.G
open Go.RowKit

attribute [local go_sem ↓] Go.wp_at_zero Go.wp_at_succ
/-- from a on, up to but without b -/
def upTo (a b : Nat) : List Nat := (List.range (b - a)).map (a + ·)
theorem upTo_len (a b : Nat) : (upTo a b).length = b - a := by simp [upTo]
theorem upTo_snoc (a k : Nat) (h : a ≤ k) : upTo a (k + 1) = upTo a k ++ [k] := by
  unfold upTo
  rw [show k + 1 - a = (k - a) + 1 by omega, List.range_succ, List.map_append]
  simp; omega
theorem upTo_self (a : Nat) : upTo a a = [] := by unfold upTo; simp
/-! ### both ends of a span -/
theorem two_spans (w : World) (a b c d : Value) (t : TypeId) : ((w.alloc (.cells #[a, b] t)).alloc (.cells #[c, d] t)).cell? ⟨w.heap.size, 0, none⟩ = some a ∧ ((w.alloc (.cells #[a, b] t)).alloc (.cells #[c, d] t)).cell? ⟨w.heap.size, 1, none⟩ = some b ∧ ((w.alloc (.cells #[a, b] t)).alloc (.cells #[c, d] t)).cell? ⟨w.heap.size + 1, 0, none⟩ = some c ∧ ((w.alloc (.cells #[a, b] t)).alloc (.cells #[c, d] t)).cell? ⟨w.heap.size + 1, 1, none⟩ = some d ∧
    ((w.alloc (.cells #[a, b] t)).alloc (.cells #[c, d] t)).frozen? ⟨w.heap.size + 1, 0, none⟩ = false ∧ ((w.alloc (.cells #[a, b] t)).alloc (.cells #[c, d] t)).frozen? ⟨w.heap.size + 1, 1, none⟩ = false := by
  have h1 : ((w.alloc (.cells #[a, b] t)).alloc (.cells #[c, d] t)).heap[w.heap.size]? = some (.cells #[a, b] t (0, 0)) := by rw [old_alloc (by simp)]; exact heap_alloc_new _ _
  have h2 : ((w.alloc (.cells #[a, b] t)).alloc (.cells #[c, d] t)).heap[w.heap.size + 1]? = some (.cells #[c, d] t (0, 0)) := by
    have := heap_alloc_new (w.alloc (.cells #[a, b] t)) (.cells #[c, d] t)
    rwa [World.size_alloc] at this
  exact ⟨by rw [cell_of_row _ _ 0 _ _ _ h1]; rfl, by rw [cell_of_row _ _ 1 _ _ _ h1]; rfl, by rw [cell_of_row _ _ 0 _ _ _ h2]; rfl, by rw [cell_of_row _ _ 1 _ _ _ h2]; rfl, frozen_of_row _ _ 0 _ _ h2, frozen_of_row _ _ 1 _ _ h2⟩
set_option maxHeartbeats 4000000 in
theorem ends_ahead {w : World} {b n s : Nat} {L : List E3} (h : GraphAt w b n s L) (x y : Nat) :
    Calls Tryz.prog 95 #[.agg #[.int .i64 (x : Int), .int .i64 (y : Int)], .func (.func 96) #[.pointer (some ⟨b, 0, none⟩)] #[]] w fun e w' => e = .returned (.agg #[.int .i64 (Gm.ah L x : Int), .int .i64 (Gm.ah L y : Int)]) ∧ Below w.heap.size w w' := by
  have hB := below2 w (.cells #[.int .i64 (x : Int), .int .i64 (y : Int)] 133) (.cells #[.int .i64 0, .int .i64 0] 133)
  have HB : Hid _ := hB
  have HG : Hid _ := h.below hB
  obtain ⟨k0, k1, k2, k3, m0, m1⟩ := two_spans w (.int .i64 (x : Int)) (.int .i64 (y : Int)) (.int .i64 0) (.int .i64 0) 133
  have HX : Hid (∀ W, GraphAt W b n s L → Calls Tryz.prog 96 #[.pointer (some ⟨b, 0, none⟩), .int .i64 (x : Int)] W _) := fun W h => eahead_any h x
  have HY : Hid (∀ W, GraphAt W b n s L → Calls Tryz.prog 96 #[.pointer (some ⟨b, 0, none⟩), .int .i64 (y : Int)] W _) := fun W h => eahead_any h y
  clear h hB
  go_enter Tryz.func95, Tryz.ntmps95
  go_wp2_with fail
  go_region_held3 (fun w' => w'.cell? ⟨w.heap.size, 0, none⟩ = some (.int .i64 (x : Int)) ∧ w'.cell? ⟨w.heap.size, 1, none⟩ = some (.int .i64 (y : Int))) (go_keep)
    (first
      | (go_at_call_of 96 (Value.int IntKind.i64 (x : Int)); refine (HX.out _ ?_).mono ?_; (first | exact (HG.out.kept (fun _ _ h => h)) | exact (HG.out.below hBy) | exact ((HG.out.below hBy).kept (fun _ _ h => h))); rintro r wx ⟨rfl, hB0x⟩; have hBx : Below ((w.alloc (.cells #[.int .i64 (x : Int), .int .i64 (y : Int)] 133)).alloc (.cells #[.int .i64 0, .int .i64 0] 133)).heap.size ((w.alloc (.cells #[.int .i64 (x : Int), .int .i64 (y : Int)] 133)).alloc (.cells #[.int .i64 0, .int .i64 0] 133)) wx := (by first | exact (((Below.refl _ _).drew).trans hB0x) | exact chain hBy hB0x | exact chain hBy (((Below.refl _ _).drew).trans hB0x)); have q1x := cell_kept hBx _ _ k0; have q2x := cell_kept hBx _ _ k1; have q3x := cell_kept hBx _ _ k2; have q4x := cell_kept hBx _ _ k3; have q5x := (hBx.frozen (p := ⟨w.heap.size + 1, 0, none⟩) (by simp)).trans m0; have q6x := (hBx.frozen (p := ⟨w.heap.size + 1, 1, none⟩) (by simp)).trans m1; have q7x := hBx.size)
      | (go_at_call_of 96 (Value.int IntKind.i64 (y : Int)); refine (HY.out _ ?_).mono ?_; (first | exact (HG.out.kept (fun _ _ h => h)) | exact (HG.out.below hBx) | exact ((HG.out.below hBx).kept (fun _ _ h => h))); rintro r wy ⟨rfl, hB0y⟩; have hBy : Below ((w.alloc (.cells #[.int .i64 (x : Int), .int .i64 (y : Int)] 133)).alloc (.cells #[.int .i64 0, .int .i64 0] 133)).heap.size ((w.alloc (.cells #[.int .i64 (x : Int), .int .i64 (y : Int)] 133)).alloc (.cells #[.int .i64 0, .int .i64 0] 133)) wy := (by first | exact (((Below.refl _ _).drew).trans hB0y) | exact chain hBx hB0y | exact chain hBx (((Below.refl _ _).drew).trans hB0y)); have q1y := cell_kept hBy _ _ k0; have q2y := cell_kept hBy _ _ k1; have q3y := cell_kept hBy _ _ k2; have q4y := cell_kept hBy _ _ k3; have q5y := (hBy.frozen (p := ⟨w.heap.size + 1, 0, none⟩) (by simp)).trans m0; have q6y := (hBy.frozen (p := ⟨w.heap.size + 1, 1, none⟩) (by simp)).trans m1; have q7y := hBy.size))
  all_goals
    go_wp2
    refine bodyPost_ret (v := .agg #[.int .i64 (Gm.ah L x : Int), .int .i64 (Gm.ah L y : Int)]) (by simp [results, Tryz.results95, go_sem, *]) rfl ?_
    first
      | exact ⟨rfl, ((chain HB.out hBy).setCell (p := ⟨w.heap.size + 1, 0, none⟩) (Nat.le_succ _) _).setCell (p := ⟨w.heap.size + 1, 1, none⟩) (Nat.le_succ _) _⟩
      | exact ⟨rfl, ((chain HB.out hBx).setCell (p := ⟨w.heap.size + 1, 0, none⟩) (Nat.le_succ _) _).setCell (p := ⟨w.heap.size + 1, 1, none⟩) (Nat.le_succ _) _⟩
/-! ### the places of the edges from a span of nodes -/
theorem Tryz.infoI : (Tryz.prog.info? 3).map (fun i => (i.zero, i.size, i.bytes)) = some (some (.int .i64 0), 1, 8) := by kernel_rfl
/-- a row of numbers of one's own -/
def OwnI (w wr : World) (v : Value) (l : List Nat) : Prop := wr.ownsRow w.heap.size 3 1 v l.length (vals .i64 l) ∧ Below w.heap.size w wr
theorem ownI_snoc {w wr w2 : World} {v v' : Value} {l : List Nat} {x : Nat} {o : Obj} (h : OwnI w wr v l) (hown : w2.ownsRow w.heap.size 3 1 v' (l.length + 1) (vals .i64 l ++ [.int .i64 (x : Int)])) (hg : (wr.alloc o).grownBy w2 v.ownBlock) : OwnI w w2 v' (l ++ [x]) := by
  refine ⟨by rw [vals_snoc, List.length_append]; exact hown, ?_⟩
  exact (h.2.alloc h.2.size o).grown hg (by have := h.2.size; simp; omega) (fun j hj => (h.1.lt j hj).1)
theorem box2 (w : World) (a b : Value) (t : TypeId) : (w.alloc (.cells #[a, b] t)).cell? ⟨w.heap.size, 0, none⟩ = some a ∧ (w.alloc (.cells #[a, b] t)).cell? ⟨w.heap.size, 1, none⟩ = some b := by
  refine ⟨?_, ?_⟩ <;> simp
set_option maxHeartbeats 4000000 in
set_option maxRecDepth 100000 in
theorem placesfrom_any {w : World} {b n s : Nat} {L : List E3} (h : GraphAt w b n s L) (x y : Nat) :
    Calls Tryz.prog 62 #[.pointer (some ⟨b, 0, none⟩), .agg #[.int .i64 (x : Int), .int .i64 (y : Int)]] w fun e w' => ∃ v, e = .returned v ∧ NumsAt .i64 w' v (upTo (Gm.ah L x) (Gm.ah L y)) ∧ Below w.heap.size w w' := by
  have hB0 := below1 w (.cells #[.int .i64 (x : Int), .int .i64 (y : Int)] 133)
  have HB0 : Hid _ := hB0
  have HE : Hid (Calls Tryz.prog 95 _ (w.alloc (.cells #[.int .i64 (x : Int), .int .i64 (y : Int)] 133)) _) := ends_ahead (h.below hB0) x y
  have hx1 := Gm.ah_le L x
  have hy1 := Gm.ah_le L y
  have hbd := h.bd
  obtain ⟨i0, hi, hz0, hz1, hz2⟩ := info_parts Tryz.infoI
  generalize Gm.ah L x = X at HE hx1
  generalize Gm.ah L y = Y at HE hy1
  clear h hB0
  go_enter Tryz.func62, Tryz.ntmps62
  go_wp2_with fail
  refine (Calls.mono HE.out ?_)
  rintro e w1 ⟨rfl, hB1⟩
  have hb1 := chain HB0.out hB1
  have HB2 : Hid _ := hb1.alloc hb1.size (.cells #[.int .i64 (X : Int), .int .i64 (Y : Int)] 133)
  have hsz1 := hb1.size
  clear hB1 hb1 HE
  have hBx : (w1.alloc (.cells #[.int .i64 (X : Int), .int .i64 (Y : Int)] 133)).heap[w1.heap.size]? = some (.cells #[.int .i64 (X : Int), .int .i64 (Y : Int)] 133 (0, 0)) := heap_alloc_new _ _
  have HBx : Hid _ := hBx
  clear hBx
  go_wp2
  go_loopw [5, 7] (fun sv sp wr => ∃ k : Nat, (k ≤ Y ∨ k = X) ∧ X ≤ k ∧ sp = .int .i64 (k : Int) ∧ (∃ a1 c1, sv = .slice a1 (k - X) c1) ∧ Hid (OwnI w wr sv (upTo X k) ∧ (∀ r, sv.ownBlock = some r → r ≠ w1.heap.size) ∧ wr.heap[w1.heap.size]? = some (.cells #[.int .i64 (X : Int), .int .i64 (Y : Int)] 133 (0, 0)))) (fun _ sp _ => Y - (intOf sp).toNat)
  case atStart => exact ⟨X, .inr rfl, Nat.le_refl _, rfl, ⟨none, 0, by rw [Nat.sub_self]⟩, ⟨by rw [upTo_self]; exact World.ownsRow_nil _ _ _ _, HB2.out⟩, (fun r hr => by simp [Value.ownBlock] at hr), HBx.out⟩
  case round =>
    obtain ⟨k, hk1, hk2, rfl, ⟨a1, c1, rfl⟩, HI⟩ := hrel
    have z1 : wr.cell? ⟨w1.heap.size, 1, none⟩ = some (.int .i64 (Y : Int)) := by rw [cell_of_row wr _ 1 _ _ _ HI.out.2.2]; rfl
    by_cases hlt : k < Y
    · have hrow := HI.out.1.1
      rw [upTo_len] at hrow
      have hsz := HI.out.1.2.size
      have hgl := (Array.getElem?_eq_some_iff.1 HI.out.2.2).1
      go_wp2_with (at_builtin; refine wpList_append_lies _ rfl _ _ 22 rfl w.heap.size 3 i0 (.int .i64 0) 1 8 Tryz.underlying22 hi hz0 hz1 hz2 rfl (by omega) _ _ _ rfl (hrow.alloc _) ⟨wr.heap.size, 0, none⟩ 1 1 [.int .i64 (k : Int)] rfl rfl ?c1 ?c2 (by omega) ?c3 ?c4 ?c5 (wr.heap.size + 1) (by simp) ?_)
      case c1 =>
        intro j u hj
        match j, hj with
        | 0, hj => simp at hj; subst hj; simp [Addr.add]
      case c2 => intro u hu; simp at hu; subst hu; rfl
      case c3 => unfold maxLen; omega
      case c4 => omega
      case c5 => simp; omega
      intro gg gc w2 hown hgrow hat hlt2
      have HI2 : Hid (OwnI w w2 (.slice (some ⟨gg, 0, none⟩) (k - X + 1) gc) (upTo X (k + 1)) ∧ (∀ r, (Value.slice (some ⟨gg, 0, none⟩) (k - X + 1) gc).ownBlock = some r → r ≠ w1.heap.size) ∧ w2.heap[w1.heap.size]? = some (.cells #[.int .i64 (X : Int), .int .i64 (Y : Int)] 133 (0, 0))) := (by
        refine ⟨?_, ?_, ?_⟩
        · rw [upTo_snoc X k hk2]
          exact ownI_snoc HI.out.1 (by rw [upTo_len]; exact hown) hgrow
        · intro r hr
          have e : gg = r := by simpa [Value.ownBlock] using hr
          subst e
          rcases hat with h | h
          · exact HI.out.2.1 gg h
          · omega
        · rw [hgrow.block _ (by simp; omega) (fun e => HI.out.2.1 _ e.symm rfl), old_alloc hgl]
          exact HI.out.2.2 : _ ∧ _)
      clear hown hgrow hat hlt2 hrow
      go_wp2
      go_roundw
      case rel => exact ⟨k + 1, .inl (by omega), by omega, by go_num, ⟨_, gc, by rw [show k + 1 - X = k - X + 1 by omega]⟩, HI2.out⟩
      case measure => simp [intOf]; omega
    · have hnl : ¬ (k : Int) < (Y : Int) := by omega
      have HN : Hid (NumsAt .i64 wr (.slice a1 (k - X) c1) (upTo X Y)) := (by
        have h := nums_own HI.out.1.1
        rcases Nat.lt_or_ge Y X with h2 | h2
        · obtain rfl : k = X := by omega
          have e : upTo k Y = upTo k k := by unfold upTo; rw [show Y - k = 0 by omega, Nat.sub_self]
          rw [e]; exact h
        · obtain rfl : k = Y := by omega
          exact h : NumsAt _ _ _ _)
      have HB : Hid _ := HI.out.1.2
      clear HI
      go_wp2
      go_ret
      exact ⟨_, rfl, HN.out, HB.out⟩
/-! ### edges at places -/
/-- the edges at places -/
def edAt (L : List E3) (ps : List Nat) : List E3 := ps.map fun p => L.getD p (0, 0, 0)
theorem edAt_snoc (L : List E3) (ps : List Nat) (p : Nat) : edAt L (ps ++ [p]) = edAt L ps ++ [L.getD p (0, 0, 0)] := by simp [edAt]
theorem edAt_len (L : List E3) (ps : List Nat) : (edAt L ps).length = ps.length := by simp [edAt]
theorem cell_box2 (w : World) (x y : Int) : (w.alloc (.cells #[.int .i64 x, .int .i64 y] 133)).cell? ⟨w.heap.size, 0, none⟩ = some (.int .i64 x) ∧ (w.alloc (.cells #[.int .i64 x, .int .i64 y] 133)).cell? ⟨w.heap.size, 1, none⟩ = some (.int .i64 y) := box2 w _ _ _
set_option maxHeartbeats 1000000 in
set_option maxRecDepth 100000 in
theorem edgesof_no {w : World} {b n s : Nat} {L : List E3} (h : GraphAt w b n s L) (x y : Int) (hxy : ¬ (0 ≤ x ∧ x ≤ y ∧ y ≤ (n : Int))) (fv : Value) :
    Calls Tryz.prog 60 #[.pointer (some ⟨b, 0, none⟩), .agg #[.int .i64 x, .int .i64 y], fv] w fun e w' => e = .returned (.tuple #[.slice none 0 0, .int .i64 1]) ∧ Below w.heap.size w w' := by
  have hB0 := below1 w (.cells #[.int .i64 x, .int .i64 y] 133)
  have HB0 : Hid _ := hB0
  obtain ⟨k0, k1⟩ := cell_box2 w x y
  have k2 := (h.below hB0).sz0
  have HS : Hid (∀ W, Calls Tryz.prog 93 _ W _) := fun W => isSpan_any x y (n : Int) W
  rw [decide_eq_false hxy] at HS
  clear h hxy hB0
  go_enter Tryz.func60, Tryz.ntmps60
  go_wp2_with fail
  go_region_held3 (fun w' => w'.cell? ⟨w.heap.size, 0, none⟩ = some (.int .i64 x) ∧ w'.cell? ⟨w.heap.size, 1, none⟩ = some (.int .i64 y) ∧ w'.cell? ⟨b, 0, none⟩ = some (.int .i64 (n : Int))) (go_keep)
    (first
      | (go_at_call 93; refine (HS.out _).mono ?_; rintro r w1 ⟨rfl, hB1d⟩; have hB1 := ((Below.refl _ _).drew).trans hB1d; have q1 := cell_kept hB1 _ _ k0; have q2 := cell_kept hB1 _ _ k1; have q3 := cell_kept hB1 _ _ k2))
  go_wp2
  go_ret2
  exact ⟨rfl, chain HB0.out hB1⟩
end Go.Proofs.YtphjbbbnbmafnabGreatDoor.G

namespace Go.Proofs.YtphjbbbnbmafnabGreatDoor.G
open Go.RowKit

attribute [local go_sem ↓] Go.wp_at_zero Go.wp_at_succ
theorem own_base {w : World} {A B : Nat} {e : TypeId} {k : Nat} {v : Value} {n : Nat} {xs : List Value} (h : w.ownsRow A e k v n xs) (hB : B ≤ A) : w.ownsRow B e k v n xs := by
  refine ⟨h.1, ?_⟩
  rcases h.2 with h0 | ⟨g, cap, cur, hv, hb, r⟩
  · exact .inl h0
  · exact .inr ⟨g, cap, cur, hv, Nat.le_trans hB hb, r⟩
theorem own_keep {w w' : World} {B : Nat} {e : TypeId} {k : Nat} {v : Value} {n : Nat} {xs : List Value} (h : w.ownsRow B e k v n xs) (hB : Below w.heap.size w w') : w'.ownsRow B e k v n xs := by
  refine ⟨h.1, ?_⟩
  rcases h.2 with h0 | ⟨g, cap, cur, hv, hb, hg, r⟩
  · exact .inl h0
  · exact .inr ⟨g, cap, cur, hv, hb, (hB.block g (Array.getElem?_eq_some_iff.1 hg).1).trans hg, r⟩
set_option maxHeartbeats 4000000 in
set_option maxRecDepth 100000 in
theorem edgesof_yes {w : World} {b n s : Nat} {L : List E3} (h : GraphAt w b n s L) (x y : Nat) (hxy : x ≤ y ∧ y ≤ n) (ps : List Nat) (hps : ∀ p ∈ ps, p < L.length) (hpl : ps.length ≤ 20000)
    (hK : ∀ W, GraphAt W b n s L → Calls Tryz.prog 62 #[.pointer (some ⟨b, 0, none⟩), .agg #[.int .i64 (x : Int), .int .i64 (y : Int)]] W fun e w' => ∃ v, e = .returned v ∧ NumsAt .i64 w' v ps ∧ Below W.heap.size W w') :
    Calls Tryz.prog 60 #[.pointer (some ⟨b, 0, none⟩), .agg #[.int .i64 (x : Int), .int .i64 (y : Int)], .func (.func 62) #[] #[]] w fun e w' => ∃ v, e = .returned (.tuple #[v, .int .i64 0]) ∧ OwnE w w' v (edAt L ps) := by
  have hB0 := below1 w (.cells #[.int .i64 (x : Int), .int .i64 (y : Int)] 133)
  have HB0 : Hid _ := hB0
  obtain ⟨k0, k1⟩ := cell_box2 w (x : Int) (y : Int)
  have k2 := (h.below hB0).sz0
  have HS : Hid (∀ W, Calls Tryz.prog 93 _ W _) := fun W => isSpan_any (x : Int) (y : Int) (n : Int) W
  rw [decide_eq_true (by omega : 0 ≤ (x : Int) ∧ (x : Int) ≤ (y : Int) ∧ (y : Int) ≤ (n : Int))] at HS
  have HG : Hid _ := h
  have HK : Hid _ := hK
  have HP : Hid _ := hps
  obtain ⟨i0, hi, hz0, hz1, hz2⟩ := info_parts Tryz.infoE
  clear h hB0 hK hps
  go_enter Tryz.func60, Tryz.ntmps60
  go_wp2_with fail
  go_region_held3 (fun w' => w'.cell? ⟨w.heap.size, 0, none⟩ = some (.int .i64 (x : Int)) ∧ w'.cell? ⟨w.heap.size, 1, none⟩ = some (.int .i64 (y : Int)) ∧ w'.cell? ⟨b, 0, none⟩ = some (.int .i64 (n : Int))) (go_keep)
    (first
      | (go_at_call 93; refine (HS.out _).mono ?_; rintro r w1 ⟨rfl, hB1d⟩; have hB1 := ((Below.refl _ _).drew).trans hB1d; have q1 := cell_kept hB1 _ _ k0; have q2 := cell_kept hB1 _ _ k1; have q3 := cell_kept hB1 _ _ k2))
  have HB1 : Hid _ := chain HB0.out hB1
  clear hB1 hB1d k0 k1 k2
  go_wp2_with fail
  refine (Calls.mono (HK.out w1 (HG.out.below HB1.out)) ?_)
  rintro r w2 ⟨v2, rfl, hnum, hB2⟩
  have HB2 : Hid _ := chain HB1.out hB2
  obtain ⟨a2, cap2, rfl, hc2⟩ := hnum.open
  have HC : Hid _ := hc2
  clear hnum hB2 hc2 HS HK q1 q2 q3
  go_wp2
  go_loopw [8, 24] (fun sv si wr => ∃ k : Nat, k ≤ ps.length ∧ si = .int .i64 (k : Int) ∧ Hid (OwnE w2 wr sv (edAt L (ps.take k)))) (fun _ si _ => ps.length - (intOf si).toNat)
  case atStart => exact ⟨0, Nat.zero_le _, rfl, ⟨World.ownsRow_nil _ _ _ _, Below.refl _ _⟩⟩
  case round =>
    obtain ⟨k, hk, rfl, HI⟩ := hrel
    by_cases hlt : k < ps.length
    · obtain ⟨p, hp⟩ := some_at' hlt
      obtain ⟨g, off, rfl, hc⟩ := HC.out k p hp
      have hc1 := cell_kept HI.out.2 _ _ hc
      have hpl2 := HP.out p (List.mem_of_getElem? hp)
      obtain ⟨e, he⟩ : ∃ e, L[p]? = some e := ⟨_, List.getElem?_eq_getElem hpl2⟩
      have HE : Hid (Calls Tryz.prog 94 _ wr _) := edgeat_any (HG.out.below (chain HB2.out HI.out.2)) p e he
      have HN : Hid (edAt L (ps.take (k + 1)) = edAt L (ps.take k) ++ [e]) := (by
        rw [List.take_add_one, hp, Option.toList_some, edAt_snoc, List.getD_eq_getElem?_getD, he]; rfl : _ = _)
      have hkI : (k : Int) < (ps.length : Int) := by omega
      have hel := edAt_len L (ps.take k)
      rw [List.length_take, Nat.min_eq_left (by omega)] at hel
      clear hc hp he
      go_wp2_with fail
      refine (Calls.mono HE.out ?_)
      rintro r w3 ⟨rfl, hB3⟩
      have hrow := own_keep HI.out.1 hB3
      have HO3 : Hid (OwnE w2 w3 _ (edAt L (ps.take k))) := ⟨hrow, chain HI.out.2 hB3⟩
      have hsz := HO3.out.2.size
      clear hB3
      go_wp2_with (at_builtin; refine wpList_append_own _ rfl _ _ 27 rfl w2.heap.size 41 i0 (.agg #[.int .i64 0, .int .i64 0, .int .i64 0]) 3 24 Tryz.underlying27 hi hz0 hz1 hz2 rfl (by decide) _ _ _ rfl (hrow.alloc _) ⟨w3.heap.size, 0, none⟩ 1 1 [.int .i64 e.1, .int .i64 e.2.1, .int .i64 e.2.2] rfl rfl (src3 _ _ _ _ _) (one3 _ _ _) (by unfold maxLen; omega) (by omega) (by simp; omega) ?_; intro v' w4 hown hgrow hnil)
      have HO2 : Hid _ := ownE_snoc (e := e) HO3.out hown hgrow
      clear hown hgrow hnil hrow
      go_wp2
      go_roundw
      case rel => exact ⟨k + 1, by omega, by go_num, by rw [HN.out]; exact HO2.out⟩
      case measure => simp [intOf]; omega
    · obtain rfl : k = ps.length := by omega
      have HO : Hid (OwnE w _ _ (edAt L ps)) := (by
        have h := HI.out
        rw [List.take_length] at h
        exact ⟨own_base h.1 HB2.out.size, chain HB2.out h.2⟩ : OwnE _ _ _ _)
      clear HI
      go_wp2
      go_ret2
      exact ⟨_, rfl, HO.out⟩
theorem edAt_upTo (L : List E3) (a b : Nat) (hb : b ≤ L.length) : edAt L (upTo a b) = (L.take b).drop a := by
  apply List.ext_getElem?
  intro i
  unfold edAt upTo
  rw [List.map_map]
  by_cases h : i < b - a
  · rw [List.getElem?_map, List.getElem?_range h, Option.map_some, List.getElem?_drop, List.getElem?_take_of_lt (by omega)]
    simp only [Function.comp]
    rw [List.getD_eq_getElem?_getD, List.getElem?_eq_getElem (by omega)]; rfl
  · rw [List.getElem?_eq_none (by simp; omega), List.getElem?_eq_none (by simp; omega)]
/-- the edges from a span of nodes -/
def fromB (x y : Int) (e : E3) : Bool := decide (x ≤ e.1 ∧ e.1 < y)
theorem edAt_from {w : World} {b n s : Nat} {L : List E3} (h : GraphAt w b n s L) (x y : Nat) : edAt L (upTo (Gm.ah L x) (Gm.ah L y)) = L.filter (fromB x y) := by
  rw [edAt_upTo L _ _ (Gm.ah_le L y)]
  exact from_seg L (Gm.strict_rising h.st) x y
theorem upTo_lt {a b p : Nat} (h : p ∈ upTo a b) : p < b := by
  unfold upTo at h
  obtain ⟨i, hi, rfl⟩ := List.mem_map.1 h
  have := List.mem_range.1 hi
  omega
theorem edgesof_from {w : World} {b n s : Nat} {L : List E3} (h : GraphAt w b n s L) (x y : Nat) (hxy : x ≤ y ∧ y ≤ n) :
    Calls Tryz.prog 60 #[.pointer (some ⟨b, 0, none⟩), .agg #[.int .i64 (x : Int), .int .i64 (y : Int)], .func (.func 62) #[] #[]] w fun e w' => ∃ v, e = .returned (.tuple #[v, .int .i64 0]) ∧ OwnE w w' v (L.filter (fromB x y)) := by
  have hbd := h.bd
  have hy := Gm.ah_le L y
  have := edgesof_yes h x y hxy (upTo (Gm.ah L x) (Gm.ah L y)) (fun p hp => Nat.lt_of_lt_of_le (upTo_lt hp) hy) (by rw [upTo_len]; omega) (fun W hW => placesfrom_any hW x y)
  rw [edAt_from h] at this
  exact this
theorem fromB_all {w : World} {b n s : Nat} {L : List E3} (h : GraphAt w b n s L) : L.filter (fromB (0 : Nat) n) = L := by
  rw [List.filter_eq_self]
  intro e he
  have := h.ok.2 e he
  unfold fromB
  simp; omega
end Go.Proofs.YtphjbbbnbmafnabGreatDoor.G

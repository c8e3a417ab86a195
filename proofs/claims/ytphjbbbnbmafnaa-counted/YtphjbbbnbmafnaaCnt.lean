/-
  The walk of trelliskeep.Counted: over any list of numbers and any three numbers it returns true, and nothing that was there is written. No condition but how such arguments lie in memory.
-/
import Derived.Test.YtphjbbbnbmafnaaShown
import Derived.Test.YtphjbbbnbmafnaaNewSeq16
import Derived.Test.YtphjbbbnbmafnaaFind216
import Derived.Test.YtphjbbbnbmafnaaLeast16
import Derived.Test.YtphjbbbnbmafnaaLeast216
import Derived.Deep.CutRange
namespace Go.Proofs.Ytphjbbbnbmafnaa
open Go.RowKit

theorem bel_all {l : List Nat} {x y c : Nat} (h : ∀ z ∈ l, z ≤ c) (hxy : x ≤ y) (hy : y ≤ l.length) : bel l x y c + eqn l x y c = y - x := by
  have e : ∀ s : List Nat, (∀ z ∈ s, z ≤ c) → (s.filter (fun z => decide (z < c))).length + (s.filter (fun z => z == c)).length = s.length := by
    intro s
    induction s with
    | nil => intro _; rfl
    | cons z r ih =>
      intro hs
      have h1 := ih (fun z hz => hs z (List.mem_cons_of_mem _ hz))
      have h2 := hs z (List.mem_cons_self ..)
      simp only [List.filter_cons]
      rcases Nat.lt_or_eq_of_le h2 with h3 | h3
      · have e1 : decide (z < c) = true := by simpa using h3
        have e2 : (z == c) = false := by simp; omega
        rw [e1, e2]; simp only [if_true, Bool.false_eq_true, if_false, List.length_cons]; omega
      · have e1 : decide (z < c) = false := by simp; omega
        have e2 : (z == c) = true := by simpa using h3
        rw [e1, e2]; simp only [if_true, Bool.false_eq_true, if_false, List.length_cons]; omega
  unfold bel eqn
  rw [e _ (fun z hz => h z (List.mem_of_mem_take (List.mem_of_mem_drop hz)))]
  simp; omega

set_option maxHeartbeats 16000000 in
set_option maxRecDepth 100000 in
theorem counted_walk (a0 : Option Addr) (len cap : Nat) (R : Nat → Int) (from_ to_ kk : Int) (w : World) (hrow : len = 0 ∨ ∃ b off, a0 = some ⟨b, off, none⟩ ∧ ∀ i, i < len → w.cell? ⟨b, off + i, none⟩ = some (.int .i64 (R i)))
    (hR : ∀ i, i < len → -9223372036854775808 ≤ R i ∧ R i ≤ 9223372036854775807) (_hlen : len ≤ maxLen)
    (h1 : -9223372036854775808 ≤ from_ ∧ from_ ≤ 9223372036854775807) (h2 : -9223372036854775808 ≤ to_ ∧ to_ ≤ 9223372036854775807) (h3 : -9223372036854775808 ≤ kk ∧ kk ≤ 9223372036854775807) :
    Calls Try.prog 6 #[.slice a0 len cap, .int .i64 from_, .int .i64 to_, .int .i64 kk] w fun e w' => e = .returned (.bool true) ∧ Below w.heap.size w w' := by
  unfold maxLen at _hlen
  have HR : Hid _ := hrow
  have HRB : Hid _ := hR
  have H1 : Hid _ := h1
  have H2 : Hid _ := h2
  have H3 : Hid _ := h3
  clear hrow hR h1 h2 h3
  obtain ⟨i0, hi, hz0, hz1, hz2⟩ := info_parts S16.Try.infoW
  go_enter Try.func6, Try.ntmps6
  go_wp2_with fail
  refine (shown_any _).mono ?_
  rintro e w1 ⟨rfl, hB1⟩
  go_wp2
  go_loopw [10, 11] (fun v c wr => ∃ (k : Nat) (l : List Nat), k ≤ len ∧ k ≤ 300 ∧ c = .int .i64 k ∧ Hid (l.length = k ∧ (∀ x ∈ l, x < 2 ^ 16) ∧ S16.OwnN w wr v l)) (fun _ c _ => 300 - (intOf c).toNat)
  case atStart => exact ⟨0, [], Nat.zero_le _, Nat.zero_le _, rfl, rfl, (fun x hx => by cases hx), World.ownsRow_nil _ _ _ _, hB1⟩
  case round =>
    clear hB1
    obtain ⟨k, l, hk1, hk2, rfl, HI⟩ := hrel
    go_upto_region 4 with fail
    go_cut [43] from 36 to 54 (fun s wx => s = .bool (decide (k < len ∧ k < 300)) ∧ wx = wr)
    case first =>
      by_cases hlt : k < len
      · by_cases hl3 : k < 300
        · have HD : Hid _ := decide_eq_true (show k < len ∧ k < 300 from ⟨hlt, hl3⟩)
          go_wp2_with fail
          go_meet
          exact ⟨by rw [HD.out]; simp; omega, rfl⟩
        · have HD : Hid _ := decide_eq_false (show ¬ (k < len ∧ k < 300) from fun h => hl3 h.2)
          go_wp2_with fail
          go_meet
          exact ⟨by rw [HD.out]; simp; omega, rfl⟩
      · have HD : Hid _ := decide_eq_false (show ¬ (k < len ∧ k < 300) from fun h => hlt h.1)
        go_wp2_with fail
        go_meet
        exact ⟨by rw [HD.out], rfl⟩
    case rest =>
      obtain ⟨rfl, hwc⟩ := hcut
      rw [hwc]
      clear hwc wc
      by_cases hlt : k < len ∧ k < 300
      · rw [decide_eq_true hlt]
        obtain ⟨hl1, hl3⟩ := hlt
        obtain ⟨b, off, rfl, hcell⟩ := HR.out.resolve_left (by omega)
        obtain ⟨hll, hlx, hown⟩ := HI.out
        have hxc := cell_kept hown.2 _ _ (hcell k hl1)
        have hkl : (k : Int) < (len : Int) := by omega
        have hrow := hown.1
        have hsz := hown.2.size
        have HPK : Hid (∀ w2, Calls Try.prog 19 _ w2 _) := fun w2 => pick_any (R k) 65536 (HRB.out k hl1) (by decide) (by decide) 65536 rfl w2
        have HO : Hid (S16.OwnN w wr u10 l) := hown
        have HLL : Hid _ := hll
        have HLX : Hid _ := hlx
        clear hcell hown hll hlx
        go_wp2_with fail
        refine (HPK.out _).mono ?_
        rintro e w2 ⟨r, rfl, hr, hw⟩
        rw [hw]
        clear hw w2
        have hwr : IntKind.u16.wrap (r : Int) = (r : Int) := by rw [IntKind.wrap_u16]; omega
        have hll : l.length ≤ 300 := by rw [HLL.out]; exact hk2
        go_wp2_with (at_builtin; refine wpList_append_own _ rfl _ _ 52 rfl w.heap.size 57 i0 (.int .u16 0) 1 2 Try.underlying52 hi hz0 hz1 hz2 rfl (by decide) _ _ _ rfl (hrow.alloc _) ⟨wr.heap.size, 0, none⟩ 1 1 [.int .u16 (r : Int)] rfl rfl ?c1 ?c2 ?c3 ?c4 ?c5 ?_)
        case c1 =>
          intro j u hj
          match j, hj with
          | 0, hj => simp at hj; subst hj; simp [Addr.add]
        case c2 => intro u hu; simp at hu; subst hu; rfl
        case c3 => unfold maxLen; omega
        case c4 => omega
        case c5 => simp; omega
        intro v' w3 hown' hgrow _
        have HO2 : Hid _ := S16.own_snoc HO.out hown' hgrow
        clear hown' hgrow hrow
        go_wp2
        go_roundw
        case rel =>
          exact ⟨k + 1, l ++ [r], by omega, by omega, by go_num, by rw [List.length_append, HLL.out]; rfl, fun x hx => by
            rcases List.mem_append.1 hx with h | h
            · exact HLX.out x h
            · simp at h; subst h; exact hr, HO2.out⟩
        case measure => simp [intOf]; omega
      · rw [decide_eq_false hlt]
        clear hlt
        obtain ⟨hll, hlx, hown⟩ := HI.out
        have hnum := nums_own hown.1
        have hBw := hown.2
        subst hll
        obtain ⟨a1, cap1, hu, hcl⟩ := hnum.open
        subst hu
        have HNM : Hid _ := hnum
        have HLX : Hid _ := hlx
        have HCL : Hid _ := hcl
        clear hown hnum hlx hcl HI
        go_wp2_with fail
        refine (S16.newseq_any HNM.out HLX.out (by omega)).mono ?_
        rintro e w4 ⟨sb, sg, rfl, hseq, hB4⟩
        have HS : Hid _ := hseq
        clear hseq
        go_wp2_with fail
        refine (S16.len_any HS.out).mono ?_
        rintro e w5 ⟨rfl, hw⟩
        rw [hw]
        clear hw w5
        have hL3 : l.length ≤ 300 := hk2
        have hw4 := chain hBw hB4
        have HB4 : Hid _ := hB4
        have HW4 : Hid (Below w.heap.size w w4) := hw4
        clear hB4 hw4 hBw
        go_wp2
        go_loopw [14] (fun c wr => ∃ i : Nat, i ≤ l.length ∧ c = .int .i64 i ∧ Below w4.heap.size w4 wr) (fun c _ => l.length - (intOf c).toNat)
        case atStart => exact ⟨0, Nat.zero_le _, rfl, Below.refl _ _⟩
        case round =>
          obtain ⟨i, hi1, rfl, hbel⟩ := hrel
          by_cases hilt : i < l.length
          · obtain ⟨x, hx⟩ := some_at' hilt
            have hxB : x < 2 ^ 16 := HLX.out x (List.mem_of_getElem? hx)
            obtain ⟨g1, off1, rfl, hxc⟩ := HCL.out i x hx
            have hs1 := HS.out.below hbel
            have hiI : (i : Int) < (l.length : Int) := by omega
            have hcle := cnt_le (eqf l x) i
            have HX : Hid (l[i]? = some x) := hx
            have HXC : Hid _ := cell_kept hbel _ _ (cell_kept HB4.out _ _ hxc)
            have HBe : Hid _ := hbel
            have HS1 : Hid _ := hs1
            clear hx hxc hbel hs1
            go_wp2_with fail
            refine (S16.at_yes HS1.out i x HX.out).mono ?_
            rintro e w5 ⟨rfl, hB5⟩
            go_wp2_with fail
            refine (S16.rank_yes (HS1.out.below hB5) x hxB i (by omega)).mono ?_
            rintro e w6 ⟨rfl, hB6⟩
            have hB56 := chain hB5 hB6
            go_wp2_with fail
            refine (S16.select_at (HS1.out.below hB56) x i HX.out _ rfl).mono ?_
            rintro e w7 ⟨rfl, hB7⟩
            have hB57 := chain hB56 hB7
            have hxc7 := cell_kept hB57 _ _ HXC.out
            have HE : Hid _ := chain HBe.out hB57
            clear hB5 hB6 hB7 hB56 hB57
            go_wp2
            go_roundw
            case rel => exact ⟨i + 1, by omega, by go_num, HE.out⟩
            case measure => simp [intOf]; omega
          · obtain rfl : i = l.length := by omega
            have hs5 := HS.out.below hbel
            have hw5 := chain HW4.out hbel
            have HS5 : Hid _ := hs5
            have HW5 : Hid _ := hw5
            clear hbel hs5 hw5
            go_wp2_with fail
            refine (pick_any from_ (l.length + 1) H1.out (by omega) (by omega) _ (by omega) _).mono ?_
            rintro e w5 ⟨a, rfl, ha, hw⟩
            rw [hw]
            clear hw w5
            go_wp2_with fail
            refine (pick_any to_ (l.length + 1 - a) H2.out (by omega) (by omega) _ (by omega) _).mono ?_
            rintro e w5 ⟨p, rfl, hp, hw⟩
            rw [hw]
            clear hw w5
            obtain ⟨b, hb⟩ : ∃ b : Nat, (a : Int) + (p : Int) = (b : Int) := ⟨a + p, by omega⟩
            have hab : a ≤ b := by omega
            have hbl : b ≤ l.length := by omega
            have hnew : Below wr.heap.size wr (wr.alloc (.cells #[.int .i64 (a : Int), .int .i64 (b : Int)] 32)) := (Below.refl _ _).alloc (Nat.le_refl _) _
            have HX : Hid _ := box2_new wr (.int .i64 (a : Int)) (.int .i64 (b : Int)) 32
            have HS6 : Hid _ := HS5.out.below hnew
            have HW6 : Hid _ := chain HW5.out hnew
            clear hnew
            have c1 := bel_le l a b 65535
            have c2 := cnt_le (eqf l 65535) b
            have c3 := cnt_le (eqf l 65535) a
            have c4 := eqn_cnt (l := l) 65535 hab hbl
            have c5 := bel_all (l := l) (c := 65535) (fun z hz => by have := HLX.out z hz; omega) hab hbl
            have hT : ((bel l a b 65535 : Int) + (cnt (eqf l 65535) b : Int) - (cnt (eqf l 65535) a : Int) != (b : Int) - (a : Int)) = false := by
              rw [bne_eq_false_iff_eq]; omega
            have C4 : Hid _ := c4
            have C5 : Hid _ := c5
            clear c4 c5
            go_wp2_with fail
            refine (S16.below_yes HS6.out 65535 a b (by decide) hab hbl).mono ?_
            rintro e w6 ⟨rfl, hB6⟩
            go_wp2_with fail
            refine (S16.rank_yes (HS6.out.below hB6) 65535 (by decide) b hbl).mono ?_
            rintro e w7 ⟨rfl, hB7⟩
            have hB67 := chain hB6 hB7
            go_wp2_with fail
            refine (S16.rank_yes (HS6.out.below hB67) 65535 (by decide) a (by omega)).mono ?_
            rintro e w8 ⟨rfl, hB8⟩
            have hB68 := chain hB67 hB8
            have hX8 := HX.out.below hB68
            have x0 := hX8.c0
            have x1 := hX8.c1
            have HS8 : Hid _ := HS6.out.below hB68
            have HW8 : Hid _ := chain HW6.out hB68
            have HX8 : Hid _ := hX8
            clear hB6 hB7 hB67 hB8 hB68 hX8
            by_cases hee : a = b
            · subst hee
              go_wp2_with fail
              refine (S16.least_no HS8.out _ _ _ (.inr (.inr (by omega)))).mono ?_
              rintro e w9 ⟨rfl, hB9⟩
              go_wp2
              go_ret
              exact ⟨rfl, chain HW8.out hB9⟩
            · have heI : ((a : Int) == (b : Int)) = false := by simp; omega
              go_wp2_with fail
              refine (pick_any kk (b - a) H3.out (by omega) (by omega) _ (by omega) _).mono ?_
              rintro e w9 ⟨j, rfl, hj, hw⟩
              rw [hw]
              clear hw w9
              go_wp2_with fail
              refine (S16.least_yes HS8.out a b j hab hbl hj).mono ?_
              rintro e w9 ⟨c, rfl, ⟨hc1, hc2, hc3⟩, hB9⟩
              have hX9 := HX8.out.below hB9
              have y0 := hX9.c0
              have y1 := hX9.c1
              have d1 := bel_le l a b c
              have d2 := cnt_le (eqf l c) b
              have d3 := cnt_le (eqf l c) a
              have d4 := eqn_cnt (l := l) c hab hbl
              have e1 : (bel l a b c : Int) ≤ (j : Int) := by omega
              have e2 : (j : Int) < (bel l a b c : Int) + (cnt (eqf l c) b : Int) - (cnt (eqf l c) a : Int) := by omega
              have D4 : Hid _ := d4
              clear d4 hc1 hc2
              go_wp2_with fail
              refine (S16.below_yes (HS8.out.below hB9) c a b hc3 hab hbl).mono ?_
              rintro e w10 ⟨rfl, hB10⟩
              have hB910 := chain hB9 hB10
              go_wp2_with fail
              refine (S16.rank_yes (HS8.out.below hB910) c hc3 b hbl).mono ?_
              rintro e w11 ⟨rfl, hB11⟩
              have hB911 := chain hB910 hB11
              go_wp2_with fail
              refine (S16.rank_yes (HS8.out.below hB911) c hc3 a (by omega)).mono ?_
              rintro e w12 ⟨rfl, hB12⟩
              have HE : Hid _ := chain HW8.out (chain hB911 hB12)
              clear hB9 hB10 hB910 hB11 hB911 hB12 hX9
              go_wp2
              go_ret
              exact ⟨rfl, HE.out⟩
end Go.Proofs.Ytphjbbbnbmafnaa

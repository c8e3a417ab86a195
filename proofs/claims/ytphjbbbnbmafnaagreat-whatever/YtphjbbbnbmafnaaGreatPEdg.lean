/-
  The program's reading of edges, walked.
-/
import Derived.Test.YtphjbbbnbmafnaaGreatPRdE
import Derived.RangeFuncBox
namespace Go.Proofs.YtphjbbbnbmafnaaGreat.G
open Go.RowKit

/-- the reading of where edges are from ends here -/
def Stop (t : List Bool) (a n E K : Nat) : Prop := (∀ k < K, (rdf t a k).2 < n ∧ (rdf t a k).1.length ≤ E) ∧ ¬ ((rdf t a K).2 < n ∧ (rdf t a K).1.length ≤ E)
/-- the edges that are read -/
def edg (t : List Bool) (a n s K : Nat) : List E3 :=
  lst (rdf t a K).1 (fun i => numOf (sub t (a + K + i * wid (s - 1)) (wid (s - 1)))) (fun i => numOf (sub t (a + K + (rdf t a K).1.length * wid (s - 1) + i * wid (n - 1)) (wid (n - 1)))) (rdf t a K).1.length (rdf t a K).1.length
set_option maxHeartbeats 4000000 in
set_option maxRecDepth 100000 in
theorem rdedges_any (b : Nat) (t : List Bool) (a n s E : Nat) (w : World) (h : Rd b t (mv t 0 a) w) (ht : t.length ≤ 100000000) (hn : 1 ≤ n ∧ n ≤ 10000) (hs : 1 ≤ s ∧ s ≤ 26) (hE : E ≤ 20000) :
    Calls Tryz.prog 36 #[.pointer (some ⟨b, 0, none⟩), .agg #[.int .i64 (n : Int), .int .i64 (s : Int), .int .i64 (E : Int)]] w fun e w' => ∃ K v a', Stop t a n E K ∧ e = .returned v ∧ w'.ownsRow (w.heap.size + 1) 26 3 v (edg t a n s K).length (flat (edg t a n s K)) ∧ Rd b t a' w' ∧ w.grownBy w' (some b) := by
  have hb : b < w.heap.size := (Array.getElem?_eq_some_iff.1 h).1
  obtain ⟨i0, hi, hinfo⟩ := Option.map_eq_some_iff.1 Tryz.infoE
  have hz0 : i0.zero = some (.agg #[.int .i64 0, .int .i64 0, .int .i64 0]) := congrArg (fun x => x.1) hinfo
  have hz1 : i0.size = 3 := congrArg (fun x => x.2.1) hinfo
  have hz2 : i0.bytes = 24 := congrArg (fun x => x.2.2) hinfo
  clear hinfo
  have H0 : Hid (St w b t n s E (.slice none 0 0) (lst [] (fun _ => 0) (fun _ => 0) 0 0) (mv t 0 (a + 0)) (w.alloc (.cells #[.int .i64 (n : Int), .int .i64 (s : Int), .int .i64 (E : Int)] 32))) := (by
    exact ⟨World.ownsRow_nil _ _ _ _, rd_kept h (World.grownBy_alloc w _ none) (by simp), heap_alloc_new _ _, World.grownBy_alloc w _ _⟩ : St _ _ _ _ _ _ _ _ _ _)
  clear h
  go_enter Tryz.func36, Tryz.ntmps36
  go_wp2
  go_loopw [5, 6] (fun sv su wr => ∃ (k : Nat) (fs : List Nat) (u : Nat), u ≤ n ∧ fs.length ≤ E + 1 ∧ su = .int .i64 (u : Int) ∧ (∃ a0 cap, sv = .slice a0 fs.length cap) ∧ Hid (rdf t a k = (fs, u) ∧ St w b t n s E sv (lst fs (fun _ => 0) (fun _ => 0) 0 0) (mv t 0 (a + k)) wr ∧ ∀ j < k, (rdf t a j).2 < n ∧ (rdf t a j).1.length ≤ E)) (fun sv su _ => (n - (intOf su).toNat) + (E + 1 - lenV sv))
  case atStart => exact ⟨0, [], 0, Nat.zero_le _, Nat.zero_le _, rfl, ⟨none, 0, rfl⟩, rfl, H0.out, fun j hj => by omega⟩
  case round =>
    obtain ⟨k, fs, u, hk1, hk2, rfl, ⟨a0, cap, rfl⟩, HI⟩ := hrel
    obtain ⟨c0, c1, c2⟩ := HI.out.2.1.box
    by_cases hgo : u < n ∧ fs.length ≤ E
    · obtain ⟨hlt, hle⟩ := hgo
      have hC := rdbit_any b t (mv t 0 (a + k)) wr HI.out.2.1.2.1 ht (by unfold mv; omega)
      rw [mv_nx, mv_getD, Nat.zero_add] at hC
      have HC : Hid (Calls Tryz.prog 65 _ wr _) := hC
      clear hC
      have HJ : Hid (∀ j < k + 1, (rdf t a j).2 < n ∧ (rdf t a j).1.length ≤ E) := (by
        intro j hj
        rcases Nat.lt_succ_iff_lt_or_eq.1 hj with h | h
        · exact HI.out.2.2 j h
        · rw [h, HI.out.1]; exact ⟨hlt, hle⟩ : ∀ j < k + 1, _)
      cases hbit : t.getD (a + k) false
      · have HF : Hid (rdf t a (k + 1) = (fs, u + 1)) := (by show (if t.getD (a + k) false then _ else _) = _; rw [hbit, HI.out.1]; rfl : _ = _)
        rw [hbit] at HC
        clear hbit
        go_wp2_with fail
        refine (Calls.mono HC.out ?_)
        rintro e w2 ⟨rfl, hr2, hg2⟩
        have HI2 : Hid (rdf t a (k + 1) = (fs, u + 1) ∧ St w b t n s E (.slice a0 fs.length cap) (lst fs (fun _ => 0) (fun _ => 0) 0 0) (mv t 0 (a + (k + 1))) w2 ∧ ∀ j < k + 1, (rdf t a j).2 < n ∧ (rdf t a j).1.length ≤ E) := (⟨HF.out, HI.out.2.1.read hb hr2 hg2, HJ.out⟩ : _ ∧ _)
        clear hr2 hg2
        go_wp2
        go_roundw
        case rel => exact ⟨k + 1, fs, u + 1, by omega, by omega, by go_num, ⟨a0, cap, rfl⟩, HI2.out⟩
        case measure => simp [intOf, lenV]; omega
      · have HF : Hid (rdf t a (k + 1) = (fs ++ [u], u)) := (by show (if t.getD (a + k) false then _ else _) = _; rw [hbit, HI.out.1]; rfl : _ = _)
        rw [hbit] at HC
        clear hbit
        go_wp2_with fail
        refine (Calls.mono HC.out ?_)
        rintro e w2 ⟨rfl, hr2, hg2⟩
        have HS2 : Hid (St w b t n s E (.slice a0 fs.length cap) (lst fs (fun _ => 0) (fun _ => 0) 0 0) (mv t 0 (a + (k + 1))) w2) := HI.out.2.1.read hb hr2 hg2
        clear hr2 hg2
        have hrow := HS2.out.1
        have hsz : w.heap.size < w2.heap.size := (Array.getElem?_eq_some_iff.1 HS2.out.2.2.1).1
        have hln := lst_len fs (fun _ => 0) (fun _ => 0) 0 0
        go_wp2_with (at_builtin; refine wpList_append_own _ rfl _ _ 27 rfl (w.heap.size + 1) 26 i0 (.agg #[.int .i64 0, .int .i64 0, .int .i64 0]) 3 24 Tryz.underlying27 hi hz0 hz1 hz2 rfl (by decide) _ _ _ rfl (hrow.alloc _) ⟨w2.heap.size, 0, none⟩ 1 1 [.int .i64 (u : Int), .int .i64 0, .int .i64 0] rfl rfl (src3 _ _ _ _ _) (one3 _ _ _) (by unfold maxLen; omega) (by omega) (by simp; omega) ?_; intro v' w3 hown hgrow hnil)
        have HO2 : Hid _ := HS2.out.app (e := ((u : Int), 0, 0)) hb hown hgrow
        rw [hln] at hown
        obtain ⟨g', cap', rfl⟩ := ownsRow_succ hown
        clear hown hgrow hnil hrow
        refine ⟨⟨k + 1, fs ++ [u], u, by omega, by simp; omega, rfl, ⟨_, cap', by rw [List.length_append]; rfl⟩, HF.out, by rw [lst_new]; exact HO2.out, HJ.out⟩, ?_⟩
        simp [lenV]; omega
    · have HStop : Hid (Stop t a n E k) := (⟨HI.out.2.2, by rw [HI.out.1]; exact hgo⟩ : Stop t a n E k)
      have hw1 := wid_le (s - 1) (by omega)
      have hw2 := wid_le (n - 1) (by omega)
      have HF : Hid _ := HI.out.1
      have HW1 : ∀ W, Hid (Calls Tryz.prog 58 _ W _) := fun W => pwidth_any s hs.1 (by omega) W
      have HW2 : ∀ W, Hid (Calls Tryz.prog 58 _ W _) := fun W => pwidth_any n hn.1 (by omega) W
      obtain ⟨lb, hlb⟩ : ∃ lb : Nat → Nat, lb = fun i => numOf (sub t (a + k + i * wid (s - 1)) (wid (s - 1))) := ⟨_, rfl⟩
      obtain ⟨tb, htb⟩ : ∃ tb : Nat → Nat, tb = fun i => numOf (sub t (a + k + fs.length * wid (s - 1) + i * wid (n - 1)) (wid (n - 1))) := ⟨_, rfl⟩
      have HEdg : Hid (edg t a n s k = lst fs lb tb fs.length fs.length) := (by unfold edg; rw [HF.out, hlb, htb] : _ = _)
      have HLB : Hid _ := hlb
      have HTB : Hid _ := htb
      clear hlb htb
      have HS0 : Hid (St w b t n s E (.slice a0 fs.length cap) (lst fs lb tb 0 0) (mv t 0 (a + k + 0 * wid (s - 1))) wr) := (by
        have h := HI.out.2.1
        rw [show a + k + 0 * wid (s - 1) = a + k by omega]
        exact h : St _ _ _ _ _ _ _ _ _ _)
      clear HI
      rcases Nat.lt_or_ge u n with hun | hun
      · have hle : ¬ fs.length ≤ E := fun h => hgo ⟨hun, h⟩
        clear hgo
        go_wp2
        go_loopw [32] (fun si wr => ∃ i : Nat, i ≤ fs.length ∧ si = .int .i64 (i : Int) ∧ Hid (St w b t n s E (.slice a0 fs.length cap) (lst fs lb tb i 0) (mv t 0 (a + k + i * wid (s - 1))) wr)) (fun si _ => fs.length - (intOf si).toNat)
        case atStart => exact ⟨0, Nat.zero_le _, rfl, HS0.out⟩
        case round =>
          obtain ⟨i, hi2, rfl, HI⟩ := hrel
          by_cases hlt2 : i < fs.length
          · obtain ⟨g, rfl⟩ := HI.out.some (lst_len _ _ _ _ _) (by omega)
            have d1 := HI.out.box.2.1
            clear c0 c1 c2
            have hC := rdnum_any b t (mv t 0 (a + k + i * wid (s - 1))) (wid (s - 1)) wr HI.out.2.1 ht (by unfold mv; omega) (by omega)
            rw [mv_mv, mv_sub, Nat.zero_add, show a + k + i * wid (s - 1) + wid (s - 1) = a + k + (i + 1) * wid (s - 1) by rw [Nat.add_mul]; omega] at hC
            have HV : Hid (numOf (sub t (a + k + i * wid (s - 1)) (wid (s - 1))) = lb i) := (by rw [HLB.out] : _ = _)
            rw [HV.out] at hC
            have HC : Hid (Calls Tryz.prog 64 _ wr _) := hC
            clear hC
            go_wp2_with fail
            refine (Calls.mono (HW1 _).out ?_)
            rintro e w1 ⟨rfl, hw1e⟩
            rw [hw1e]
            clear hw1e w1
            go_wp2_with fail
            refine (Calls.mono HC.out ?_)
            rintro e w2 ⟨rfl, hr2, hg2⟩
            have HS2 : Hid (St w b t n s E (.slice (some ⟨g, 0, none⟩) fs.length cap) (lst fs lb tb i 0) (mv t 0 (a + k + (i + 1) * wid (s - 1))) w2) := HI.out.read hb hr2 hg2
            clear hr2 hg2
            have hcl := (HS2.out.cellAt (lst_len _ _ _ _ _) (lst_at fs lb tb i 0 i hlt2)).1.1
            have hfr := (HS2.out.cellAt (lst_len _ _ _ _ _) (lst_at fs lb tb i 0 i hlt2)).1.2
            have HS3 : Hid (St w b t n s E (.slice (some ⟨g, 0, none⟩) fs.length cap) (lst fs lb tb (i + 1) 0) (mv t 0 (a + k + (i + 1) * wid (s - 1))) (w2.setCell ⟨g, i * 3 + 1, none⟩ (.int .i64 (lb i : Int)))) := HS2.out.put hb (lst_lab fs lb tb i 0 hlt2) (lst_len _ _ _ _ _) (lst_len _ _ _ _ _)
            go_wp2
            go_roundw
            case rel => exact ⟨i + 1, by omega, by go_num, HS3.out⟩
            case measure => simp [intOf]; omega
          · obtain rfl : i = fs.length := by omega
            have HS1 : Hid (St w b t n s E (.slice a0 fs.length cap) (lst fs lb tb fs.length 0) (mv t 0 (a + k + fs.length * wid (s - 1) + 0 * wid (n - 1))) wr) := (by
              have h := HI.out
              rw [show a + k + fs.length * wid (s - 1) + 0 * wid (n - 1) = a + k + fs.length * wid (s - 1) by omega]
              exact h : St _ _ _ _ _ _ _ _ _ _)
            clear HI c0 c1 c2
            go_wp2
            go_loopw [47] (fun si wr => ∃ i : Nat, i ≤ fs.length ∧ si = .int .i64 (i : Int) ∧ Hid (St w b t n s E (.slice a0 fs.length cap) (lst fs lb tb fs.length i) (mv t 0 (a + k + fs.length * wid (s - 1) + i * wid (n - 1))) wr)) (fun si _ => fs.length - (intOf si).toNat)
            case atStart => exact ⟨0, Nat.zero_le _, rfl, HS1.out⟩
            case round =>
              obtain ⟨i, hi3, rfl, HI⟩ := hrel
              by_cases hlt3 : i < fs.length
              · obtain ⟨g, rfl⟩ := HI.out.some (lst_len _ _ _ _ _) (by omega)
                have d0 := HI.out.box.1
                have hC := rdnum_any b t (mv t 0 (a + k + fs.length * wid (s - 1) + i * wid (n - 1))) (wid (n - 1)) wr HI.out.2.1 ht (by unfold mv; omega) (by omega)
                rw [mv_mv, mv_sub, Nat.zero_add, show a + k + fs.length * wid (s - 1) + i * wid (n - 1) + wid (n - 1) = a + k + fs.length * wid (s - 1) + (i + 1) * wid (n - 1) by rw [Nat.add_mul i]; omega] at hC
                have HV : Hid (numOf (sub t (a + k + fs.length * wid (s - 1) + i * wid (n - 1)) (wid (n - 1))) = tb i) := (by rw [HTB.out] : _ = _)
                rw [HV.out] at hC
                have HC : Hid (Calls Tryz.prog 64 _ wr _) := hC
                clear hC
                go_wp2_with fail
                refine (Calls.mono (HW2 _).out ?_)
                rintro e w1 ⟨rfl, hw1e⟩
                rw [hw1e]
                clear hw1e w1
                go_wp2_with fail
                refine (Calls.mono HC.out ?_)
                rintro e w2 ⟨rfl, hr2, hg2⟩
                have HS2 : Hid (St w b t n s E (.slice (some ⟨g, 0, none⟩) fs.length cap) (lst fs lb tb fs.length i) (mv t 0 (a + k + fs.length * wid (s - 1) + (i + 1) * wid (n - 1))) w2) := HI.out.read hb hr2 hg2
                clear hr2 hg2
                have hcl := (HS2.out.cellAt (lst_len _ _ _ _ _) (lst_at fs lb tb fs.length i i hlt3)).2.1
                have hfr := (HS2.out.cellAt (lst_len _ _ _ _ _) (lst_at fs lb tb fs.length i i hlt3)).2.2
                have HS3 : Hid (St w b t n s E (.slice (some ⟨g, 0, none⟩) fs.length cap) (lst fs lb tb fs.length (i + 1)) (mv t 0 (a + k + fs.length * wid (s - 1) + (i + 1) * wid (n - 1))) (w2.setCell ⟨g, i * 3 + 2, none⟩ (.int .i64 (tb i : Int)))) := HS2.out.put hb (lst_to fs lb tb fs.length i hlt3) (lst_len _ _ _ _ _) (lst_len _ _ _ _ _)
                go_wp2
                go_roundw
                case rel => exact ⟨i + 1, by omega, by go_num, HS3.out⟩
                case measure => simp [intOf]; omega
              · obtain rfl : i = fs.length := by omega
                go_wp2
                go_ret
                exact ⟨k, _, _, HStop.out, rfl, by rw [HEdg.out]; exact HI.out.1, HI.out.2.1, HI.out.2.2.2⟩
      · have hun2 : ¬ (u : Int) < (n : Int) := by omega
        clear hgo
        go_wp2
        go_loopw [32] (fun si wr => ∃ i : Nat, i ≤ fs.length ∧ si = .int .i64 (i : Int) ∧ Hid (St w b t n s E (.slice a0 fs.length cap) (lst fs lb tb i 0) (mv t 0 (a + k + i * wid (s - 1))) wr)) (fun si _ => fs.length - (intOf si).toNat)
        case atStart => exact ⟨0, Nat.zero_le _, rfl, HS0.out⟩
        case round =>
          obtain ⟨i, hi2, rfl, HI⟩ := hrel
          by_cases hlt2 : i < fs.length
          · obtain ⟨g, rfl⟩ := HI.out.some (lst_len _ _ _ _ _) (by omega)
            have d1 := HI.out.box.2.1
            clear c0 c1 c2
            have hC := rdnum_any b t (mv t 0 (a + k + i * wid (s - 1))) (wid (s - 1)) wr HI.out.2.1 ht (by unfold mv; omega) (by omega)
            rw [mv_mv, mv_sub, Nat.zero_add, show a + k + i * wid (s - 1) + wid (s - 1) = a + k + (i + 1) * wid (s - 1) by rw [Nat.add_mul]; omega] at hC
            have HV : Hid (numOf (sub t (a + k + i * wid (s - 1)) (wid (s - 1))) = lb i) := (by rw [HLB.out] : _ = _)
            rw [HV.out] at hC
            have HC : Hid (Calls Tryz.prog 64 _ wr _) := hC
            clear hC
            go_wp2_with fail
            refine (Calls.mono (HW1 _).out ?_)
            rintro e w1 ⟨rfl, hw1e⟩
            rw [hw1e]
            clear hw1e w1
            go_wp2_with fail
            refine (Calls.mono HC.out ?_)
            rintro e w2 ⟨rfl, hr2, hg2⟩
            have HS2 : Hid (St w b t n s E (.slice (some ⟨g, 0, none⟩) fs.length cap) (lst fs lb tb i 0) (mv t 0 (a + k + (i + 1) * wid (s - 1))) w2) := HI.out.read hb hr2 hg2
            clear hr2 hg2
            have hcl := (HS2.out.cellAt (lst_len _ _ _ _ _) (lst_at fs lb tb i 0 i hlt2)).1.1
            have hfr := (HS2.out.cellAt (lst_len _ _ _ _ _) (lst_at fs lb tb i 0 i hlt2)).1.2
            have HS3 : Hid (St w b t n s E (.slice (some ⟨g, 0, none⟩) fs.length cap) (lst fs lb tb (i + 1) 0) (mv t 0 (a + k + (i + 1) * wid (s - 1))) (w2.setCell ⟨g, i * 3 + 1, none⟩ (.int .i64 (lb i : Int)))) := HS2.out.put hb (lst_lab fs lb tb i 0 hlt2) (lst_len _ _ _ _ _) (lst_len _ _ _ _ _)
            go_wp2
            go_roundw
            case rel => exact ⟨i + 1, by omega, by go_num, HS3.out⟩
            case measure => simp [intOf]; omega
          · obtain rfl : i = fs.length := by omega
            have HS1 : Hid (St w b t n s E (.slice a0 fs.length cap) (lst fs lb tb fs.length 0) (mv t 0 (a + k + fs.length * wid (s - 1) + 0 * wid (n - 1))) wr) := (by
              have h := HI.out
              rw [show a + k + fs.length * wid (s - 1) + 0 * wid (n - 1) = a + k + fs.length * wid (s - 1) by omega]
              exact h : St _ _ _ _ _ _ _ _ _ _)
            clear HI c0 c1 c2
            go_wp2
            go_loopw [47] (fun si wr => ∃ i : Nat, i ≤ fs.length ∧ si = .int .i64 (i : Int) ∧ Hid (St w b t n s E (.slice a0 fs.length cap) (lst fs lb tb fs.length i) (mv t 0 (a + k + fs.length * wid (s - 1) + i * wid (n - 1))) wr)) (fun si _ => fs.length - (intOf si).toNat)
            case atStart => exact ⟨0, Nat.zero_le _, rfl, HS1.out⟩
            case round =>
              obtain ⟨i, hi3, rfl, HI⟩ := hrel
              by_cases hlt3 : i < fs.length
              · obtain ⟨g, rfl⟩ := HI.out.some (lst_len _ _ _ _ _) (by omega)
                have d0 := HI.out.box.1
                have hC := rdnum_any b t (mv t 0 (a + k + fs.length * wid (s - 1) + i * wid (n - 1))) (wid (n - 1)) wr HI.out.2.1 ht (by unfold mv; omega) (by omega)
                rw [mv_mv, mv_sub, Nat.zero_add, show a + k + fs.length * wid (s - 1) + i * wid (n - 1) + wid (n - 1) = a + k + fs.length * wid (s - 1) + (i + 1) * wid (n - 1) by rw [Nat.add_mul i]; omega] at hC
                have HV : Hid (numOf (sub t (a + k + fs.length * wid (s - 1) + i * wid (n - 1)) (wid (n - 1))) = tb i) := (by rw [HTB.out] : _ = _)
                rw [HV.out] at hC
                have HC : Hid (Calls Tryz.prog 64 _ wr _) := hC
                clear hC
                go_wp2_with fail
                refine (Calls.mono (HW2 _).out ?_)
                rintro e w1 ⟨rfl, hw1e⟩
                rw [hw1e]
                clear hw1e w1
                go_wp2_with fail
                refine (Calls.mono HC.out ?_)
                rintro e w2 ⟨rfl, hr2, hg2⟩
                have HS2 : Hid (St w b t n s E (.slice (some ⟨g, 0, none⟩) fs.length cap) (lst fs lb tb fs.length i) (mv t 0 (a + k + fs.length * wid (s - 1) + (i + 1) * wid (n - 1))) w2) := HI.out.read hb hr2 hg2
                clear hr2 hg2
                have hcl := (HS2.out.cellAt (lst_len _ _ _ _ _) (lst_at fs lb tb fs.length i i hlt3)).2.1
                have hfr := (HS2.out.cellAt (lst_len _ _ _ _ _) (lst_at fs lb tb fs.length i i hlt3)).2.2
                have HS3 : Hid (St w b t n s E (.slice (some ⟨g, 0, none⟩) fs.length cap) (lst fs lb tb fs.length (i + 1)) (mv t 0 (a + k + fs.length * wid (s - 1) + (i + 1) * wid (n - 1))) (w2.setCell ⟨g, i * 3 + 2, none⟩ (.int .i64 (tb i : Int)))) := HS2.out.put hb (lst_to fs lb tb fs.length i hlt3) (lst_len _ _ _ _ _) (lst_len _ _ _ _ _)
                go_wp2
                go_roundw
                case rel => exact ⟨i + 1, by omega, by go_num, HS3.out⟩
                case measure => simp [intOf]; omega
              · obtain rfl : i = fs.length := by omega
                go_wp2
                go_ret
                exact ⟨k, _, _, HStop.out, rfl, by rw [HEdg.out]; exact HI.out.1, HI.out.2.1, HI.out.2.2.2⟩
end Go.Proofs.YtphjbbbnbmafnaaGreat.G

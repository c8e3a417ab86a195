/-
  The walk of trellislaw.Vectors: over any two texts of at most 1048576 letters and any script it returns true, and nothing that was there is written.
-/
import Derived.Test.YtphjbbbnbmafnaaRef
import Derived.Test.YtphjbbbnbmafnaaShown
namespace Go.Proofs.Ytphjbbbnbmafnaa
open Go.RowKit

theorem chain {w a b : World} (h1 : Below w.heap.size w a) (h2 : Below a.heap.size a b) : Below w.heap.size w b := h1.trans (h2.mono h1.size)

/-- a script in memory: six numbers a step -/
def ScriptAt (w : World) (a0 : Option Addr) (len : Nat) (E : Nat → Nat → Int) : Prop :=
  len = 0 ∨ ∃ b off, a0 = some ⟨b, off, none⟩ ∧ ∀ i, i < len → ∀ c, c < 6 → w.cell? ⟨b, off + i * 6 + c, none⟩ = some (.int .i64 (E i c))
theorem ScriptAt.below {w w' : World} {a0 : Option Addr} {len : Nat} {E : Nat → Nat → Int} (h : ScriptAt w a0 len E) (hB : Below w.heap.size w w') : ScriptAt w' a0 len E := by
  rcases h with h | ⟨b, off, ha, hc⟩
  · exact .inl h
  · exact .inr ⟨b, off, ha, fun i hi c h6 => cell_kept hB _ _ (hc i hi c h6)⟩

/-- a vector of the program beside the document's list; or none -/
def Side (w : World) (p v : Value) : Prop :=
  (p = .pointer none ∧ ∃ a n c, v = .slice a n c) ∨ ∃ b bw ba W f n, p = .pointer (some ⟨b, 0, none⟩) ∧ BitsAt w b bw ba f n W ∧ ListAt w v f n
theorem Side.below {w w' : World} {p v : Value} (h : Side w p v) (hB : Below w.heap.size w w') : Side w' p v := by
  rcases h with h | ⟨b, bw, ba, W, f, n, hp, hb, hl⟩
  · exact .inl h
  · exact .inr ⟨b, bw, ba, W, f, n, hp, hb.below hB, hl.below hB⟩

theorem own_slice {w : World} {B n : Nat} {e : TypeId} {v : Value} {xs : List Value} (h : w.ownsRow B e 1 v n xs) : ∃ a m c, v = .slice a m c := by
  rcases h.2 with ⟨rfl, _⟩ | ⟨g, cap, cur, rfl, _⟩
  · exact ⟨_, _, _, rfl⟩
  · exact ⟨_, _, _, rfl⟩
theorem sample_sel : cnt (bitOf sample) 4 = 2 ∧ bitOf sample 4 = true ∧ cnt (bitOf sample) sample.size = 3 := by decide

set_option maxHeartbeats 4000000 in
set_option maxRecDepth 100000 in
theorem vectors_walk (s t : ByteArray) (a0 : Option Addr) (len cap : Nat) (E : Nat → Nat → Int) (w : World) (hs : s.size ≤ 1048576) (ht : t.size ≤ 1048576) (hsc : ScriptAt w a0 len E) (hlen : len ≤ 1048576) :
    Calls Try.prog 3 #[.string s, .string t, .slice a0 len cap] w fun e w' => e = .returned (.bool true) ∧ Below w.heap.size w w' := by
  have hs' : s.size ≤ maxLen := by unfold maxLen; omega
  have ht' : t.size ≤ maxLen := by unfold maxLen; omega
  have HS : Hid (ScriptAt w a0 len E) := hsc
  clear hsc
  go_enter Try.func3, Try.ntmps3
  go_wp2_with fail
  change Calls Try.prog 9 #[.string sample] _ _
  refine (lawbits_any sample w (by decide)).mono ?_
  rintro e w1 ⟨hB1, ⟨hf, rfl⟩ | ⟨_, xb, xbw, xba, xW, rfl, hx⟩⟩
  · rw [sample_ok] at hf; cases hf
  go_wp2_with fail
  refine (lawbits_any s _ hs').mono ?_
  rintro e w2 ⟨hB2, hpa0⟩
  obtain ⟨pa, rfl, hpa⟩ : ∃ pa, e = .returned (.tuple #[pa, .bool true]) ∧ ((okB s = false ∧ pa = .pointer none) ∨ (okB s = true ∧ ∃ b bw ba W, pa = .pointer (some ⟨b, 0, none⟩) ∧ BitsAt w2 b bw ba (bitOf s) s.size W)) := by
    rcases hpa0 with ⟨h, rfl⟩ | ⟨h, b, bw, ba, W, rfl, hb⟩
    · exact ⟨_, rfl, .inl ⟨h, rfl⟩⟩
    · exact ⟨_, rfl, .inr ⟨h, b, bw, ba, W, rfl, hb⟩⟩
  have HA : Hid _ := hpa
  clear hpa hpa0
  go_wp2_with fail
  refine (lawbits_any t _ ht').mono ?_
  rintro e w3 ⟨hB3, hpb0⟩
  obtain ⟨pb, rfl, hpb⟩ : ∃ pb, e = .returned (.tuple #[pb, .bool true]) ∧ ((okB t = false ∧ pb = .pointer none) ∨ (okB t = true ∧ ∃ b bw ba W, pb = .pointer (some ⟨b, 0, none⟩) ∧ BitsAt w3 b bw ba (bitOf t) t.size W)) := by
    rcases hpb0 with ⟨h, rfl⟩ | ⟨h, b, bw, ba, W, rfl, hb⟩
    · exact ⟨_, rfl, .inl ⟨h, rfl⟩⟩
    · exact ⟨_, rfl, .inr ⟨h, b, bw, ba, W, rfl, hb⟩⟩
  have HB : Hid _ := hpb
  clear hpb hpb0
  have hx3 := (hx.below hB2).below hB3
  go_wp2_with fail
  have hr := rank_yes hx3 3 (by decide)
  rw [sample_cnt.1] at hr
  refine hr.mono ?_
  clear hr
  rintro e w4 ⟨rfl, q1, rfl⟩
  go_wp2_with fail
  refine (select_yes (hx3.drewN q1) 2 (by rw [sample_sel.2.2]; decide)).mono ?_
  rintro e w4 ⟨z, rfl, _, hz1, hz2, hB4⟩
  obtain rfl : z = 4 := cnt_uniq (bitOf sample) hz1 sample_sel.2.1 (by rw [hz2, sample_sel.1])
  clear hz1 hz2
  go_wp2_with fail
  refine (ones_list s _ hs).mono ?_
  rintro e w5 ⟨va, rfl, hva, hB5⟩
  have HVA : Hid _ := hva
  clear hva
  go_wp2_with fail
  refine (ones_list t _ ht).mono ?_
  rintro e w6 ⟨vb, rfl, hvb, hB6⟩
  have HVB : Hid _ := hvb
  clear hvb
  have hB35 := chain (below_drewN (Below.refl w3.heap.size w3) q1) hB4
  have hB36 := chain (chain hB35 hB5) hB6
  have hB26 := chain hB3 hB36
  have hB06 := chain (chain hB1 hB2) hB26
  have SA : Hid (Side w6 pa va) := by
    rcases HA.out with ⟨_, rfl⟩ | ⟨hok, b, bw, ba, W, rfl, hb⟩
    · exact .inl ⟨rfl, own_slice HVA.out⟩
    · exact .inr ⟨b, bw, ba, W, bitOf s, s.size, rfl, hb.below hB26, (list_of hok HVA.out).below hB6⟩
  have SB : Hid (Side w6 pb vb) := by
    rcases HB.out with ⟨_, rfl⟩ | ⟨hok, b, bw, ba, W, rfl, hb⟩
    · exact .inl ⟨rfl, own_slice HVB.out⟩
    · exact .inr ⟨b, bw, ba, W, bitOf t, t.size, rfl, hb.below hB36, list_of hok HVB.out⟩
  have SC : Hid (ScriptAt w6 a0 len E) := HS.out.below hB06
  have BW : Hid (Below w.heap.size w w6) := hB06
  clear HA HB HVA HVB HS hB35 hB36 hB26 hB06 hB1 hB2 hB3 hB4 hB5 hB6 hx hx3 hs' ht'
  go_wp2
  go_loopw [19] (fun c wr => ∃ k : Nat, k ≤ len ∧ c = .int .i64 k ∧ Below w6.heap.size w6 wr) (fun c _ => len - (intOf c).toNat)
  case atStart => exact ⟨0, Nat.zero_le _, rfl, Below.refl _ _⟩
  case round =>
    obtain ⟨k, hk, rfl, hbel⟩ := hrel
    by_cases hlt : k < len
    · obtain ⟨b, off, rfl, hcell⟩ := (SC.out.below hbel).resolve_left (by omega)
      have e0 := hcell k hlt 0 (by decide)
      have e1 := hcell k hlt 1 (by decide)
      have e2 := hcell k hlt 2 (by decide)
      have e3 := hcell k hlt 3 (by decide)
      have e4 := hcell k hlt 4 (by decide)
      have e5 := hcell k hlt 5 (by decide)
      simp only [Nat.add_zero] at e0
      have hkl : (k : Int) < (len : Int) := by omega
      clear hcell
      cases hH : (bits BinOp.and IntKind.i64 (E k 1) 1 == 1)
      · have HSD : Hid (Side wr pa va) := SA.out.below hbel
        rcases HSD.out with ⟨rfl, a, m, c, rfl⟩ | ⟨vb0, bw, ba, W, f, n, rfl, hvec, hlist⟩
        · go_wp2
          go_roundw
          case rel => exact ⟨k + 1, by omega, by go_num, hbel.alloc hbel.size _⟩
          case measure => simp [intOf]; omega
        · have hnew : ∀ o, Below wr.heap.size wr (wr.alloc o) := fun o => (Below.refl _ _).alloc (Nat.le_refl _) o
          have HN : Hid _ := hnew
          have hn := hvec.hn
          obtain ⟨la, lc, rfl, _⟩ := id hlist
          have HV : Hid (BitsAt wr vb0 bw ba f n W) := hvec
          have HL : Hid (ListAt wr (.slice la n lc) f n) := hlist
          have HBe : Hid (Below w6.heap.size w6 wr) := hbel
          clear hvec hlist hnew hbel
          by_cases k1 : (E k 0 == 1) = true
          · go_wp2_with fail
            refine (len_any (HV.out.below (HN.out _))).mono ?_
            rintro e wy ⟨rfl, rfl⟩
            go_wp2
            go_roundw
            case rel => exact ⟨k + 1, by omega, by go_num, HBe.out.alloc HBe.out.size _⟩
            case measure => simp [intOf]; omega
          · have k1' : (E k 0 == 1) = false := by simpa using k1
            clear k1
            by_cases k2 : (E k 0 == 2) = true
            · by_cases hi : 0 ≤ E k 3 ∧ E k 3 ≤ (n : Int)
              · obtain ⟨ik, hik⟩ : ∃ ik : Nat, E k 3 = (ik : Int) := ⟨(E k 3).toNat, by omega⟩
                have hin : ik ≤ n := by omega
                rw [hik] at e3
                clear hi hik
                go_wp2_with fail
                refine (rank_yes (HV.out.below (HN.out _)) ik hin).mono ?_
                rintro e wy ⟨rfl, q2, rfl⟩
                go_wp2_with fail
                refine (refrank_yes (HL.out.below (below_drewN (HN.out _) _)) (by omega) ik hin).mono ?_
                rintro e wy ⟨rfl, rfl⟩
                go_wp2_with (go_at_call 15; refine (num_any _ _).mono ?_; rintro e wy ⟨rfl, rfl⟩)
                go_roundw
                case rel => exact ⟨k + 1, by omega, by go_num, below_drewN (HBe.out.alloc HBe.out.size _) _⟩
                case measure => simp [intOf]; omega
              · have hi' : E k 3 < 0 ∨ (n : Int) < E k 3 := by omega
                have HI : Hid _ := hi'
                clear hi hi'
                go_wp2_with fail
                refine (rank_no (HV.out.below (HN.out _)) _ HI.out).mono ?_
                rintro e wy ⟨rfl, rfl⟩
                go_wp2_with fail
                refine (refrank_no (HL.out.below (HN.out _)) (by omega) _ HI.out).mono ?_
                rintro e wy ⟨rfl, rfl⟩
                go_wp2_with (go_at_call 15; refine (num_any _ _).mono ?_; rintro e wy ⟨rfl, rfl⟩)
                go_roundw
                case rel => exact ⟨k + 1, by omega, by go_num, HBe.out.alloc HBe.out.size _⟩
                case measure => simp [intOf]; omega
            · have k2' : (E k 0 == 2) = false := by simpa using k2
              clear k2
              by_cases k3 : (E k 0 == 3) = true
              · by_cases hi : 0 ≤ E k 3 ∧ E k 3 < (cnt f n : Int)
                · obtain ⟨ik, hik⟩ : ∃ ik : Nat, E k 3 = (ik : Int) := ⟨(E k 3).toNat, by omega⟩
                  have hin : ik < cnt f n := by omega
                  rw [hik] at e3
                  clear hi hik
                  go_wp2_with fail
                  refine (select_yes (HV.out.below (HN.out _)) ik hin).mono ?_
                  rintro e wy ⟨z, rfl, hz, hz1, hz2, hBz⟩
                  have hZ := refsel_yes (HL.out.below (chain (HN.out _) hBz)) (by omega) z hz hz1
                  rw [hz2] at hZ
                  have HZ : Hid (Calls Try.prog 16 _ _ _) := hZ
                  have hq := cell_kept hBz ⟨wr.heap.size, 3, none⟩ (.int .i64 (ik : Int)) (by simp)
                  have hbz := HBe.out.trans ((chain (HN.out _) hBz).mono HBe.out.size)
                  clear hZ hz1 hz2 hBz
                  go_wp2_with fail
                  refine HZ.out.mono ?_
                  rintro e wy2 ⟨rfl, rfl⟩
                  go_wp2_with (go_at_call 15; refine (num_any _ _).mono ?_; rintro e wy2 ⟨rfl, rfl⟩)
                  go_roundw
                  case rel => exact ⟨k + 1, by omega, by go_num, hbz⟩
                  case measure => simp [intOf]; omega
                · have hi' : E k 3 < 0 ∨ (cnt f n : Int) ≤ E k 3 := by omega
                  have HI : Hid _ := hi'
                  clear hi hi'
                  go_wp2_with fail
                  refine (select_no (HV.out.below (HN.out _)) _ HI.out).mono ?_
                  rintro e wy ⟨rfl, hBz⟩
                  have hZ := refsel_no (HL.out.below (chain (HN.out _) hBz)) (by omega) _ HI.out
                  have HZ : Hid (Calls Try.prog 16 _ _ _) := hZ
                  have hq := cell_kept hBz ⟨wr.heap.size, 3, none⟩ (.int .i64 (E k 3)) (by simp)
                  have hbz := HBe.out.trans ((chain (HN.out _) hBz).mono HBe.out.size)
                  clear hZ hBz
                  go_wp2_with fail
                  refine HZ.out.mono ?_
                  rintro e wy2 ⟨rfl, rfl⟩
                  go_wp2_with (go_at_call 15; refine (num_any _ _).mono ?_; rintro e wy2 ⟨rfl, rfl⟩)
                  go_roundw
                  case rel => exact ⟨k + 1, by omega, by go_num, hbz⟩
                  case measure => simp [intOf]; omega
              · have k3' : (E k 0 == 3) = false := by simpa using k3
                clear k3
                go_wp2
                go_roundw
                case rel => exact ⟨k + 1, by omega, by go_num, HBe.out.alloc HBe.out.size _⟩
                case measure => simp [intOf]; omega
      · have HSD : Hid (Side wr pb vb) := SB.out.below hbel
        rcases HSD.out with ⟨rfl, a, m, c, rfl⟩ | ⟨vb0, bw, ba, W, f, n, rfl, hvec, hlist⟩
        · go_wp2
          go_roundw
          case rel => exact ⟨k + 1, by omega, by go_num, hbel.alloc hbel.size _⟩
          case measure => simp [intOf]; omega
        · have hnew : ∀ o, Below wr.heap.size wr (wr.alloc o) := fun o => (Below.refl _ _).alloc (Nat.le_refl _) o
          have HN : Hid _ := hnew
          have hn := hvec.hn
          obtain ⟨la, lc, rfl, _⟩ := id hlist
          have HV : Hid (BitsAt wr vb0 bw ba f n W) := hvec
          have HL : Hid (ListAt wr (.slice la n lc) f n) := hlist
          have HBe : Hid (Below w6.heap.size w6 wr) := hbel
          clear hvec hlist hnew hbel
          by_cases k1 : (E k 0 == 1) = true
          · go_wp2_with fail
            refine (len_any (HV.out.below (HN.out _))).mono ?_
            rintro e wy ⟨rfl, rfl⟩
            go_wp2
            go_roundw
            case rel => exact ⟨k + 1, by omega, by go_num, HBe.out.alloc HBe.out.size _⟩
            case measure => simp [intOf]; omega
          · have k1' : (E k 0 == 1) = false := by simpa using k1
            clear k1
            by_cases k2 : (E k 0 == 2) = true
            · by_cases hi : 0 ≤ E k 3 ∧ E k 3 ≤ (n : Int)
              · obtain ⟨ik, hik⟩ : ∃ ik : Nat, E k 3 = (ik : Int) := ⟨(E k 3).toNat, by omega⟩
                have hin : ik ≤ n := by omega
                rw [hik] at e3
                clear hi hik
                go_wp2_with fail
                refine (rank_yes (HV.out.below (HN.out _)) ik hin).mono ?_
                rintro e wy ⟨rfl, q2, rfl⟩
                go_wp2_with fail
                refine (refrank_yes (HL.out.below (below_drewN (HN.out _) _)) (by omega) ik hin).mono ?_
                rintro e wy ⟨rfl, rfl⟩
                go_wp2_with (go_at_call 15; refine (num_any _ _).mono ?_; rintro e wy ⟨rfl, rfl⟩)
                go_roundw
                case rel => exact ⟨k + 1, by omega, by go_num, below_drewN (HBe.out.alloc HBe.out.size _) _⟩
                case measure => simp [intOf]; omega
              · have hi' : E k 3 < 0 ∨ (n : Int) < E k 3 := by omega
                have HI : Hid _ := hi'
                clear hi hi'
                go_wp2_with fail
                refine (rank_no (HV.out.below (HN.out _)) _ HI.out).mono ?_
                rintro e wy ⟨rfl, rfl⟩
                go_wp2_with fail
                refine (refrank_no (HL.out.below (HN.out _)) (by omega) _ HI.out).mono ?_
                rintro e wy ⟨rfl, rfl⟩
                go_wp2_with (go_at_call 15; refine (num_any _ _).mono ?_; rintro e wy ⟨rfl, rfl⟩)
                go_roundw
                case rel => exact ⟨k + 1, by omega, by go_num, HBe.out.alloc HBe.out.size _⟩
                case measure => simp [intOf]; omega
            · have k2' : (E k 0 == 2) = false := by simpa using k2
              clear k2
              by_cases k3 : (E k 0 == 3) = true
              · by_cases hi : 0 ≤ E k 3 ∧ E k 3 < (cnt f n : Int)
                · obtain ⟨ik, hik⟩ : ∃ ik : Nat, E k 3 = (ik : Int) := ⟨(E k 3).toNat, by omega⟩
                  have hin : ik < cnt f n := by omega
                  rw [hik] at e3
                  clear hi hik
                  go_wp2_with fail
                  refine (select_yes (HV.out.below (HN.out _)) ik hin).mono ?_
                  rintro e wy ⟨z, rfl, hz, hz1, hz2, hBz⟩
                  have hZ := refsel_yes (HL.out.below (chain (HN.out _) hBz)) (by omega) z hz hz1
                  rw [hz2] at hZ
                  have HZ : Hid (Calls Try.prog 16 _ _ _) := hZ
                  have hq := cell_kept hBz ⟨wr.heap.size, 3, none⟩ (.int .i64 (ik : Int)) (by simp)
                  have hbz := HBe.out.trans ((chain (HN.out _) hBz).mono HBe.out.size)
                  clear hZ hz1 hz2 hBz
                  go_wp2_with fail
                  refine HZ.out.mono ?_
                  rintro e wy2 ⟨rfl, rfl⟩
                  go_wp2_with (go_at_call 15; refine (num_any _ _).mono ?_; rintro e wy2 ⟨rfl, rfl⟩)
                  go_roundw
                  case rel => exact ⟨k + 1, by omega, by go_num, hbz⟩
                  case measure => simp [intOf]; omega
                · have hi' : E k 3 < 0 ∨ (cnt f n : Int) ≤ E k 3 := by omega
                  have HI : Hid _ := hi'
                  clear hi hi'
                  go_wp2_with fail
                  refine (select_no (HV.out.below (HN.out _)) _ HI.out).mono ?_
                  rintro e wy ⟨rfl, hBz⟩
                  have hZ := refsel_no (HL.out.below (chain (HN.out _) hBz)) (by omega) _ HI.out
                  have HZ : Hid (Calls Try.prog 16 _ _ _) := hZ
                  have hq := cell_kept hBz ⟨wr.heap.size, 3, none⟩ (.int .i64 (E k 3)) (by simp)
                  have hbz := HBe.out.trans ((chain (HN.out _) hBz).mono HBe.out.size)
                  clear hZ hBz
                  go_wp2_with fail
                  refine HZ.out.mono ?_
                  rintro e wy2 ⟨rfl, rfl⟩
                  go_wp2_with (go_at_call 15; refine (num_any _ _).mono ?_; rintro e wy2 ⟨rfl, rfl⟩)
                  go_roundw
                  case rel => exact ⟨k + 1, by omega, by go_num, hbz⟩
                  case measure => simp [intOf]; omega
              · have k3' : (E k 0 == 3) = false := by simpa using k3
                clear k3
                go_wp2
                go_roundw
                case rel => exact ⟨k + 1, by omega, by go_num, HBe.out.alloc HBe.out.size _⟩
                case measure => simp [intOf]; omega
    · go_wp2
      go_ret
      exact ⟨rfl, chain BW.out hbel⟩
end Go.Proofs.Ytphjbbbnbmafnaa

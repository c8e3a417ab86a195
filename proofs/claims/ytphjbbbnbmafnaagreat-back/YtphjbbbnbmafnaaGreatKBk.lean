/-
  trelliskeep.Back: what Build gives is opened and tells just the edges that were told, in order, each once; built anew it is the same bytes; it has no more pages than it may: true, for all numbers and lists of edges; nothing that was there is written.
-/
import Derived.Test.YtphjbbbnbmafnaaGreatPEo
import Derived.Test.YtphjbbbnbmafnaaGreatPOpen
import Derived.Test.YtphjbbbnbmafnaaGreatKnown
import Derived.Test.YtphjbbbnbmafnaaGreatKAm
namespace Go.Proofs.YtphjbbbnbmafnaaGreat.G
open Go.RowKit

attribute [local go_sem ↓] Go.wp_at_zero Go.wp_at_succ
theorem eqZ (a b c : Int) (w : World) : (Op.equalIn 10000 32 (.agg #[.int .i64 a, .int .i64 b, .int .i64 c]) (.agg #[.int .i64 a, .int .i64 b, .int .i64 c])).run Tryz.prog w = .ok true w := by
  have u3 := Tryz.underlying3
  have hS : Tryz.prog.underlying 32 = some (.struct (Tryz.prog.fieldsOf 32)) := by kernel_rfl
  rw [show (10000 : Nat) = 9999 + 1 from rfl, run_equalIn_agg w 9999 32 _ _ hS (by kernel_rfl)]
  simp only [Program.fieldsOf, Tryz.underlying32]
  go_simp
theorem guardZ : Tryz.prog.eqGuardType Tryz.prog.depth 32 = false := by kernel_rfl
theorem pages_most {n s : Nat} {L : List E3} (h : okG n s L) : (256 * npages (gbits n s L).length : Int) ≤ 256 * (1 + (34 + (n : Int) + (L.length : Int) + ((L.length * wid (s - 1) : Nat) : Int) + ((L.length * wid (n - 1) : Nat) : Int)) / 2016) := by
  rw [gbits_len n s L (Gm.ah_zero L (fun e he => (h.2 e he).1)) (Gm.ah_all L n (fun e he => (h.2 e he).2.1)), Nat.mul_comm L.length, Nat.mul_comm L.length]
  unfold npages
  generalize wid (s - 1) * L.length = a
  generalize wid (n - 1) * L.length = b
  omega
set_option maxHeartbeats 8000000 in
set_option maxRecDepth 100000 in
theorem back_any (nodes labels : Int) (l : List E3) (v : Value) (w : World) (he : EdgesAt w v l) :
    Calls Tryz.prog 4 #[.int .i64 nodes, .int .i64 labels, v] w fun e w' => e = .returned (.bool true) ∧ Below w.heap.size w w' := by
  have HK : Hid (Calls Tryz.prog 10 _ w _) := known_any w
  have HEd : Hid _ := he
  obtain ⟨a0, cap, rfl, _⟩ := he
  go_enter Tryz.func4, Tryz.ntmps4
  go_wp2_with fail
  refine (Calls.mono HK.out ?_)
  rintro e w1 ⟨rfl, hB1⟩
  have HB1 : Hid _ := hB1
  have HBd : Hid (Calls Tryz.prog 11 _ w1 _) := build_any nodes labels l _ w1 (EdgesAt.below HEd.out hB1)
  clear hB1 HK
  by_cases hok : okG nodes labels l
  case neg =>
    rw [show imgOf nodes labels l = ⟨#[]⟩ by unfold imgOf; rw [if_neg hok], show errOf nodes labels l = 2 by unfold errOf; rw [if_neg hok]] at HBd
    clear hok
    go_wp2_with fail
    refine (Calls.mono HBd.out ?_)
    rintro e w2 ⟨rfl, hB2⟩
    have HB2 : Hid _ := chain HB1.out hB2
    clear hB2
    go_wp2
    go_ret
    exact ⟨rfl, HB2.out⟩
  case pos =>
    rw [show errOf nodes labels l = 0 by unfold errOf; rw [if_pos hok]] at HBd
    obtain ⟨n, rfl⟩ : ∃ n : Nat, nodes = (n : Int) := ⟨nodes.toNat, by have := hok.1.1; omega⟩
    obtain ⟨s, rfl⟩ : ∃ s : Nat, labels = (s : Int) := ⟨labels.toNat, by have := hok.1.2.2.1; omega⟩
    have his := imgOf_is hok
    have hll : l.length ≤ 20000 := hok.1.2.2.2.2
    generalize imgOf (n : Int) (s : Int) l = img at HBd his
    have hnp := his.size
    have hsz : img.size ≤ 9223372036854775807 := by have := hnp.2.1; have := hnp.2.2.1; omega
    have HO : Hid (∀ W, Calls Tryz.prog 12 #[.string img] W (OpenPost GraphAt img W)) := fun W => open_any img W hsz
    have HIs : Hid _ := his
    clear hok hnp his
    go_wp2_with fail
    refine (Calls.mono HBd.out ?_)
    rintro e w2 ⟨rfl, hB2⟩
    have HB2 : Hid _ := chain HB1.out hB2
    clear hB2 HBd
    go_wp2_with fail
    refine (Calls.mono (HO.out w2) ?_)
    rintro e w3 ⟨hB3, ⟨h1, _⟩ | ⟨_, ⟨p, hp1, hp2⟩, _⟩ | ⟨_, _, h1, _⟩ | ⟨n', s', L, b, h1, rfl, hg⟩⟩
    · exact absurd (Is.size HIs.out).1 h1
    · refine absurd ((Is.size HIs.out).2.2.2.2 p ?_) hp2
      have := (Is.size HIs.out).2.1
      omega
    · exact absurd HIs.out (h1 _ _ _)
    obtain ⟨rfl, rfl, rfl⟩ := Is.one h1 HIs.out
    have HI : Hid _ := is_img h1
    have HG : Hid _ := hg
    have HB3 : Hid _ := chain HB2.out hB3
    have hbd := hg.bd
    have HE : Hid (Calls Tryz.prog 13 _ w3 _) := gedges_any hg
    have HOr : Hid (∀ x, x ∈ Gm.ordE l ↔ x ∈ l) := (Gm.ordE_mem l : ∀ x, _)
    have HPg : Hid _ := pages_most h1.1
    have HSz : Hid _ := h1.size.2.1
    have hst := h1.2.1
    obtain ⟨L, hL⟩ : ∃ L, L = Gm.ordE l := ⟨_, rfl⟩
    rw [← hL] at HI HG hbd HE HOr HPg HSz hst
    have HSt : Hid _ := hst
    clear hB3 hg h1 HIs hL HO hst
    go_wp2_with fail
    refine (Calls.mono HE.out ?_)
    rintro e w4 ⟨v4, rfl, hO4⟩
    have hE4 := own_edges hO4.1
    have HE4 : Hid _ := hE4
    obtain ⟨a4, cap4, rfl, hed4⟩ := hE4
    have HEd4 : Hid _ := hed4
    have HB4 : Hid _ := chain HB3.out hO4.2
    have HB34 : Hid _ := hO4.2
    clear hO4 hed4 HE
    go_wp2
    go_loopw [13] (fun si wr => ∃ i : Nat, i ≤ L.length ∧ si = .int .i64 (i : Int) ∧ Hid (Below w4.heap.size w4 wr)) (fun si _ => L.length - (intOf si).toNat)
    case atStart => exact ⟨0, Nat.zero_le _, rfl, Below.refl _ _⟩
    case round =>
      obtain ⟨i, hi, rfl, HI2⟩ := hrel
      by_cases hlt : i < L.length
      · obtain ⟨x, hx⟩ : ∃ x, L[i]? = some x := ⟨_, List.getElem?_eq_getElem hlt⟩
        obtain ⟨g, off, rfl, c0, c1, c2⟩ := HEd4.out i x hx
        have d0 := cell_kept HI2.out _ _ c0
        have d1 := cell_kept HI2.out _ _ c1
        have d2 := cell_kept HI2.out _ _ c2
        have hiI : (i : Int) < (L.length : Int) := by omega
        have hAm := among_any (.slice a0 l.length cap) l x wr (EdgesAt.below HEd.out (chain HB4.out HI2.out)) (by omega)
        rw [decide_eq_true ((HOr.out x).1 (List.mem_of_getElem? hx))] at hAm
        have HAm : Hid (Calls Tryz.prog 14 _ wr _) := hAm
        clear hAm
        have HX : Hid _ := hx
        obtain ⟨x1, x2, x3⟩ := x
        simp only at d0 d1 d2 HAm
        clear c0 c1 c2 hx
        by_cases hpos : 0 < i
        · obtain ⟨k, rfl⟩ : ∃ k, i = k + 1 := ⟨i - 1, by omega⟩
          have hkI : ((k + 1 : Nat) : Int) > 0 := by omega
          obtain ⟨y, hy⟩ : ∃ y, L[k]? = some y := ⟨_, List.getElem?_eq_getElem (by omega)⟩
          obtain ⟨g', off', e', c0, c1, c2⟩ := HEd4.out k y hy
          cases e'
          have hlt2 : Gm.ltE y (x1, x2, x3) = true := by
            have h := List.pairwise_iff_getElem.1 HSt.out k (k + 1) (by omega) hlt (by omega)
            have e1 := (List.getElem?_eq_some_iff.1 hy).2
            have e2 := (List.getElem?_eq_some_iff.1 HX.out).2
            rw [e1, e2] at h
            exact h
          obtain ⟨y1, y2, y3⟩ := y
          have HAh : Hid (∀ W, Calls Tryz.prog 15 #[.agg #[.int .i64 y1, .int .i64 y2, .int .i64 y3], .agg #[.int .i64 x1, .int .i64 x2, .int .i64 x3]] W fun e w' => e = .returned (.bool true) ∧ Below W.heap.size W w') := (fun W => by
            have h := kahead_any y1 y2 y3 x1 x2 x3 W
            rw [show aheadI y1 y2 y3 x1 x2 x3 = true from hlt2] at h
            exact h : ∀ W, _)
          have s0 := cell_kept HI2.out _ _ c0
          have s1 := cell_kept HI2.out _ _ c1
          have s2 := cell_kept HI2.out _ _ c2
          simp only at s0 s1 s2
          have m1 : ((k + 1 : Nat) : Int) - 1 = (k : Int) := by omega
          have m2 : IntKind.i64.wrap (k : Int) = (k : Int) := by rw [IntKind.wrap_i64]; omega
          have m3 : (k : Int) < (L.length : Int) := by omega
          have m4 : (0 : Int) ≤ (k : Int) := by omega
          have m5 : (0 : Int) ≤ (k : Int) + 1 := by omega
          have m6 : (k : Int) + 1 < (L.length : Int) := by omega
          have m7 : (0 : Int) ≤ ((k + 1 : Nat) : Int) := by omega
          clear c0 c1 c2 hy hlt2
          go_wp2_with fail
          refine (Calls.mono HAm.out ?_)
          rintro e w5 ⟨rfl, hB5⟩
          have HB5 : Hid _ := chain HI2.out hB5
          have d0' := cell_kept hB5 _ _ d0
          have d1' := cell_kept hB5 _ _ d1
          have d2' := cell_kept hB5 _ _ d2
          have s0' := cell_kept hB5 _ _ s0
          have s1' := cell_kept hB5 _ _ s1
          have s2' := cell_kept hB5 _ _ s2
          clear hB5 d0 d1 d2 s0 s1 s2
          go_wp2_with fail
          go_region_held3 (fun w' => w'.cell? ⟨g, off + k * 3, none⟩ = some (.int .i64 y1) ∧ w'.cell? ⟨g, off + k * 3 + 1, none⟩ = some (.int .i64 y2) ∧ w'.cell? ⟨g, off + k * 3 + 2, none⟩ = some (.int .i64 y3) ∧ w'.cell? ⟨g, off + (k + 1) * 3, none⟩ = some (.int .i64 x1) ∧ w'.cell? ⟨g, off + (k + 1) * 3 + 1, none⟩ = some (.int .i64 x2) ∧ w'.cell? ⟨g, off + (k + 1) * 3 + 2, none⟩ = some (.int .i64 x3)) (go_keep)
            (first
              | (go_at_call 15; refine (HAh.out _).mono ?_; rintro r w6 ⟨rfl, hB6d⟩; have hB6 := ((Below.refl w5.heap.size w5).drew).trans hB6d; have t0 := cell_kept hB6 _ _ s0'; have t1 := cell_kept hB6 _ _ s1'; have t2 := cell_kept hB6 _ _ s2'; have t3 := cell_kept hB6 _ _ d0'; have t4 := cell_kept hB6 _ _ d1'; have t5 := cell_kept hB6 _ _ d2'))
          have HB6 : Hid _ := chain HB5.out hB6
          clear hB6 hB6d
          go_wp2
          go_roundw
          case rel => exact ⟨k + 1 + 1, by omega, by go_num, HB6.out⟩
          case measure => simp [intOf]; omega
        · have hkI : ¬ (i : Int) > 0 := by omega
          go_wp2_with fail
          refine (Calls.mono HAm.out ?_)
          rintro e w5 ⟨rfl, hB5⟩
          have HB5 : Hid _ := chain HI2.out hB5
          clear hB5
          go_wp2_with fail
          go_quiet (fail)
          go_wp2
          go_roundw
          case rel => exact ⟨i + 1, by omega, by go_num, below_drewN HB5.out _⟩
          case measure => simp [intOf]; omega
      · have hnl : ¬ (i : Int) < (L.length : Int) := by omega
        clear hlt hi
        obtain ⟨W0, rfl⟩ : ∃ W0, W0 = wr := ⟨wr, rfl⟩
        go_wp2
        go_loopw [15] (fun si wr => ∃ j : Nat, j ≤ l.length ∧ si = .int .i64 (j : Int) ∧ Hid (Below w4.heap.size w4 wr)) (fun si _ => l.length - (intOf si).toNat)
        case atStart => exact ⟨0, Nat.zero_le _, rfl, HI2.out⟩
        case round =>
          obtain ⟨j, hj, rfl, HJ⟩ := hrel
          have HEd5 : Hid _ := EdgesAt.below HEd.out (chain HB4.out HJ.out)
          by_cases hlt : j < l.length
          · obtain ⟨x, hx⟩ : ∃ x, l[j]? = some x := ⟨_, List.getElem?_eq_getElem hlt⟩
            obtain ⟨a5, cap5, e5, hed5⟩ := HEd5.out
            cases e5
            obtain ⟨g, off, rfl, c0, c1, c2⟩ := hed5 j x hx
            have hjI : (j : Int) < (l.length : Int) := by omega
            have hAm := among_any _ L x wr (EdgesAt.below HE4.out HJ.out) (by omega)
            rw [decide_eq_true ((HOr.out x).2 (List.mem_of_getElem? hx))] at hAm
            have HAm : Hid (Calls Tryz.prog 14 _ wr _) := hAm
            obtain ⟨x1, x2, x3⟩ := x
            simp only at c0 c1 c2 HAm
            clear hAm hed5 hx
            go_wp2_with fail
            refine (Calls.mono HAm.out ?_)
            rintro e w5 ⟨rfl, hB5⟩
            have HB5 : Hid _ := chain HJ.out hB5
            clear hB5
            go_wp2
            go_roundw
            case rel => exact ⟨j + 1, by omega, by go_num, HB5.out⟩
            case measure => simp [intOf]; omega
          · have hnl2 : ¬ (j : Int) < (l.length : Int) := by omega
            have HG5 : Hid _ := HG.out.below (chain HB34.out HJ.out)
            have HS : Hid (Calls Tryz.prog 9 _ wr _) := gsize_any HG5.out
            clear hlt hj
            go_wp2_with fail
            refine (Calls.mono HS.out ?_)
            rintro e w6 ⟨rfl, hB6⟩
            have HB6 : Hid (Below wr.heap.size wr (w6.alloc (.cells #[.int .i64 (n' : Int), .int .i64 (s' : Int), .int .i64 (L.length : Int)] 32))) := hB6.alloc hB6.size _
            have k0 : (w6.alloc (.cells #[.int .i64 (n' : Int), .int .i64 (s' : Int), .int .i64 (L.length : Int)] 32)).cell? ⟨w6.heap.size, 0, none⟩ = some (.int .i64 (n' : Int)) := by simp
            have k1 : (w6.alloc (.cells #[.int .i64 (n' : Int), .int .i64 (s' : Int), .int .i64 (L.length : Int)] 32)).cell? ⟨w6.heap.size, 1, none⟩ = some (.int .i64 (s' : Int)) := by simp
            have k2 : (w6.alloc (.cells #[.int .i64 (n' : Int), .int .i64 (s' : Int), .int .i64 (L.length : Int)] 32)).cell? ⟨w6.heap.size, 2, none⟩ = some (.int .i64 (L.length : Int)) := by simp
            have hBd := build_any n' s' L _ _ (EdgesAt.below HE4.out (chain HJ.out HB6.out))
            rw [HI.out.1, HI.out.2] at hBd
            have HBd : Hid (Calls Tryz.prog 11 _ _ _) := hBd
            clear hB6 hBd HS
            go_wp2_with fail
            refine (Calls.mono HBd.out ?_)
            rintro e w7 ⟨rfl, hB7⟩
            have k0' := cell_kept hB7 _ _ k0
            have k1' := cell_kept hB7 _ _ k1
            have k2' := cell_kept hB7 _ _ k2
            have HB7 : Hid _ := chain (chain (chain HB4.out HJ.out) HB6.out) hB7
            have hw1 := wid_le (s' - 1) (by omega)
            have hw2 := wid_le (n' - 1) (by omega)
            have HW1 : ∀ W, Hid (Calls Tryz.prog 16 _ W _) := fun W => kwidth_any s' (by omega) (by omega) W
            have HW2 : ∀ W, Hid (Calls Tryz.prog 16 _ W _) := fun W => kwidth_any n' (by omega) (by omega) W
            have hp1 : L.length * wid (s' - 1) ≤ 20000 * 20 := Nat.mul_le_mul (by omega) hw1
            have hp2 : L.length * wid (n' - 1) ≤ 20000 * 20 := Nat.mul_le_mul (by omega) hw2
            have e1 : (L.length : Int) * (wid (s' - 1) : Int) = ((L.length * wid (s' - 1) : Nat) : Int) := by rw [Int.natCast_mul]
            have e2 : (L.length : Int) * (wid (n' - 1) : Int) = ((L.length * wid (n' - 1) : Nat) : Int) := by rw [Int.natCast_mul]
            have hpg : (img.size : Int) ≤ 256 * (1 + (34 + (n' : Int) + (L.length : Int) + ((L.length * wid (s' - 1) : Nat) : Int) + ((L.length * wid (n' - 1) : Nat) : Int)) / 2016) := by
              have h2 : (img.size : Int) = 256 * (npages (gbits n' s' L).length : Int) := by rw [HSz.out, Int.natCast_mul]; rfl
              rw [h2]; exact HPg.out
            generalize L.length * wid (s' - 1) = P1 at hp1 e1 hpg
            generalize L.length * wid (n' - 1) = P2 at hp2 e2 hpg
            clear k0 k1 k2 hB7 HBd
            go_wp2_with fail
            refine (Calls.mono (HW1 _).out ?_)
            rintro e w8 ⟨rfl, hw8⟩
            rw [hw8]
            clear hw8 w8
            go_wp2_with fail
            refine (Calls.mono (HW2 _).out ?_)
            rintro e w8 ⟨rfl, hw8⟩
            rw [hw8]
            clear hw8 w8
            have gZ := guardZ
            have hEq := eqZ (n' : Int) (s' : Int) (L.length : Int)
            go_wp2
            go_ret
            exact ⟨rfl, HB7.out⟩
end Go.Proofs.YtphjbbbnbmafnaaGreat.G

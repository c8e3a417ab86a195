/-
  trelliskeep.Ways: the laws of expressions: true, for all raw numbers; nothing that was there is written.
-/
import Derived.Test.YtphjbbbnbmafnabGreatDoorWCh
import Derived.Test.YtphjbbbnbmafnabGreatDoorWEx
import Derived.Test.YtphjbbbnbmafnabGreatDoorKnown
namespace Go.Proofs.YtphjbbbnbmafnabGreatDoor.G
open Go.RowKit Go.Shelf

attribute [local go_sem ↓] Go.wp_at_zero Go.wp_at_succ
theorem raw_below {w w' : World} {a0 : Option Addr} {len : Nat} {R : Nat → Int} (h : RawAt w a0 len R) (hB : Below w.heap.size w w') : RawAt w' a0 len R :=
  ⟨h.1.imp id (fun ⟨b, off, h1, h2⟩ => ⟨b, off, h1, fun i hi => cell_kept hB _ _ (h2 i hi)⟩), h.2⟩
theorem codes_br (s : ByteArray) : codes (({ data := #[40] } : ByteArray) ++ s ++ { data := #[41] }) = RxM.br (codes s) := by
  rw [codes_app, codes_app]; rfl
theorem size_br (s : ByteArray) : (({ data := #[40] } : ByteArray) ++ s ++ { data := #[41] }).size = s.size + 2 := by
  rw [ByteArray.size_append, ByteArray.size_append]
  show 1 + s.size + 1 = s.size + 2
  omega
theorem c124 : codes { data := #[124] } = [124] := rfl
theorem c42 : codes { data := #[42] } = [42] := rfl
theorem c42b : codes { data := #[42, 124] } = [42, 124] := rfl
theorem c0b : codes { data := #[] } = [] := rfl
section
variable {X Y : ByteArray} {cx cy : List Nat} {t1 t2 : RxM.Rx} (hX : codes X = RxM.br cx) (hY : codes Y = RxM.br cy) (h1 : RxM.Whole 4 cx t1) (h2 : RxM.Whole 4 cy t2)
include hX h1 in
theorem rd_x : RxM.read 4 (codes X) = some (.alt .void (.cat .eps t1)) := by rw [hX]; exact RxM.read_x h1
include hX hY h1 h2 in
theorem rd_either : RxM.read 4 (codes (X ++ { data := #[124] } ++ Y)) = some (.alt (.alt .void (.cat .eps t1)) (.cat .eps t2)) := by
  rw [codes_app, codes_app, hX, hY, c124, List.append_assoc, List.singleton_append]; exact RxM.read_either h1 h2
include hX hY h1 h2 in
theorem rd_row : RxM.read 4 (codes (X ++ Y)) = some (.alt .void (.cat (.cat .eps t1) t2)) := by
  rw [codes_app, hX, hY]; exact RxM.read_row h1 h2
include hX h1 in
theorem rd_star : RxM.read 4 (codes (X ++ { data := #[42] })) = some (.alt .void (.cat .eps (.star t1))) := by
  rw [codes_app, hX, c42]; exact RxM.read_star h1
include hX h1 in
theorem rd_more : RxM.read 4 (codes (X ++ X ++ { data := #[42, 124] })) = some (.alt (.alt .void (.cat (.cat .eps t1) (.star t1))) .eps) := by
  rw [codes_app, codes_app, hX, c42b]; exact RxM.read_more h1
theorem rd_none : RxM.read 4 (codes { data := #[] }) = some (.alt .void .eps) := by rw [c0b]; exact RxM.read_nothing
theorem z_either : (X ++ { data := #[124] } ++ Y).size = X.size + 1 + Y.size := by rw [ByteArray.size_append, ByteArray.size_append]; rfl
theorem z_row : (X ++ Y).size = X.size + Y.size := by rw [ByteArray.size_append]
theorem z_star : (X ++ { data := #[42] }).size = X.size + 1 := by rw [ByteArray.size_append]; rfl
theorem z_more : (X ++ X ++ { data := #[42, 124] }).size = X.size + X.size + 2 := by rw [ByteArray.size_append, ByteArray.size_append]; rfl
end
set_option maxRecDepth 100000 in
set_option maxHeartbeats 16000000 in
theorem ways_any (a0 : Option Addr) (len cap : Nat) (R : Nat → Int) (node : Int) (a1 : Option Addr) (len1 cap1 : Nat) (R1 : Nat → Int) (a2 : Option Addr) (len2 cap2 : Nat) (R2 : Nat → Int) (w : World) (hT : TzAt w) (hr : RawAt w a0 len R) (hr1 : RawAt w a1 len1 R1) (hr2 : RawAt w a2 len2 R2) (hnode : -9223372036854775808 ≤ node ∧ node ≤ 9223372036854775807) :
    Calls Tryz.prog 3 #[.slice a0 len cap, .int .i64 node, .slice a1 len1 cap1, .slice a2 len2 cap2] w fun e w' => e = .returned (.bool true) ∧ Below w.heap.size w w' := by
  have HK : Hid (Calls Tryz.prog 4 _ w _) := known_any w
  have HR : Hid (_ ∧ _ ∧ _ ∧ _) := ⟨hr, hr1, hr2, hT⟩
  have HP : Hid (∀ W, Calls Tryz.prog 8 #[.int .i64 node, .int .i64 50] W _) := fun W => pick_fn node 50 hnode (by decide) (by decide) 50 rfl W
  have HLt : Hid (∀ W, Calls Tryz.prog 14 #[.int .i64 node] W _) := fun W => letter_any node hnode W
  have hu := pk_lt node 50 (by decide)
  have hk := pk_lt node 4 (by decide)
  obtain ⟨u, hu2⟩ : ∃ u, u = pk node 50 := ⟨_, rfl⟩
  obtain ⟨k, hk2⟩ : ∃ k, k = pk node 4 := ⟨_, rfl⟩
  rw [← hu2] at hu HP
  rw [← hk2] at hk HLt
  clear hr hr1 hr2 hT hnode hu2 hk2
  go_enter Tryz.func3, Tryz.ntmps3
  go_wp2_with fail
  refine (Calls.mono HK.out ?_)
  rintro e w1 ⟨rfl, hB1⟩
  have HB1 : Hid _ := hB1
  have HM : Hid (Calls Tryz.prog 6 _ w1 _) := made_any a0 len cap R w1 (raw_below HR.out.1 hB1)
  clear hB1 HK
  go_wp2_with fail
  refine (Calls.mono HM.out ?_)
  rintro e w2 ⟨v, l, rfl, hE, hl5, hok, hB2⟩
  have HB2 : Hid _ := chain HB1.out hB2
  have hok2 : okG 50 4 l := ⟨⟨by omega, by omega, by omega, by omega, by omega⟩, hok⟩
  have HBd : Hid (Calls Tryz.prog 5 _ w2 _) := build_any 50 4 l v w2 hE
  rw [show errOf 50 4 l = 0 by unfold errOf; rw [if_pos hok2]] at HBd
  have his := imgOf_is (n := 50) (s := 4) hok2
  obtain ⟨a9, cap9, rfl, _⟩ := hE
  rw [show ((50 : Nat) : Int) = 50 from rfl, show ((4 : Nat) : Int) = 4 from rfl] at his
  generalize imgOf 50 4 l = img at HBd his
  have hnp := his.size
  have hsz : img.size ≤ 9223372036854775807 := by have := hnp.2.1; have := hnp.2.2.1; omega
  have HO : Hid (∀ W, Calls Tryz.prog 7 #[.string img] W (OpenPost GraphAt img W)) := fun W => open_any img W hsz
  have HIs : Hid _ := his
  clear hok hok2 hnp his hB2 HM hl5
  go_wp2_with fail
  refine (Calls.mono HBd.out ?_)
  rintro e w3 ⟨rfl, hB3⟩
  have HB3 : Hid _ := chain HB2.out hB3
  clear hB3 HBd
  go_wp2_with fail
  refine (Calls.mono (HO.out w3) ?_)
  rintro e w4 ⟨hB4, ⟨h1, _⟩ | ⟨_, ⟨p, hp1, hp2⟩, _⟩ | ⟨_, _, h1, _⟩ | ⟨n', s', L, b, h1, rfl, hg⟩⟩
  · exact absurd (Is.size HIs.out).1 h1
  · refine absurd ((Is.size HIs.out).2.2.2.2 p ?_) hp2
    have := (Is.size HIs.out).2.1
    omega
  · exact absurd HIs.out (h1 _ _ _)
  obtain ⟨rfl, rfl, rfl⟩ := Is.one h1 HIs.out
  have HB4 : Hid _ := chain HB3.out hB4
  obtain ⟨L, hL⟩ : ∃ L, L = Gm.ordE l := ⟨_, rfl⟩
  rw [← hL] at hg
  have HG : Hid (GraphAt w4 b 50 4 L) := hg
  have HRC : Hid (ReachC L w4 b) := reach_c hg (TzAt.below HR.out.2.2.2 HB4.out)
  clear hB4 hg h1 HIs hL HO
  go_wp2_with fail
  refine (Calls.mono (HP.out w4) ?_)
  rintro e w5 ⟨rfl, hw5⟩
  rw [hw5]
  clear hw5 w5
  have HX1 : Hid (Calls Tryz.prog 9 #[.slice a1 len1 cap1] w4 _) := expr_any a1 len1 cap1 R1 w4 (raw_below HR.out.2.1 HB4.out)
  go_wp2_with fail
  refine (Calls.mono HX1.out ?_)
  rintro e w5 ⟨s1, t1, rfl, hs1, hw1, hB5⟩
  have HB5 : Hid (Below w4.heap.size w4 w5) := hB5
  have HX2 : Hid (Calls Tryz.prog 9 #[.slice a2 len2 cap2] w5 _) := expr_any a2 len2 cap2 R2 w5 (raw_below HR.out.2.2.1 (chain HB4.out hB5))
  obtain ⟨X, hX⟩ : ∃ X, X = ({ data := #[40] } : ByteArray) ++ s1 ++ { data := #[41] } := ⟨_, rfl⟩
  have hXs : X.size = s1.size + 2 := by rw [hX]; exact size_br s1
  have hXc : codes X = RxM.br (codes s1) := by rw [hX]; exact codes_br s1
  clear hB5 HX1
  go_wp2_with fail
  rw [← hX]
  have HXw : Hid (_ ∧ _ ∧ _) := ⟨hX, hw1, hXc⟩
  clear hX hw1 hXc
  refine (Calls.mono HX2.out ?_)
  rintro e w6 ⟨s2, t2, rfl, hs2, hw2, hB6⟩
  have HB6 : Hid (Below w4.heap.size w4 w6) := chain HB5.out hB6
  obtain ⟨Y, hY⟩ : ∃ Y, Y = ({ data := #[40] } : ByteArray) ++ s2 ++ { data := #[41] } := ⟨_, rfl⟩
  have hYs : Y.size = s2.size + 2 := by rw [hY]; exact size_br s2
  have hYc : codes Y = RxM.br (codes s2) := by rw [hY]; exact codes_br s2
  have HYw : Hid (_ ∧ _ ∧ _) := ⟨hY, hw2, hYc⟩
  clear hB6 HX2 hw2 hYc
  have HC1 : Hid (Calls Tryz.prog 10 #[.pointer (some ⟨b, 0, none⟩), .int .i64 (u : Int), .string X] w6 _) := HRC.out w6 HB6.out u X _ hu (by omega) (rd_x HXw.out.2.2 HXw.out.2.1)
  go_wp2_with fail
  rw [← hY]
  clear hY
  refine (Calls.mono HC1.out ?_)
  rintro e w7 ⟨v1, r1, rfl, ho1, hp1, hm1, hl1, hB7⟩
  have HB7 : Hid (Below w4.heap.size w4 w7) := chain HB6.out hB7
  have HS7 : Hid (Below w6.heap.size w6 w7) := hB7
  have HD1 : Hid (_ ∧ _ ∧ _) := ⟨own_nums ho1, hp1, hm1⟩
  clear ho1 hp1 hm1 hB7 HC1
  have HC2 : Hid (Calls Tryz.prog 10 #[.pointer (some ⟨b, 0, none⟩), .int .i64 (u : Int), .string Y] w7 _) := HRC.out w7 HB7.out u Y _ hu (by omega) (rd_x HYw.out.2.2 HYw.out.2.1)
  go_wp2_with fail
  refine (Calls.mono HC2.out ?_)
  rintro e w8 ⟨v2, r2, rfl, ho2, hp2, hm2, hl2, hB8⟩
  have HB8 : Hid (Below w4.heap.size w4 w8) := chain HB7.out hB8
  have HS8 : Hid (Below w7.heap.size w7 w8) := hB8
  have HD2 : Hid (_ ∧ _ ∧ _) := ⟨own_nums ho2, hp2, hm2⟩
  clear ho2 hp2 hm2 hB8 HC2
  obtain ⟨QE, hQE⟩ : ∃ QE : ByteArray, QE = (X ++ { data := #[124] } ++ Y) := ⟨_, rfl⟩
  have hzE : QE.size ≤ 200 := by rw [hQE]; exact (by rw [z_either]; omega)
  have hrE := (rd_either HXw.out.2.2 HYw.out.2.2 HXw.out.2.1 HYw.out.2.1)
  rw [← hQE] at hrE
  have HC3 : Hid (Calls Tryz.prog 10 #[.pointer (some ⟨b, 0, none⟩), .int .i64 (u : Int), .string QE] w8 _) := HRC.out w8 HB8.out u QE _ hu hzE hrE
  have HQE : Hid _ := hQE
  clear hrE hzE hQE
  go_wp2_with fail
  rw [← HQE.out]
  refine (Calls.mono HC3.out ?_)
  rintro e w9 ⟨v3, r3, rfl, ho3, hp3, hm3, hl3, hB9⟩
  have HB9 : Hid (Below w4.heap.size w4 w9) := chain HB8.out hB9
  have HS9 : Hid (Below w8.heap.size w8 w9) := hB9
  have HD3 : Hid (_ ∧ _ ∧ _) := ⟨own_nums ho3, hp3, hm3⟩
  clear ho3 hp3 hm3 hB9 HC3
  obtain ⟨QR, hQR⟩ : ∃ QR : ByteArray, QR = (X ++ Y) := ⟨_, rfl⟩
  have hzR : QR.size ≤ 200 := by rw [hQR]; exact (by rw [z_row]; omega)
  have hrR := (rd_row HXw.out.2.2 HYw.out.2.2 HXw.out.2.1 HYw.out.2.1)
  rw [← hQR] at hrR
  have HC4 : Hid (Calls Tryz.prog 10 #[.pointer (some ⟨b, 0, none⟩), .int .i64 (u : Int), .string QR] w9 _) := HRC.out w9 HB9.out u QR _ hu hzR hrR
  have HQR : Hid _ := hQR
  clear hrR hzR hQR
  go_wp2_with fail
  rw [← HQR.out]
  refine (Calls.mono HC4.out ?_)
  rintro e wA ⟨v4, r4, rfl, ho4, hp4, hm4, hl4, hBA⟩
  have HBA : Hid (Below w4.heap.size w4 wA) := chain HB9.out hBA
  have HSA : Hid (Below w9.heap.size w9 wA) := hBA
  have HD4 : Hid (_ ∧ _ ∧ _) := ⟨own_nums ho4, hp4, hm4⟩
  clear ho4 hp4 hm4 hBA HC4
  obtain ⟨QS, hQS⟩ : ∃ QS : ByteArray, QS = (X ++ { data := #[42] }) := ⟨_, rfl⟩
  have hzS : QS.size ≤ 200 := by rw [hQS]; exact (by rw [z_star]; omega)
  have hrS := (rd_star HXw.out.2.2 HXw.out.2.1)
  rw [← hQS] at hrS
  have HC5 : Hid (Calls Tryz.prog 10 #[.pointer (some ⟨b, 0, none⟩), .int .i64 (u : Int), .string QS] wA _) := HRC.out wA HBA.out u QS _ hu hzS hrS
  have HQS : Hid _ := hQS
  clear hrS hzS hQS
  go_wp2_with fail
  rw [← HQS.out]
  refine (Calls.mono HC5.out ?_)
  rintro e wB ⟨v5, r5, rfl, ho5, hp5, hm5, hl5, hBB⟩
  have HBB : Hid (Below w4.heap.size w4 wB) := chain HBA.out hBB
  have HSB : Hid (Below wA.heap.size wA wB) := hBB
  have HD5 : Hid (_ ∧ _ ∧ _) := ⟨own_nums ho5, hp5, hm5⟩
  clear ho5 hp5 hm5 hBB HC5
  obtain ⟨QN, hQN⟩ : ∃ QN : ByteArray, QN = { data := #[] } := ⟨_, rfl⟩
  have hzN : QN.size ≤ 200 := by rw [hQN]; exact (by decide)
  have hrN := rd_none
  rw [← hQN] at hrN
  have HC6 : Hid (Calls Tryz.prog 10 #[.pointer (some ⟨b, 0, none⟩), .int .i64 (u : Int), .string QN] wB _) := HRC.out wB HBB.out u QN _ hu hzN hrN
  have HQN : Hid _ := hQN
  clear hrN hzN hQN
  go_wp2_with fail
  rw [← HQN.out]
  refine (Calls.mono HC6.out ?_)
  rintro e wC ⟨v6, r6, rfl, ho6, hp6, hm6, hl6, hBC⟩
  have HBC : Hid (Below w4.heap.size w4 wC) := chain HBB.out hBC
  have HSC : Hid (Below wB.heap.size wB wC) := hBC
  have HD6 : Hid (_ ∧ _ ∧ _) := ⟨own_nums ho6, hp6, hm6⟩
  clear ho6 hp6 hm6 hBC HC6
  obtain ⟨QM, hQM⟩ : ∃ QM : ByteArray, QM = (X ++ X ++ { data := #[42, 124] }) := ⟨_, rfl⟩
  have hzM : QM.size ≤ 200 := by rw [hQM]; exact (by rw [z_more]; omega)
  have hrM := (rd_more HXw.out.2.2 HXw.out.2.1)
  rw [← hQM] at hrM
  have HC7 : Hid (Calls Tryz.prog 10 #[.pointer (some ⟨b, 0, none⟩), .int .i64 (u : Int), .string QM] wC _) := HRC.out wC HBC.out u QM _ hu hzM hrM
  have HQM : Hid _ := hQM
  clear hrM hzM hQM
  go_wp2_with fail
  rw [← HQM.out]
  refine (Calls.mono HC7.out ?_)
  rintro e wD ⟨v7, r7, rfl, ho7, hp7, hm7, hl7, hBD⟩
  have HBD : Hid (Below w4.heap.size w4 wD) := chain HBC.out hBD
  have HSD : Hid (Below wC.heap.size wC wD) := hBD
  have HD7 : Hid (_ ∧ _ ∧ _) := ⟨own_nums ho7, hp7, hm7⟩
  clear ho7 hp7 hm7 hBD HC7
  have HN1 : Hid (NumsAt .i64 wD v1 r1) := ((((((HD1.out.1.below HS8.out).below HS9.out).below HSA.out).below HSB.out).below HSC.out).below HSD.out)
  have HN2 : Hid (NumsAt .i64 wD v2 r2) := (((((HD2.out.1.below HS9.out).below HSA.out).below HSB.out).below HSC.out).below HSD.out)
  have HN3 : Hid (NumsAt .i64 wD v3 r3) := ((((HD3.out.1.below HSA.out).below HSB.out).below HSC.out).below HSD.out)
  have HN4 : Hid (NumsAt .i64 wD v4 r4) := (((HD4.out.1.below HSB.out).below HSC.out).below HSD.out)
  have HN5 : Hid (NumsAt .i64 wD v5 r5) := ((HD5.out.1.below HSC.out).below HSD.out)
  have HN6 : Hid (NumsAt .i64 wD v6 r6) := (HD6.out.1.below HSD.out)
  have HN7 : Hid (NumsAt .i64 wD v7 r7) := HD7.out.1
  have e6 : r6 = [u] := RxM.rise_one _ _ HD6.out.2.1 (by simp) (fun x => by rw [HD6.out.2.2 x, RxM.rel_nothing, List.mem_singleton]; exact eq_comm)
  have e7 : r7 = r5 := RxM.rise_one _ _ HD7.out.2.1 HD5.out.2.1 (fun x => by rw [HD7.out.2.2 x, HD5.out.2.2 x, RxM.rel_more])
  subst e6 e7
  obtain ⟨a3, c3, hv3, hcell3⟩ := HN3.out.open
  subst hv3
  have HC3 : Hid _ := hcell3
  have HIn : Hid ((∀ x, x ∈ r1 ↔ RxM.rel (Eof (outsOf L)) t1 u x) ∧ (∀ x, x ∈ r2 ↔ RxM.rel (Eof (outsOf L)) t2 u x) ∧ (∀ x, x ∈ r3 ↔ RxM.rel (Eof (outsOf L)) t1 u x ∨ RxM.rel (Eof (outsOf L)) t2 u x) ∧ (∀ x, x ∈ r4 ↔ ∃ m, RxM.rel (Eof (outsOf L)) t1 u m ∧ RxM.rel (Eof (outsOf L)) t2 m x)) := (⟨fun x => (HD1.out.2.2 x).trans RxM.rel_x, fun x => (HD2.out.2.2 x).trans RxM.rel_x, fun x => (HD3.out.2.2 x).trans RxM.rel_either, fun x => (HD4.out.2.2 x).trans RxM.rel_row⟩ : _ ∧ _ ∧ _ ∧ _)
  clear hcell3
  have hBo := below1 wD (.cells #[.int .i64 (u : Int)] 3)
  have HS1 : Hid (Calls Tryz.prog 11 #[v6, .slice (some ⟨wD.heap.size, 0, none⟩) 1 1] (wD.alloc (.cells #[.int .i64 (u : Int)] 3)) _) := sameints_any v6 _ [u] _ (HN6.out.below hBo) (one_nums wD u) (by simp)
  have HBo : Hid _ := hBo
  clear hBo
  go_wp2_with fail
  refine (Calls.mono HS1.out ?_)
  rintro e wE ⟨rfl, hBE⟩
  have HBE : Hid (Below wD.heap.size wD wE) := chain HBo.out hBE
  clear hBE HS1
  have HS2 : Hid (Calls Tryz.prog 11 #[v5, v7] wE _) := sameints_any v5 v7 _ wE (HN5.out.below HBE.out) (HN7.out.below HBE.out) (by omega)
  go_wp2_with fail
  refine (Calls.mono HS2.out ?_)
  rintro e wF ⟨rfl, hBF⟩
  have HBF : Hid (Below wD.heap.size wD wF) := chain HBE.out hBF
  clear hBF HS2
  have hw3 := within_ints v1 (.slice a3 r3.length c3) r1 r3 wF (HN1.out.below HBF.out) (HN3.out.below HBF.out) (by omega) (by omega)
  rw [show allIn r1 r3 = true from allIn_iff.2 fun x hx => (HIn.out.2.2.1 x).2 (.inl ((HIn.out.1 x).1 hx))] at hw3
  have HS3 : Hid (Calls Tryz.prog 12 #[v1, .slice a3 r3.length c3] wF _) := hw3
  clear hw3
  go_wp2_with fail
  refine (Calls.mono HS3.out ?_)
  rintro e wG ⟨rfl, hBG⟩
  have HBG : Hid (Below wD.heap.size wD wG) := chain HBF.out hBG
  clear hBG HS3
  have hw4 := within_ints v2 (.slice a3 r3.length c3) r2 r3 wG (HN2.out.below HBG.out) (HN3.out.below HBG.out) (by omega) (by omega)
  rw [show allIn r2 r3 = true from allIn_iff.2 fun x hx => (HIn.out.2.2.1 x).2 (.inr ((HIn.out.2.1 x).1 hx))] at hw4
  have HS4 : Hid (Calls Tryz.prog 12 #[v2, .slice a3 r3.length c3] wG _) := hw4
  clear hw4
  go_wp2_with fail
  refine (Calls.mono HS4.out ?_)
  rintro e wH ⟨rfl, hBH⟩
  have HBH : Hid (Below wD.heap.size wD wH) := chain HBG.out hBH
  clear hBH HS4
  go_wp2
  go_loopw [35] (fun s35 wr => ∃ i : Nat, i ≤ r3.length ∧ s35 = .int .i64 (i : Int) ∧ Hid (Below wD.heap.size wD wr)) (fun s35 _ => r3.length - (intOf s35).toNat)
  case atStart => exact ⟨0, Nat.zero_le _, rfl, HBH.out⟩
  case round =>
    obtain ⟨i, hi, rfl, HI⟩ := hrel
    by_cases hlt : i < r3.length
    · obtain ⟨x, hx⟩ : ∃ x, r3[i]? = some x := ⟨_, List.getElem?_eq_getElem hlt⟩
      obtain ⟨g3, o3, rfl, q0⟩ := HC3.out i x hx
      have c0 := cell_kept HI.out _ _ q0
      have hiI : (i : Int) < (r3.length : Int) := by omega
      have hBo := below1 wr (.cells #[.int .i64 (x : Int)] 3)
      have HW1 : Hid (Calls Tryz.prog 12 #[.slice (some ⟨wr.heap.size, 0, none⟩) 1 1, v1] (wr.alloc (.cells #[.int .i64 (x : Int)] 3)) _) := within_ints _ v1 [x] r1 _ (one_nums wr x) (HN1.out.below (chain HI.out hBo)) (by simp) (by omega)
      have HOr : Hid (x ∈ r1 ∨ x ∈ r2) := (((HIn.out.2.2.1 x).1 (List.mem_of_getElem? hx)).imp (HIn.out.1 x).2 (HIn.out.2.1 x).2 : _ ∨ _)
      have HBo : Hid _ := chain HI.out hBo
      clear hx q0 hBo
      go_wp2_with fail
      refine (Calls.mono HW1.out ?_)
      rintro e wI ⟨rfl, hBI⟩
      have HW2 : Hid (Calls Tryz.prog 12 #[.slice (some ⟨wr.heap.size, 0, none⟩) 1 1, v2] wI _) := within_ints _ v2 [x] r2 wI ((one_nums wr x).below hBI) (HN2.out.below (chain HBo.out hBI)) (by simp) (by omega)
      have HBI : Hid _ := chain HBo.out hBI
      clear hBI HW1 c0
      go_wp2_with fail
      refine (Calls.mono HW2.out ?_)
      rintro e wJ ⟨rfl, hBJ⟩
      have HBJ : Hid _ := chain HBI.out hBJ
      clear hBJ HW2
      obtain ⟨p1, hp1⟩ : ∃ p1, p1 = allIn [x] r1 := ⟨_, rfl⟩
      obtain ⟨p2, hp2⟩ : ∃ p2, p2 = allIn [x] r2 := ⟨_, rfl⟩
      rw [← hp1, ← hp2]
      have h12 : p1 = true ∨ (p1 = false ∧ p2 = true) := by
        rcases HOr.out with h | h
        · left; rw [hp1]; exact allIn_iff.2 fun y hy => by rw [List.mem_singleton] at hy; rw [hy]; exact h
        · cases h1 : p1 with
          | true => exact .inl rfl
          | false => exact .inr ⟨rfl, by rw [hp2]; exact allIn_iff.2 fun y hy => by rw [List.mem_singleton] at hy; rw [hy]; exact h⟩
      clear hp1 hp2
      rcases h12 with rfl | ⟨rfl, rfl⟩
      all_goals
        go_wp2
        go_roundw
        case rel => exact ⟨i + 1, by omega, by go_num, HBJ.out⟩
        case measure => simp [intOf]; omega
    · obtain rfl : i = r3.length := by omega
      have HB0 : Hid (Below wD.heap.size wD wr) := HI.out
      clear HI
      rename World => wK
      go_wp2_with fail
      refine (Calls.mono (HLt.out wK) ?_)
      rintro e wL ⟨rfl, hBL⟩
      have hBL2 := chain HB0.out hBL
      have hBL4 : Below w4.heap.size w4 wL := chain HBD.out hBL2
      have HCh : Hid (Calls Tryz.prog 13 #[.pointer (some ⟨b, 0, none⟩), v1, .string Y, v4, .string ⟨#[lby k]⟩, .int .i64 (u : Int)] wL _) := chained_any (HG.out.below hBL4) (fun W hW => HRC.out W (chain hBL4 hW)) v1 v4 r1 r4 Y _ k u (HN1.out.below hBL2) (HN4.out.below hBL2) (fun x hx => rel_lt (eof_lt HG.out.ok) t1 u x hu ((HIn.out.1 x).1 hx)) hl1 hl4 (by omega) (rd_x HYw.out.2.2 HYw.out.2.1) hk hu (fun x => by
        rw [HIn.out.2.2.2 x]
        exact ⟨fun ⟨m, h1, h2⟩ => ⟨m, (HIn.out.1 m).2 h1, RxM.rel_x.2 h2⟩, fun ⟨m, h1, h2⟩ => ⟨m, (HIn.out.1 m).1 h1, RxM.rel_x.1 h2⟩⟩)
      have HBL : Hid _ := chain HB4.out hBL4
      clear hBL hBL2 hBL4
      go_wp2_with fail
      refine (Calls.mono HCh.out ?_)
      rintro e wM ⟨rfl, hBM⟩
      have HBM : Hid _ := chain HBL.out hBM
      clear hBM HCh
      go_wp2
      go_ret
      exact ⟨rfl, HBM.out⟩
end Go.Proofs.YtphjbbbnbmafnabGreatDoor.G

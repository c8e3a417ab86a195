/-
  The document's own Build (trellisref.Build): what it gives, at all numbers and lists of edges: the same as the program's; nothing that was there is written.
-/
import Derived.Test.YtphjbbbnbmafnaaGreatDoorROrd
import Derived.Test.YtphjbbbnbmafnaaGreatDoorRBits
import Derived.Test.YtphjbbbnbmafnaaGreatDoorKnown
namespace Go.Proofs.YtphjbbbnbmafnaaGreatDoor.G
open Go.RowKit

theorem image_pad (L : List Bool) : (⟨((pagesB (padB L) ((padB L).length / 2016)).map UInt8.ofNat).toArray⟩ : ByteArray) = image L := by
  unfold image str
  rw [padB_len, show 2016 * npages L.length / 2016 = npages L.length by omega, pagesB_pad (padB L) L _ (fun i => pad_getD L _ i)]
theorem within_dec (f l t n s : Int) : decide (0 ≤ f ∧ f < n ∧ 0 ≤ l ∧ l < s ∧ 0 ≤ t ∧ t < n) = decide (Gm.edgeOk n s (f, l, t)) := rfl
set_option maxHeartbeats 4000000 in
set_option maxRecDepth 100000 in
theorem rbuild_no (n s : Int) (l : List E3) (v : Value) (w : World) (he : EdgesAt w v l) (hsz : ¬ Gm.sizeOk n s l.length) :
    Calls Tryz.prog 29 #[.int .i64 n, .int .i64 s, v] w fun e w' => e = .returned (.tuple #[.string ⟨#[]⟩, .int .i64 2]) ∧ w' = w := by
  obtain ⟨a0, cap, rfl, _⟩ := he
  by_cases h1 : n < 1
  · go_enter Tryz.func29, Tryz.ntmps29
    go_wp2
    go_ret2
    exact ⟨rfl, rfl⟩
  · by_cases h2 : n > 10000
    · clear hsz
      go_enter Tryz.func29, Tryz.ntmps29
      go_wp2
      go_ret2
      exact ⟨rfl, rfl⟩
    · by_cases h3 : s < 1
      · clear hsz
        go_enter Tryz.func29, Tryz.ntmps29
        go_wp2
        go_ret2
        exact ⟨rfl, rfl⟩
      · by_cases h4 : s > 26
        · clear hsz
          go_enter Tryz.func29, Tryz.ntmps29
          go_wp2
          go_ret2
          exact ⟨rfl, rfl⟩
        · have h5 : (l.length : Int) > 20000 := by
            rcases Nat.lt_or_ge 20000 l.length with h | h
            · omega
            · exact absurd ⟨by omega, by omega, by omega, by omega, h⟩ hsz
          clear hsz
          go_enter Tryz.func29, Tryz.ntmps29
          go_wp2
          go_ret2
          exact ⟨rfl, rfl⟩
set_option maxHeartbeats 4000000 in
set_option maxRecDepth 100000 in
theorem rbuild_any (n s : Int) (l : List E3) (v : Value) (w : World) (he : EdgesAt w v l) (hcap : CapOk v) :
    Calls Tryz.prog 29 #[.int .i64 n, .int .i64 s, v] w fun e w' => e = .returned (.tuple #[.string (imgOf n s l), .int .i64 (errOf n s l)]) ∧ Below w.heap.size w w' := by
  by_cases hsz : Gm.sizeOk n s l.length
  · have HEd : Hid _ := he
    obtain ⟨a0, cap, rfl, hed⟩ := he
    have HE : Hid _ := hed
    have HOk : Hid _ := hsz
    have HCp : Hid _ := hcap
    have hl2 : l.length ≤ 20000 := hsz.2.2.2.2
    have g1 : ¬ n < 1 := by have := hsz.1; omega
    have g2 : ¬ n > 10000 := by have := hsz.2.1; omega
    have g3 : ¬ s < 1 := by have := hsz.2.2.1; omega
    have g4 : ¬ s > 26 := by have := hsz.2.2.2.1; omega
    have g5 : ¬ (l.length : Int) > 20000 := by omega
    clear hsz hed hcap
    go_enter Tryz.func29, Tryz.ntmps29
    go_wp2
    go_loopw [8] (fun si wr => ∃ i : Nat, i ≤ l.length ∧ si = .int .i64 (i : Int) ∧ Hid ((∀ e ∈ l.take i, Gm.edgeOk n s e) ∧ Below w.heap.size w wr)) (fun si _ => l.length - (intOf si).toNat)
    case atStart => exact ⟨0, Nat.zero_le _, rfl, (fun e he => by simp at he), Below.refl _ _⟩
    case round =>
      obtain ⟨i, hi, rfl, HI⟩ := hrel
      by_cases hlt : i < l.length
      · obtain ⟨x, hx⟩ : ∃ x, l[i]? = some x := ⟨_, List.getElem?_eq_getElem hlt⟩
        obtain ⟨g, off, rfl, c0, c1, c2⟩ := HE.out i x hx
        have d0 := cell_kept HI.out.2 _ _ c0
        have d1 := cell_kept HI.out.2 _ _ c1
        have d2 := cell_kept HI.out.2 _ _ c2
        have hiI : (i : Int) < (l.length : Int) := by omega
        have hT := take_snoc' hx
        have hmem := List.mem_of_getElem? hx
        obtain ⟨x1, x2, x3⟩ := x
        simp only at d0 d1 d2
        have hEg := within_any x1 x2 x3 n s wr
        rw [within_dec] at hEg
        by_cases hok : Gm.edgeOk n s (x1, x2, x3)
        · rw [decide_eq_true hok] at hEg
          have HEg : Hid (Calls Tryz.prog 38 _ wr _) := hEg
          have HI2 : Hid (∀ e ∈ l.take (i + 1), Gm.edgeOk n s e) := (fun e he => by
            rw [hT] at he
            rcases List.mem_append.1 he with h | h
            · exact HI.out.1 e h
            · simp at h; rw [h]; exact hok : ∀ e ∈ l.take (i + 1), Gm.edgeOk n s e)
          clear hok c0 c1 c2 hx hT hmem hEg
          go_wp2_with fail
          refine (Calls.mono HEg.out ?_)
          rintro e w3 ⟨rfl, hB3⟩
          have HB3 : Hid _ := chain HI.out.2 hB3
          clear hB3
          go_wp2
          go_roundw
          case rel => exact ⟨i + 1, by omega, by go_num, HI2.out, HB3.out⟩
          case measure => simp [intOf] <;> omega
        · rw [decide_eq_false hok] at hEg
          have HEg : Hid (Calls Tryz.prog 38 _ wr _) := hEg
          have HN : Hid (¬ okG n s l) := (fun h => hok (h.2 _ hmem) : ¬ okG n s l)
          clear hok c0 c1 c2 hx hT hmem hEg
          go_wp2_with fail
          refine (Calls.mono HEg.out ?_)
          rintro e w3 ⟨rfl, hB3⟩
          have HB3 : Hid _ := chain HI.out.2 hB3
          clear hB3
          go_wp2
          go_ret2
          exact ⟨by rw [imgOf, if_neg HN.out, errOf, if_neg HN.out]; rfl, HB3.out⟩
      · obtain rfl : i = l.length := by omega
        have hI := HI.out.1
        rw [List.take_length] at hI
        have HGo : Hid (okG n s l) := ⟨HOk.out, hI⟩
        have HOr : Hid (Calls Tryz.prog 55 _ wr _) := ord_any l.length l _ wr (Nat.le_refl _) (by omega) (EdgesAt.below HEd.out HI.out.2) HCp.out
        obtain ⟨n', hn'⟩ : ∃ n' : Nat, n = (n' : Int) := ⟨n.toNat, by have := HOk.out.1; omega⟩
        obtain ⟨s', hs'⟩ : ∃ s' : Nat, s = (s' : Int) := ⟨s.toNat, by have := HOk.out.2.2.1; omega⟩
        clear hI
        go_wp2_with fail
        refine (Calls.mono HOr.out ?_)
        rintro e w3 ⟨v3, rfl, hrow, hB3⟩
        have hE3 : EdgesAt w3 v3 (Gm.ordE l) := ownE_edges hrow
        subst hn' hs'
        have hall : ∀ e ∈ Gm.ordE l, Gm.edgeOk n' s' e := fun e he => HGo.out.2 e ((Gm.ordE_mem l e).1 he)
        have hlen := Gm.ordE_len l
        have HT : Hid (Calls Tryz.prog 54 _ w3 _) := rbits_any n' s' (Gm.ordE l) v3 w3 hE3 (Gm.ordE_strict l) hall (by have := HOk.out.1; omega) (by have := HOk.out.2.1; omega) (by have := HOk.out.2.2.1; omega) (by have := HOk.out.2.2.2.1; omega) (by omega)
        have hz0 := Gm.ah_zero _ (fun e h => (hall e h).1)
        have hza := Gm.ah_all _ n' (fun e h => (hall e h).2.1)
        have hgl := gbits_le n' s' _ hz0 hza (by have := HOk.out.2.1; omega) (by have := HOk.out.2.2.2.1; omega) (by omega)
        have hgn := gbits_len n' s' _ hz0 hza
        have HP : ∀ W, Hid (Calls Tryz.prog 53 #[.string (txt (padB (gbits n' s' (Gm.ordE l))))] W fun e w' => e = .returned (.string (image (gbits n' s' (Gm.ordE l)))) ∧ Below W.heap.size W w') := fun W => (by
          have h := pages_any (padB (gbits n' s' (Gm.ordE l))) W (by rw [padB_len]; unfold npages; omega) (by rw [padB_len]; unfold npages; omega)
          rw [image_pad] at h
          exact h : Calls Tryz.prog 53 _ W _)
        have HB3 : Hid _ := chain HI.out.2 hB3
        clear hE3 hrow hB3 hall hlen hgl hgn hz0 hza
        go_wp2_with fail
        refine (Calls.mono HT.out ?_)
        rintro e w4 ⟨rfl, hB4⟩
        have HB4 : Hid _ := chain HB3.out hB4
        clear hB4
        go_wp2_with fail
        refine (Calls.mono (HP w4).out ?_)
        rintro e w5 ⟨rfl, hB5⟩
        have HB5 : Hid _ := chain HB4.out hB5
        clear hB5
        go_wp2
        go_ret2
        exact ⟨by rw [imgOf, if_pos HGo.out, errOf, if_pos HGo.out, built, Int.toNat_natCast, Int.toNat_natCast]; rfl, HB5.out⟩
  · refine (rbuild_no n s l v w he hsz).mono ?_
    rintro e w' ⟨rfl, rfl⟩
    have hN : ¬ okG n s l := fun h => hsz h.1
    exact ⟨by rw [imgOf, if_neg hN, errOf, if_neg hN], Below.refl _ _⟩
end Go.Proofs.YtphjbbbnbmafnaaGreatDoor.G

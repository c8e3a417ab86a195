/-
  The program's Build: what it gives, at all numbers and lists of edges: the pages of the graph, or ErrInput; nothing that was there is written.
-/
import Derived.Test.YtphjbbbnbmafnabGreatDoorInOrd
import Derived.Test.YtphjbbbnbmafnabGreatDoorPText
namespace Go.Proofs.YtphjbbbnbmafnabGreatDoor.G
open Go.RowKit

theorem chain' {v : World} {w a b : World} (h1 : Below v.heap.size w a) (h2 : Below a.heap.size a b) (hs : v.heap.size ≤ w.heap.size := by exact Nat.le_refl _) : Below v.heap.size w b := h1.trans (h2.mono (Nat.le_trans hs h1.size))
/-- may these be a graph? -/
abbrev okG (n s : Int) (l : List E3) : Prop := Gm.sizeOk n s l.length ∧ ∀ e ∈ l, Gm.edgeOk n s e
def imgOf (n s : Int) (l : List E3) : ByteArray := if okG n s l then built n.toNat s.toNat l else ⟨#[]⟩
def errOf (n s : Int) (l : List E3) : Int := if okG n s l then 0 else 2
theorem gbits_le (n s : Nat) (l : List E3) (h0 : Gm.ah l 0 = 0) (hn : Gm.ah l n = l.length) (h1 : n ≤ 10000) (h2 : s ≤ 26) (h3 : l.length ≤ 20000) : (gbits n s l).length ≤ 2016000 := by
  rw [gbits_len n s l h0 hn]
  have hw1 := wid_le (s - 1) (by omega)
  have hw2 := wid_le (n - 1) (by omega)
  have e1 : wid (s - 1) * l.length ≤ 20 * 20000 := Nat.mul_le_mul hw1 h3
  have e2 : wid (n - 1) * l.length ≤ 20 * 20000 := Nat.mul_le_mul hw2 h3
  omega
set_option maxHeartbeats 4000000 in
set_option maxRecDepth 100000 in
theorem build_any (n s : Int) (l : List E3) (v : Value) (w : World) (he : EdgesAt w v l) :
    Calls Tryz.prog 5 #[.int .i64 n, .int .i64 s, v] w fun e w' => e = .returned (.tuple #[.string (imgOf n s l), .int .i64 (errOf n s l)]) ∧ Below w.heap.size w w' := by
  have HEd : Hid _ := he
  obtain ⟨a0, cap, rfl, hed⟩ := he
  have HE : Hid _ := hed
  have hb8 := below1 w (.cells #[.int .i64 n, .int .i64 s, .int .i64 (l.length : Int)] 43)
  have HSz : Hid (Calls Tryz.prog 15 _ (w.alloc (.cells #[.int .i64 n, .int .i64 s, .int .i64 (l.length : Int)] 43)) _) := isize_any n s l.length _
  have hbx : ∀ W, Below (w.alloc (.cells #[.int .i64 n, .int .i64 s, .int .i64 (l.length : Int)] 43)).heap.size (w.alloc (.cells #[.int .i64 n, .int .i64 s, .int .i64 (l.length : Int)] 43)) W → W.cell? ⟨w.heap.size, 0, none⟩ = some (.int .i64 n) ∧ W.cell? ⟨w.heap.size, 1, none⟩ = some (.int .i64 s) ∧ W.cell? ⟨w.heap.size, 2, none⟩ = some (.int .i64 (l.length : Int)) := fun W hW =>
    ⟨cell_kept hW _ _ (by simp), cell_kept hW _ _ (by simp), cell_kept hW _ _ (by simp)⟩
  have HBx : Hid _ := hbx
  have HB8 : Hid _ := hb8
  clear hed hb8 hbx
  by_cases hsz : Gm.sizeOk n s l.length
  · have HD : Hid _ := decide_eq_true hsz
    rw [HD.out] at HSz
    have HOk : Hid _ := hsz
    have hl2 : l.length ≤ 20000 := hsz.2.2.2.2
    clear hsz
    go_enter Tryz.func5, Tryz.ntmps5
    go_wp2_with fail
    refine (Calls.mono HSz.out ?_)
    rintro e w1 ⟨rfl, hB1⟩
    have HB1 : Hid _ := hB1
    clear hB1
    go_wp2
    go_loopw [21] (fun si wr => ∃ i : Nat, i ≤ l.length ∧ si = .int .i64 (i : Int) ∧ Hid ((∀ e ∈ l.take i, Gm.edgeOk n s e) ∧ Below (w.alloc (.cells #[.int .i64 n, .int .i64 s, .int .i64 (l.length : Int)] 43)).heap.size (w.alloc (.cells #[.int .i64 n, .int .i64 s, .int .i64 (l.length : Int)] 43)) wr)) (fun si _ => l.length - (intOf si).toNat)
    case atStart => exact ⟨0, Nat.zero_le _, rfl, (fun e he => by simp at he), HB1.out⟩
    case round =>
      obtain ⟨i, hi, rfl, HI⟩ := hrel
      have hBw : Below w.heap.size w wr := chain HB8.out HI.out.2
      obtain ⟨s0, s1, s2⟩ := HBx.out wr HI.out.2
      by_cases hlt : i < l.length
      · obtain ⟨x, hx⟩ : ∃ x, l[i]? = some x := ⟨_, List.getElem?_eq_getElem hlt⟩
        obtain ⟨g, off, rfl, c0, c1, c2⟩ := HE.out i x hx
        have d0 := cell_kept hBw _ _ c0
        have d1 := cell_kept hBw _ _ c1
        have d2 := cell_kept hBw _ _ c2
        have hiI : (i : Int) < (l.length : Int) := by omega
        have hT := take_snoc' hx
        have hmem := List.mem_of_getElem? hx
        obtain ⟨x1, x2, x3⟩ := x
        simp only at d0 d1 d2
        obtain ⟨b0, b1, b2⟩ := box3 wr (.int .i64 x1) (.int .i64 x2) (.int .i64 x3) 41
        have t0 := cell_al (o := .cells #[.int .i64 x1, .int .i64 x2, .int .i64 x3] 41) s0
        have t1 := cell_al (o := .cells #[.int .i64 x1, .int .i64 x2, .int .i64 x3] 41) s1
        have t2 := cell_al (o := .cells #[.int .i64 x1, .int .i64 x2, .int .i64 x3] 41) s2
        have HEg : Hid (Calls Tryz.prog 16 _ (wr.alloc (.cells #[.int .i64 x1, .int .i64 x2, .int .i64 x3] 41)) _) := iedge_any x1 x2 x3 n s (l.length : Int) _
        have HBa : Hid _ := HI.out.2.alloc HI.out.2.size (.cells #[.int .i64 x1, .int .i64 x2, .int .i64 x3] 41)
        have HBw : Hid _ := hBw
        by_cases hok : Gm.edgeOk n s (x1, x2, x3)
        · rw [decide_eq_true hok] at HEg
          have HI2 : Hid (∀ e ∈ l.take (i + 1), Gm.edgeOk n s e) := (fun e he => by
            rw [hT] at he
            rcases List.mem_append.1 he with h | h
            · exact HI.out.1 e h
            · simp at h; rw [h]; exact hok : ∀ e ∈ l.take (i + 1), Gm.edgeOk n s e)
          clear hok c0 c1 c2 hx hT hmem hBw
          go_wp2_with fail
          refine (Calls.mono HEg.out ?_)
          rintro e w3 ⟨rfl, hB3⟩
          have HB3 : Hid _ := chain' HBa.out hB3
          clear hB3
          go_wp2
          go_roundw
          case rel => exact ⟨i + 1, by omega, by go_num, HI2.out, HB3.out⟩
          case measure => simp [intOf] <;> omega
        · rw [decide_eq_false hok] at HEg
          have HN : Hid (¬ okG n s l) := (fun h => hok (h.2 _ hmem) : ¬ okG n s l)
          clear hok c0 c1 c2 hx hT hmem hBw
          go_wp2_with fail
          refine (Calls.mono HEg.out ?_)
          rintro e w3 ⟨rfl, hB3⟩
          have HB3 : Hid _ := chain' HBa.out hB3
          clear hB3
          go_wp2
          go_ret2
          exact ⟨by rw [imgOf, if_neg HN.out, errOf, if_neg HN.out]; rfl, chain HB8.out HB3.out⟩
      · obtain rfl : i = l.length := by omega
        have hI := HI.out.1
        rw [List.take_length] at hI
        have hOk : okG n s l := ⟨HOk.out, hI⟩
        have hEw := EdgesAt.below HEd.out hBw
        have HIn : Hid (Calls Tryz.prog 19 _ wr _) := inorder_any _ l (by omega) wr hEw
        have HGo : Hid _ := hOk
        have HBw : Hid _ := hBw
        obtain ⟨n', hn'⟩ : ∃ n' : Nat, n = (n' : Int) := ⟨n.toNat, by have := HOk.out.1; omega⟩
        obtain ⟨s', hs'⟩ : ∃ s' : Nat, s = (s' : Int) := ⟨s.toNat, by have := HOk.out.2.2.1; omega⟩
        clear hI hOk hEw hBw s0 s1 s2
        go_wp2_with fail
        refine (Calls.mono HIn.out ?_)
        rintro e w3 ⟨v3, rfl, hrow, hB3⟩
        have hE3 : EdgesAt w3 v3 (Gm.ordE l) := ownE_edges hrow
        subst hn' hs'
        have hall : ∀ e ∈ Gm.ordE l, Gm.edgeOk n' s' e := fun e he => HGo.out.2 e ((Gm.ordE_mem l e).1 he)
        have hlen := Gm.ordE_len l
        have HT : Hid (Calls Tryz.prog 18 _ w3 _) := textof_any n' s' (Gm.ordE l) v3 w3 hE3 (Gm.ordE_strict l) hall (by have := HOk.out.1; omega) (by have := HOk.out.2.1; omega) (by have := HOk.out.2.2.1; omega) (by have := HOk.out.2.2.2.1; omega) (by omega)
        have HP : ∀ W, Hid (Calls Tryz.prog 17 #[.string (txt (gbits n' s' (Gm.ordE l)))] W _) := fun W => pwrite_any (gbits n' s' (Gm.ordE l)) (gbits_le n' s' _ (Gm.ah_zero _ (fun e h => (hall e h).1)) (Gm.ah_all _ n' (fun e h => (hall e h).2.1)) (by have := HOk.out.2.1; omega) (by have := HOk.out.2.2.2.1; omega) (by omega)) W
        have HB3 : Hid _ := chain HBw.out hB3
        clear hE3 hrow hB3 hall hlen
        go_wp2_with fail
        refine (Calls.mono HT.out ?_)
        rintro e w4 ⟨rfl, hB4⟩
        have HB4 : Hid _ := chain HB3.out hB4
        clear hB4
        go_wp2_with fail
        refine (Calls.mono (HP w4).out ?_)
        rintro e w5 ⟨rfl, hB5⟩
        have HB5 : Hid _ := chain HB4.out hB5
        clear hB5
        go_wp2
        go_ret2
        exact ⟨by rw [imgOf, if_pos HGo.out, errOf, if_pos HGo.out, built, Int.toNat_natCast, Int.toNat_natCast]; rfl, HB5.out⟩
  · have HD : Hid _ := decide_eq_false hsz
    rw [HD.out] at HSz
    have HN : Hid (¬ okG n s l) := (fun h => hsz h.1 : ¬ okG n s l)
    clear hsz
    go_enter Tryz.func5, Tryz.ntmps5
    go_wp2_with fail
    refine (Calls.mono HSz.out ?_)
    rintro e w1 ⟨rfl, hB1⟩
    have HB1 : Hid _ := chain HB8.out hB1
    clear hB1
    go_wp2
    go_ret2
    exact ⟨by rw [imgOf, if_neg HN.out, errOf, if_neg HN.out]; rfl, HB1.out⟩
end Go.Proofs.YtphjbbbnbmafnabGreatDoor.G

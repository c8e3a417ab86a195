/-
  The program's newGraph over a list of edges in order: the graph as it lies in memory ('GraphAt'): its size, its vector of sources, its sequences of labels and of ends by labels; nothing that was there is written.
-/
import Derived.Test.YtphjbbbnbmafnabGreatDoorDec
import Derived.Test.YtphjbbbnbmafnabGreatDoorQMath
import Derived.Test.YtphjbbbnbmafnabGreatDoorStabS
import Derived.Test.YtphjbbbnbmafnabGreatDoorNew
import Derived.Test.YtphjbbbnbmafnabGreatDoorPText
import Derived.Test.YtphjbbbnbmafnabGreatDoorNumsOf8
import Derived.Test.YtphjbbbnbmafnabGreatDoorNumsOf16
namespace Go.Proofs.YtphjbbbnbmafnabGreatDoor.G
open Go.RowKit

/-- a graph as it lies -/
structure GraphAt (w : World) (b : Nat) (n s : Nat) (L : List E3) : Prop where
  ok : okG n s L
  st : Gm.Strict L
  sz0 : w.cell? ⟨b, 0, none⟩ = some (.int .i64 (n : Int))
  sz1 : w.cell? ⟨b, 1, none⟩ = some (.int .i64 (s : Int))
  sz2 : w.cell? ⟨b, 2, none⟩ = some (.int .i64 (L.length : Int))
  src : ∃ bb bw ba W, w.cell? ⟨b, 3, none⟩ = some (.pointer (some ⟨bb, 0, none⟩)) ∧ BitsAt w bb bw ba (bf (srcs L n)) (srcs L n).length W
  lab : ∃ bl gl, w.cell? ⟨b, 4, none⟩ = some (.pointer (some ⟨bl, 0, none⟩)) ∧ SeqAt 8 w bl gl (labs L)
  tgt : ∃ R bt gt, w.cell? ⟨b, 5, none⟩ = some (.pointer (some ⟨bt, 0, none⟩)) ∧ SeqAt 16 w bt gt (tos R) ∧ R.Perm L ∧ Gm.S2 R
theorem GraphAt.kept {w w' : World} {b n s : Nat} {L : List E3} (h : GraphAt w b n s L) (hk : ∀ p v, w.cell? p = some v → w'.cell? p = some v) : GraphAt w' b n s L := by
  obtain ⟨bb, bw, ba, W, h1, h2⟩ := h.src
  obtain ⟨bl, gl, h3, h4⟩ := h.lab
  obtain ⟨R, bt, gt, h5, h6, h7⟩ := h.tgt
  exact ⟨h.ok, h.st, hk _ _ h.sz0, hk _ _ h.sz1, hk _ _ h.sz2, ⟨bb, bw, ba, W, hk _ _ h1, h2.kept hk⟩, ⟨bl, gl, hk _ _ h3, h4.kept hk⟩, ⟨R, bt, gt, hk _ _ h5, h6.kept hk, h7⟩⟩
theorem GraphAt.below {w w' : World} {b n s : Nat} {L : List E3} (h : GraphAt w b n s L) (hB : Below w.heap.size w w') : GraphAt w' b n s L := h.kept (cell_kept hB)

/-! ### what a store over a nil pointer keeps -/
abbrev KeepN (w w' : World) : Prop := ∀ p v, w.cell? p = some v → v ≠ .pointer none → w'.cell? p = some v
theorem set_nil {w : World} {q : Addr} (h : w.cell? q = some (.pointer none)) (u : Value) : KeepN w (w.setCell q u) := fun p v hp hv => by
  rw [World.cell?_setCell_other w q p u (fun e => by subst e; rw [h] at hp; cases hp; exact hv rfl)]
  exact hp
theorem bits_nn {w w' : World} {b bw ba n : Nat} {f : Nat → Bool} {W : Nat → Nat} (hb : BitsAt w b bw ba f n W) (h : KeepN w w') : BitsAt w' b bw ba f n W :=
  ⟨hb.hn, h _ _ hb.len (by simp), h _ _ hb.ones (by simp), h _ _ hb.words (by simp), h _ _ hb.ahead (by simp), fun j hj => h _ _ (hb.word j hj) (by simp), fun j hj => h _ _ (hb.ahd j hj) (by simp), hb.wlt, hb.wbit, hb.out⟩
theorem seq_nn {B : Nat} {w w' : World} {b g : Nat} {l : List Nat} (hs : SeqAt B w b g l) (h : KeepN w w') : SeqAt B w' b g l :=
  ⟨hs.hn, hs.lt, h _ _ hs.len (by simp), h _ _ hs.levels (by simp), fun d hd => by
    obtain ⟨bb, bw, ba, W, h1, h2⟩ := hs.level d hd
    exact ⟨bb, bw, ba, W, h _ _ h1 (by simp), bits_nn h2 h⟩⟩
theorem bitOf_txt (l : List Bool) : bitOf (txt l) = bf l := by
  funext i
  unfold bitOf bf txt
  simp only [List.getD_eq_getElem?_getD, List.getElem?_map]
  cases l[i]? with
  | none => rfl
  | some b => cases b <;> rfl
theorem okB_txt (l : List Bool) (h : l.length ≤ 100000) : okB (txt l) = true := by
  unfold okB
  rw [Bool.and_eq_true, decide_eq_true_eq, txt_size]
  refine ⟨h, ?_⟩
  unfold txt
  rw [List.all_eq_true]
  intro x hx
  simp only [List.mem_map] at hx
  obtain ⟨b, _, rfl⟩ := hx
  cases b <;> rfl
/-- the first cells of a block -/
theorem cell_new (w : World) (xs : Array Value) (t : TypeId) (i : Nat) : (w.alloc (.cells xs t)).cell? ⟨w.heap.size, i, none⟩ = xs[i]? := by
  rw [cell_of_row _ _ i _ _ _ (heap_alloc_new w (.cells xs t))]
theorem numE8 (e : E3) : S8.numE e = e.2.1 := rfl
theorem numE16 (e : E3) : S16.numE e = e.2.2 := rfl
set_option maxHeartbeats 4000000 in
set_option maxRecDepth 100000 in
theorem newgraph_any (n s : Nat) (L : List E3) (v : Value) (w : World) (he : EdgesAt w v L) (hok : okG n s L) (hst : Gm.Strict L) :
    Calls Tryz.prog 23 #[.int .i64 (n : Int), .int .i64 (s : Int), v] w fun e w' => ∃ b, e = .returned (.pointer (some ⟨b, 0, none⟩)) ∧ GraphAt w' b n s L ∧ Below w.heap.size w w' := by
  have HE : Hid _ := he
  obtain ⟨a0, cap, rfl, hed⟩ := he
  have HOk : Hid _ := hok
  have HSt : Hid _ := hst
  obtain ⟨⟨g1, g2, g3, g4, g5⟩, hall⟩ := hok
  have h0 := Gm.ah_zero L (fun e h => (hall e h).1)
  have hlen := (srcs_all L n (fun e h => ⟨(hall e h).1, (hall e h).2.1⟩)).2
  have hlow : Hid (∀ b0 : Addr, ∀ W : World, w.heap.size ≤ W.heap.size → some b0 = a0 → L ≠ [] → b0.block < W.heap.size) := (by
    intro b0 W hW e hne
    cases L with
    | nil => exact absurd rfl hne
    | cons z zs =>
      obtain ⟨g, off, e2, c0, _⟩ := hed 0 z rfl
      rw [e2] at e
      cases e
      have := World.block_lt_of_cell? _ _ c0
      simp at this ⊢
      omega : ∀ b0 : Addr, _)
  have hB0 := below1 w (.cells #[.int .i64 (n : Int), .int .i64 (s : Int), .int .i64 (L.length : Int), .pointer none, .pointer none, .pointer none] 61)
  have HS : Hid (Calls Tryz.prog 35 _ (w.alloc (.cells #[.int .i64 (n : Int), .int .i64 (s : Int), .int .i64 (L.length : Int), .pointer none, .pointer none, .pointer none] 61)) _) := srctext_any n L _ _ (EdgesAt.below HE.out hB0) (Gm.strict_rising hst) h0 (by omega) (by omega)
  have HB0 : Hid _ := hB0
  have HLen : Hid _ := hlen
  have HAll : Hid _ := hall
  clear hB0 h0 hed hall hst hlen
  go_enter Tryz.func23, Tryz.ntmps23
  go_wp2_with fail
  refine (Calls.mono HS.out ?_)
  rintro e w1 ⟨rfl, hB1⟩
  have HNB : Hid (Calls Tryz.prog 44 _ w1 (NewPost (txt (srcs L n)) w1)) := new_any (txt (srcs L n)) w1 (by rw [txt_size, HLen.out]; omega)
  have HB1 : Hid _ := hB1
  clear hB1 HS
  go_wp2_with fail
  refine (Calls.mono HNB.out ?_)
  rintro e w2 ⟨hB2, ⟨hno, _⟩ | ⟨_, bb, bw, ba, W, rfl, hbits⟩⟩
  · rw [okB_txt _ (by rw [HLen.out]; omega)] at hno; cases hno
  rw [bitOf_txt, txt_size] at hbits
  have hb2 : Below (w.alloc (.cells #[.int .i64 (n : Int), .int .i64 (s : Int), .int .i64 (L.length : Int), .pointer none, .pointer none, .pointer none] 61)).heap.size (w.alloc (.cells #[.int .i64 (n : Int), .int .i64 (s : Int), .int .i64 (L.length : Int), .pointer none, .pointer none, .pointer none] 61)) w2 := chain HB1.out hB2
  have hg2 : w2.heap[w.heap.size]? = some (.cells #[.int .i64 (n : Int), .int .i64 (s : Int), .int .i64 (L.length : Int), .pointer none, .pointer none, .pointer none] 61 (0, 0)) := (hb2.block _ (by simp)).trans (heap_alloc_new _ _)
  have c3 : w2.cell? ⟨w.heap.size, 3, none⟩ = some (.pointer none) := by rw [cell_of_row w2 _ 3 _ _ _ hg2]; rfl
  have f3 := frozen_of_row w2 _ 3 _ _ hg2
  have HB3 : Hid (Below w.heap.size w (w2.setCell ⟨w.heap.size, 3, none⟩ (.pointer (some ⟨bb, 0, none⟩)))) := ((chain HB0.out hb2).setCell (Nat.le_refl _) _)
  have HG3 : Hid ((w2.setCell ⟨w.heap.size, 3, none⟩ (.pointer (some ⟨bb, 0, none⟩))).heap[w.heap.size]? = some (.cells #[.int .i64 (n : Int), .int .i64 (s : Int), .int .i64 (L.length : Int), .pointer (some ⟨bb, 0, none⟩), .pointer none, .pointer none] 61 (0, 0))) := (by
    rw [heap_setCell_same w2 _ 3 _ _ _ hg2]; rfl : _ = _)
  have HBi : Hid _ := bits_nn hbits (set_nil c3 (.pointer (some ⟨bb, 0, none⟩)))
  have HN8 : Hid (Calls Tryz.prog 46 _ _ _) := S8.numsof_any L _ _ (EdgesAt.below HE.out HB3.out) (by omega) (fun e h => by have := HAll.out e h; rw [numE8]; omega)
  clear hB2 hbits hb2 hg2 HNB HB1 HB0
  go_wp2_with fail
  refine (Calls.mono HN8.out ?_)
  rintro e w4 ⟨v4, rfl, hnum4, hB4⟩
  have HS8 : Hid (Calls Tryz.prog 45 _ w4 _) := S8.newseq_any hnum4 (fun x hx => by
    obtain ⟨e, he, rfl⟩ := List.mem_map.1 hx
    have := HAll.out e he
    omega) (by simp [labs]; omega)
  have HB4 : Hid _ := hB4
  clear hB4 HN8 c3 f3
  go_wp2_with fail
  refine (Calls.mono HS8.out ?_)
  rintro e w5 ⟨bl, gl, rfl, hseq, hB5⟩
  have hb5 := chain HB4.out hB5
  have hg5 := (hb5.block w.heap.size (Array.getElem?_eq_some_iff.1 HG3.out).1).trans HG3.out
  have c4 : w5.cell? ⟨w.heap.size, 4, none⟩ = some (.pointer none) := by rw [cell_of_row w5 _ 4 _ _ _ hg5]; rfl
  have f4 := frozen_of_row w5 _ 4 _ _ hg5
  have HB6 : Hid (Below w.heap.size w (w5.setCell ⟨w.heap.size, 4, none⟩ (.pointer (some ⟨bl, 0, none⟩)))) := ((chain HB3.out hb5).setCell (Nat.le_refl _) _)
  have HG6 : Hid ((w5.setCell ⟨w.heap.size, 4, none⟩ (.pointer (some ⟨bl, 0, none⟩))).heap[w.heap.size]? = some (.cells #[.int .i64 (n : Int), .int .i64 (s : Int), .int .i64 (L.length : Int), .pointer (some ⟨bb, 0, none⟩), .pointer (some ⟨bl, 0, none⟩), .pointer none] 61 (0, 0))) := (by
    rw [heap_setCell_same w5 _ 4 _ _ _ hg5]; rfl : _ = _)
  have HBi6 : Hid _ := bits_nn (HBi.out.below hb5) (set_nil c4 (.pointer (some ⟨bl, 0, none⟩)))
  have HSe6 : Hid _ := seq_nn hseq (set_nil c4 (.pointer (some ⟨bl, 0, none⟩)))
  have HV : Hid (Calls Tryz.prog 39 _ (w5.setCell ⟨w.heap.size, 4, none⟩ (.pointer (some ⟨bl, 0, none⟩))) _) := callsIn_wide.1 (values_in Fence.wide 9 trivial rfl a0 L.length cap _)
  have hbv := below1 (w5.setCell ⟨w.heap.size, 4, none⟩ (.pointer (some ⟨bl, 0, none⟩))) (.cells #[.slice a0 L.length cap] 27)
  have hcv : ((w5.setCell ⟨w.heap.size, 4, none⟩ (.pointer (some ⟨bl, 0, none⟩))).alloc (.cells #[.slice a0 L.length cap] 27)).cell? ⟨w5.heap.size, 0, none⟩ = some (.slice a0 L.length cap) := by
    have h := cell_new (w5.setCell ⟨w.heap.size, 4, none⟩ (.pointer (some ⟨bl, 0, none⟩))) #[.slice a0 L.length cap] 27 0
    rw [World.size_setCell] at h
    exact h
  have HSt2 : Hid (Calls Tryz.prog 48 _ ((w5.setCell ⟨w.heap.size, 4, none⟩ (.pointer (some ⟨bl, 0, none⟩))).alloc (.cells #[.slice a0 L.length cap] 27)) _) := sortedst_any w5.heap.size (.slice a0 L.length cap) L (by omega) HSt.out _ (by rw [World.size_alloc, World.size_setCell]; omega) hcv (EdgesAt.below HE.out (chain HB6.out hbv)) (fun b0 len2 cap2 e hne => hlow.out b0 _ (chain HB6.out hbv).size (by cases e; rfl) hne)
  have HBv : Hid _ := hbv
  clear hB5 hb5 hg5 HS8 HB4 HBi HG3 HB3 hseq hnum4 hbv hcv
  go_wp2_with fail
  refine (Calls.mono HV.out ?_)
  rintro e w7 ⟨rfl, hw7⟩
  rw [hw7]
  clear hw7 w7 HV
  go_wp2_with fail
  refine (Calls.mono HSt2.out ?_)
  rintro e w8 ⟨v8, R, rfl, hrow8, hperm, hs2, hB8⟩
  have hE8 : EdgesAt w8 v8 R := ownE_edges hrow8
  have hRl := hperm.length_eq
  have HN16 : Hid (Calls Tryz.prog 51 _ w8 _) := S16.numsof_any R v8 w8 hE8 (by omega) (fun e h => by have := HAll.out e (hperm.mem_iff.1 h); rw [numE16]; omega)
  have HB8 : Hid _ := chain HBv.out hB8
  have HP : Hid _ := hperm
  have HS2 : Hid _ := hs2
  have HRl : Hid _ := hRl
  clear hE8 hrow8 hB8 HSt2 hperm hs2 hRl
  go_wp2_with fail
  refine (Calls.mono HN16.out ?_)
  rintro e w9 ⟨v9, rfl, hnum9, hB9⟩
  have HS16 : Hid (Calls Tryz.prog 50 _ w9 _) := S16.newseq_any hnum9 (fun x hx => by
    obtain ⟨e, he, rfl⟩ := List.mem_map.1 hx
    have := HAll.out e (HP.out.mem_iff.1 he)
    omega) (by have := HRl.out; simp [tos]; omega)
  have HB9 : Hid _ := chain HB8.out hB9
  clear hB9 HN16 HB8
  go_wp2_with fail
  refine (Calls.mono HS16.out ?_)
  rintro e w10 ⟨bt, gt, rfl, hseq, hB10⟩
  have hb10 := chain HB9.out hB10
  have hg10 := (hb10.block w.heap.size (Array.getElem?_eq_some_iff.1 HG6.out).1).trans HG6.out
  have c5 : w10.cell? ⟨w.heap.size, 5, none⟩ = some (.pointer none) := by rw [cell_of_row w10 _ 5 _ _ _ hg10]; rfl
  have f5 := frozen_of_row w10 _ 5 _ _ hg10
  have HB11 : Hid (Below w.heap.size w (w10.setCell ⟨w.heap.size, 5, none⟩ (.pointer (some ⟨bt, 0, none⟩)))) := ((chain HB6.out hb10).setCell (Nat.le_refl _) _)
  have hg11 : (w10.setCell ⟨w.heap.size, 5, none⟩ (.pointer (some ⟨bt, 0, none⟩))).heap[w.heap.size]? = some (.cells #[.int .i64 (n : Int), .int .i64 (s : Int), .int .i64 (L.length : Int), .pointer (some ⟨bb, 0, none⟩), .pointer (some ⟨bl, 0, none⟩), .pointer (some ⟨bt, 0, none⟩)] 61 (0, 0)) := (by
    rw [heap_setCell_same w10 _ 5 _ _ _ hg10]; rfl : _ = _)
  have hk := set_nil c5 (.pointer (some ⟨bt, 0, none⟩))
  have HGr : Hid (GraphAt (w10.setCell ⟨w.heap.size, 5, none⟩ (.pointer (some ⟨bt, 0, none⟩))) w.heap.size n s L) := (
    ⟨HOk.out, HSt.out, by rw [cell_of_row _ _ 0 _ _ _ hg11]; rfl, by rw [cell_of_row _ _ 1 _ _ _ hg11]; rfl, by rw [cell_of_row _ _ 2 _ _ _ hg11]; rfl,
      ⟨bb, bw, ba, W, by rw [cell_of_row _ _ 3 _ _ _ hg11]; rfl, bits_nn (HBi6.out.below hb10) hk⟩,
      ⟨bl, gl, by rw [cell_of_row _ _ 4 _ _ _ hg11]; rfl, seq_nn (HSe6.out.below hb10) hk⟩,
      ⟨R, bt, gt, by rw [cell_of_row _ _ 5 _ _ _ hg11]; rfl, seq_nn hseq hk, HP.out, HS2.out⟩⟩ : GraphAt _ _ _ _ _)
  clear hb10 hg10 hg11 hk hseq hB10 hnum9
  go_wp2
  go_ret
  exact ⟨_, rfl, HGr.out, HB11.out⟩
end Go.Proofs.YtphjbbbnbmafnabGreatDoor.G

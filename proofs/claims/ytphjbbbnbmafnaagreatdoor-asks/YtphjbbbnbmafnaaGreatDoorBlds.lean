/-
  trellislaw.lent: a new list of the edges to hand over, with eight others of the caller's behind; nothing that was there is written.
  trellislaw.built: one Build held against the document's: they give the same, and what was handed in reads as it did; nothing that was there is written.
  trellislaw.first and Builds: the document's example, and every Build: true, for every number and list of edges that lie in memory; nothing that was there is written.
-/
import Derived.Test.YtphjbbbnbmafnaaGreatDoorRBuild
import Derived.Test.YtphjbbbnbmafnaaGreatDoorKnown
namespace Go.Proofs.YtphjbbbnbmafnaaGreatDoor.G
open Go.RowKit

/-- the edges, and eight more of the caller's -/
def fullE (l : List E3) : List E3 := l ++ List.replicate 8 (77, 78, 79)
theorem fullE_len (l : List E3) : (fullE l).length = l.length + 8 := by simp [fullE]
theorem flat_cells {W : World} {g off : Nat} {l : List E3} (h : ∀ (j : Nat) (e : E3), l[j]? = some e → W.cell? ⟨g, off + j * 3, none⟩ = some (.int .i64 e.1) ∧ W.cell? ⟨g, off + j * 3 + 1, none⟩ = some (.int .i64 e.2.1) ∧ W.cell? ⟨g, off + j * 3 + 2, none⟩ = some (.int .i64 e.2.2)) (t : Nat) (u : Value) (hu : (flat l)[t]? = some u) : W.cell? ((⟨g, off, none⟩ : Addr).add t) = some u := by
  rw [addr_add']
  have ht : t < l.length * 3 := by
    have := (List.getElem?_eq_some_iff.1 hu).1
    rwa [flat_len] at this
  obtain ⟨e, he⟩ : ∃ e, l[t / 3]? = some e := ⟨_, List.getElem?_eq_getElem (by omega)⟩
  obtain ⟨h0, h1, h2⟩ := h (t / 3) e he
  obtain ⟨k0, k1, k2⟩ := flat_three he
  rcases (show t % 3 = 0 ∨ t % 3 = 1 ∨ t % 3 = 2 by omega) with r | r | r
  · rw [show t = t / 3 * 3 by omega, k0] at hu
    cases hu
    rw [show off + t = off + t / 3 * 3 by omega]; exact h0
  · rw [show t = t / 3 * 3 + 1 by omega, k1] at hu
    cases hu
    rw [show off + t = off + t / 3 * 3 + 1 by omega]; exact h1
  · rw [show t = t / 3 * 3 + 2 by omega, k2] at hu
    cases hu
    rw [show off + t = off + t / 3 * 3 + 2 by omega]; exact h2
theorem flat_one (l : List E3) (u : Value) (h : u ∈ flat l) : u.oneCell' = true := by
  unfold flat at h
  obtain ⟨e, _, h⟩ := List.mem_flatMap.1 h
  exact one3 _ _ _ u h
theorem copyE (W : World) (g dLen dCap : Nat) (cur : Array Value) (t ty : TypeId) (hg : W.heap[g]? = some (.cells cur t (0, 0))) (v : Value) (l : List E3) (he : EdgesAt W v l) (hl : l.length ≤ dLen) (hfit : l.length * 3 ≤ cur.size) :
    (Builtin.copy_ #[24, 24] ty #[.slice (some ⟨g, 0, none⟩) dLen dCap, v]).run Tryz.prog W = .ok (goInt l.length) (W.setRow g (flat l ++ cur.toList.drop (l.length * 3)).toArray) := by
  obtain ⟨i0, hi, _, hz1, _⟩ := info_parts Tryz.infoE
  obtain ⟨a0, cap, rfl, hed⟩ := he
  have hmin : Nat.min l.length dLen = l.length := Nat.min_eq_left hl
  cases l with
  | nil =>
    cases a0 <;> simp [Builtin.copy_, run_underlying Tryz.underlying24, Builtin.lenOf, Builtin.firstCells, sizeOf, typeInfo, hi, loadCells, loadCellsFrom, storeCells, flat, setRow_self W g cur t (0, 0) hg]
  | cons z zs =>
    obtain ⟨g2, off, rfl, _⟩ := hed 0 z rfl
    have hsrc := flat_cells (W := W) (g := g2) (off := off) (l := z :: zs) (fun j e hj => by
      obtain ⟨g3, off3, e3, r⟩ := hed j e hj
      cases e3; exact r)
    have hld := run_loadCells_list (P := Tryz.prog) W ⟨g2, off, none⟩ (flat (z :: zs)) hsrc
    have hst := run_storeCells_at Tryz.prog g 0 t (flat (z :: zs)) 0 cur W hg (by rw [flat_len]; omega) (flat_one _)
    simp only [Nat.add_zero, Nat.zero_add, List.take_zero, List.nil_append] at hst
    rw [flat_len] at hld hst
    have hnz : (z :: zs).length ≠ 0 := by simp
    clear hsrc hed
    generalize (z :: zs).length = M at hl hfit hmin hld hst hnz ⊢
    generalize flat (z :: zs) = F at hld hst ⊢
    simp [Builtin.copy_, run_underlying Tryz.underlying24, Builtin.lenOf, Builtin.firstCells, sizeOf, typeInfo, hi, hz1, hmin, hld, hst]
theorem wpList_copyE (W : World) {ops : Array Oper} {rest : List Oper} {o : Oper} {a : Act} {Q : Exit → Act → World → Prop} (hgd : o.guard = none) (d x : Operand)
    (ho : o.op = .call { callee := .builtin .copy, args := #[d, x], argTypes := #[24, 24] }) (g dLen dCap : Nat) (cur : Array Value) (t : TypeId) (hg : W.heap[g]? = some (.cells cur t (0, 0))) (v : Value) (l : List E3) (he : EdgesAt W v l) (hl : l.length ≤ dLen) (hfit : l.length * 3 ≤ cur.size)
    (hd : a.eval d = .slice (some ⟨g, 0, none⟩) dLen dCap) (hx : a.eval x = v)
    (h : wpList Tryz.prog ops Q rest (a.put o.dst (goInt l.length)) (W.setRow g (flat l ++ cur.toList.drop (l.length * 3)).toArray)) : wpList Tryz.prog ops Q (o :: rest) a W := by
  refine wpList_plain hgd fun K hK => ?_
  have hr := copyE W g dLen dCap cur t o.type hg v l he hl hfit
  unfold Oper.wp execOp
  simp only [ho, resolve, invoke, builtin, Sem.run_bind, Sem.run_pure, Result.andThen_ok, List.map_toArray, List.map_cons, List.map_nil, hd, hx, hr]
  exact hK _ _ h
theorem made_zero (n : Nat) : (madeCells (Value.agg #[.int .i64 0, .int .i64 0, .int .i64 0]).cells (n * 3)).toList = flat (List.replicate n (0, 0, 0)) := by
  apply List.ext_getElem?
  intro t
  by_cases h : t < n * 3
  · rw [flat_at _ t (by simpa using h)]
    have h3 : t % 3 < 3 := Nat.mod_lt _ (by decide)
    have hr : (List.replicate n ((0, 0, 0) : E3))[t / 3]! = (0, 0, 0) := by
      rw [getElem!_pos _ _ (by simp; omega)]; simp
    rw [hr]
    rcases (show t % 3 = 0 ∨ t % 3 = 1 ∨ t % 3 = 2 by omega) with e | e | e <;> simp [madeCells, Value.cells, h, e, encE]
  · rw [List.getElem?_eq_none (by simp [size_madeCells]; omega), List.getElem?_eq_none (by rw [flat_len]; simp; omega)]
theorem set_fill (l : List E3) (i : Nat) (L : List E3) (hi : l.length ≤ i) (hi2 : i < l.length + 8) (hl : L.length = l.length + 8) (h : L.take i = (fullE l).take i) : (L.set i (77, 78, 79)).take (i + 1) = (fullE l).take (i + 1) := by
  have hf : (fullE l)[i]? = some (77, 78, 79) := by
    unfold fullE
    rw [List.getElem?_append_right hi, List.getElem?_replicate, if_pos (by omega)]
  rw [take_snoc' hf, take_snoc' (show (L.set i (77, 78, 79))[i]? = some (77, 78, 79) by rw [List.getElem?_set_self (by omega)]), List.take_set, List.set_eq_of_length_le (by simp; omega), h]
set_option maxHeartbeats 4000000 in
set_option maxRecDepth 100000 in
theorem lentE_any (l : List E3) (v : Value) (w : World) (he : EdgesAt w v l) (hlen : l.length * 24 ≤ 140737488351232) :
    Calls Tryz.prog 27 #[v] w fun e w' => e = .returned (.slice (some ⟨w.heap.size, 0, none⟩) (l.length + 8) (l.length + 8)) ∧ RowE w' w.heap.size (l.length + 8) (fullE l) ∧ Below w.heap.size w w' := by
  obtain ⟨i0, hi, hz0, hz1, hz2⟩ := info_parts Tryz.infoE
  have HEd : Hid _ := he
  obtain ⟨a0, cap, rfl, _⟩ := he
  go_enter Tryz.func27, Tryz.ntmps27
  go_wp2_with (at_make; refine wpList_make_full _ rfl _ _ 24 rfl w.heap.size 38 i0 (.agg #[.int .i64 0, .int .i64 0, .int .i64 0]) 3 Tryz.underlying24 hi hz0 hz1 _ _ _ _ (l.length + 8) rfl rfl (by omega) (by omega) (by rw [hz2]; omega) (by unfold maxLen; omega) (Nat.le_refl _) ?_)
  intro w1 hown hgrow
  have hb1 : Below w.heap.size w w1 := (Below.refl _ _).grown hgrow (Nat.le_refl _) (fun k hk => by cases hk)
  obtain ⟨g, c1, cur, hv, _, hg, _, _, hcs, hct⟩ : ∃ g c1 cur, Value.slice (some ⟨w.heap.size, 0, none⟩) (l.length + 8) (l.length + 8) = .slice (some ⟨g, 0, none⟩) (l.length + 8) c1 ∧ w.heap.size ≤ g ∧ w1.heap[g]? = some (.cells cur 38 (0, 0)) ∧ l.length + 8 ≤ c1 ∧ c1 ≤ maxLen ∧ cur.size = c1 * 3 ∧ cur.toList.take ((l.length + 8) * 3) = (madeCells (Value.agg #[.int .i64 0, .int .i64 0, .int .i64 0]).cells ((l.length + 8) * 3)).toList := by
    rcases hown.2 with ⟨h0, _⟩ | h
    · cases h0
    · exact h
  simp only [Value.slice.injEq, Option.some.injEq, Addr.mk.injEq, true_and, and_true] at hv
  obtain ⟨rfl, rfl⟩ := hv
  have hE1 := EdgesAt.below HEd.out hb1
  have hR1 : RowE (w1.setRow w.heap.size (flat l ++ cur.toList.drop (l.length * 3)).toArray) w.heap.size (l.length + 8) (l ++ List.replicate 8 (0, 0, 0)) := by
    refine ⟨_, setRow_heap _ _ _ _ _ _ hg, ?_, ?_⟩
    · simp [flat_len, hcs]; omega
    · rw [made_zero] at hct
      rw [List.length_append, List.length_replicate, flat_append]
      show (flat l ++ cur.toList.drop (l.length * 3)).take ((l.length + 8) * 3) = _
      rw [List.take_append, flat_len, List.take_of_length_le (by rw [flat_len]; omega)]
      congr 1
      have h2 := congrArg (List.drop (l.length * 3)) hct
      rw [List.drop_take] at h2
      rw [h2, show List.replicate (l.length + 8) ((0, 0, 0) : E3) = List.replicate l.length (0, 0, 0) ++ List.replicate 8 (0, 0, 0) by rw [List.replicate_append_replicate], flat_append, List.drop_append_of_le_length (by rw [flat_len]; simp), List.drop_eq_nil_of_le (by rw [flat_len]; simp)]
      rfl
  have hbel : Below w.heap.size w (w1.setRow w.heap.size (flat l ++ cur.toList.drop (l.length * 3)).toArray) := below_setRow hb1 (Nat.le_refl _) _
  have HR1 : Hid _ := hR1
  have HBl : Hid _ := hbel
  have HCp : Hid _ := copyE w1 w.heap.size (l.length + 8) (l.length + 8) cur _ 3 hg _ l hE1 (by omega) (by rw [hcs]; omega)
  generalize w1.setRow w.heap.size (flat l ++ cur.toList.drop (l.length * 3)).toArray = W2 at HR1 HBl HCp
  clear hown hgrow hb1 hg hct hE1 hR1 hbel hcs
  go_wp2_with fail
  rw [HCp.out]
  clear HCp
  go_wp2
  go_loopw [4] (fun si wr => ∃ (i : Nat) (L : List E3), l.length ≤ i ∧ i ≤ l.length + 8 ∧ si = .int .i64 (i : Int) ∧ Hid (L.length = l.length + 8 ∧ L.take i = (fullE l).take i ∧ RowE wr w.heap.size (l.length + 8) L ∧ Below w.heap.size w wr)) (fun si _ => l.length + 8 - (intOf si).toNat)
  case atStart => exact ⟨l.length, l ++ List.replicate 8 (0, 0, 0), Nat.le_refl _, by omega, rfl, by simp, by unfold fullE; simp, HR1.out, HBl.out⟩
  case round =>
    obtain ⟨i, L, hi1, hi2, rfl, HI⟩ := hrel
    by_cases hlt : i < l.length + 8
    · obtain ⟨z, hz⟩ : ∃ z, L[i]? = some z := ⟨_, List.getElem?_eq_getElem (by rw [HI.out.1]; exact hlt)⟩
      obtain ⟨e0, e1, e2⟩ := HI.out.2.2.1.cells hz
      have f0 := HI.out.2.2.1.frozen (i * 3)
      have f1 := HI.out.2.2.1.frozen (i * 3 + 1)
      have f2 := HI.out.2.2.1.frozen (i * 3 + 2)
      have HP : Hid _ := HI.out.2.2.1.put (k := i) (77, 78, 79) (by rw [HI.out.1]; exact hlt)
      have hiI : (i : Int) < (l.length : Int) + 8 := by omega
      have hiI2 : (i : Int) < ((l.length + 8 : Nat) : Int) := by omega
      clear hz
      go_wp2
      go_roundw
      case rel => exact ⟨i + 1, L.set i (77, 78, 79), by omega, by omega, by go_num, by rw [List.length_set]; exact HI.out.1, set_fill l i L hi1 hlt HI.out.1 HI.out.2.1, HP.out, ((HI.out.2.2.2.setCell (p := ⟨w.heap.size, i * 3, none⟩) (Nat.le_refl _) _).setCell (p := ⟨w.heap.size, i * 3 + 1, none⟩) (Nat.le_refl _) _).setCell (p := ⟨w.heap.size, i * 3 + 2, none⟩) (Nat.le_refl _) _⟩
      case measure => simp [intOf] <;> omega
    · obtain rfl : i = l.length + 8 := by omega
      have hL : L = fullE l := by
        have h := HI.out.2.1
        rw [List.take_of_length_le (by rw [HI.out.1]; exact Nat.le_refl _), List.take_of_length_le (by rw [fullE_len]; exact Nat.le_refl _)] at h
        exact h
      have HF : Hid (RowE wr w.heap.size (l.length + 8) (fullE l) ∧ Below w.heap.size w wr) := (by rw [← hL]; exact HI.out.2.2 : _ ∧ _)
      clear hL HI
      go_wp2
      go_ret
      exact ⟨rfl, HF.out⟩
end Go.Proofs.YtphjbbbnbmafnaaGreatDoor.G

namespace Go.Proofs.YtphjbbbnbmafnaaGreatDoor.G
open Go.RowKit

set_option maxHeartbeats 400000 in
theorem num_any (n : Int) (w : World) : Calls Tryz.prog 17 #[.int .i64 n] w fun e w' => e = .returned (.int .i64 n) ∧ w' = w := by
  go_enter Tryz.func17, Tryz.ntmps17
  go_wp2
  go_ret
  exact ⟨rfl, rfl⟩
theorem RowE.edges {W : World} {g cap : Nat} {L : List E3} (h : RowE W g cap L) (k cap' : Nat) (hk : k ≤ L.length) : EdgesAt W (.slice (some ⟨g, 0, none⟩) k cap') (L.take k) := by
  refine ⟨_, cap', by rw [List.length_take, Nat.min_eq_left hk], fun j e hj => ⟨g, 0, rfl, ?_⟩⟩
  rw [Nat.zero_add]
  refine h.cells ?_
  rw [List.getElem?_take] at hj
  split at hj
  · exact hj
  · cases hj
theorem RowE.below {W W' : World} {g cap : Nat} {L : List E3} (h : RowE W g cap L) (hB : Below W.heap.size W W') : RowE W' g cap L := by
  obtain ⟨cur, hg, r⟩ := h
  exact ⟨cur, by rw [hB.block g (Array.getElem?_eq_some_iff.1 hg).1]; exact hg, r⟩
/-- what the owner has written over, and what is left -/
def overE (l : List E3) (i : Nat) : List E3 := List.replicate i (-1, 0, 0) ++ (fullE l).drop i
theorem overE_len (l : List E3) (i : Nat) (h : i ≤ l.length + 8) : (overE l i).length = l.length + 8 := by
  unfold overE; simp [fullE_len]; omega
theorem overE_at {l : List E3} {i : Nat} {x : E3} (h : (fullE l)[i]? = some x) : (overE l i)[i]? = some x := by
  unfold overE
  rw [List.getElem?_append_right (by simp)]
  simp [h]
theorem overE_step {l : List E3} {i : Nat} {x : E3} (h : (fullE l)[i]? = some x) : (overE l i).set i (-1, 0, 0) = overE l (i + 1) := by
  unfold overE
  rw [List.set_append_right _ _ (by simp)]
  obtain ⟨hi, _⟩ := List.getElem?_eq_some_iff.1 h
  rw [List.length_replicate, Nat.sub_self, List.drop_eq_getElem_cons hi, List.set_cons_zero, List.replicate_succ']
  simp
set_option maxHeartbeats 4000000 in
set_option maxRecDepth 100000 in
theorem built_any (n s : Int) (l : List E3) (v : Value) (w : World) (he : EdgesAt w v l) (hcap : CapOk v) (hlen : l.length * 24 ≤ 140737488351232) :
    Calls Tryz.prog 10 #[.int .i64 n, .int .i64 s, v] w fun e w' => e = .returned (.tuple #[.string (imgOf n s l), .bool true]) ∧ Below w.heap.size w w' := by
  have HEd : Hid _ := he
  have HCp : Hid _ := hcap
  have HLe : Hid (Calls Tryz.prog 27 _ w _) := lentE_any l v w he hlen
  obtain ⟨a0, cap, rfl, hed⟩ := he
  have HE : Hid _ := hed
  have HNm : ∀ (q : Int) W, Hid (Calls Tryz.prog 17 #[.int .i64 q] W _) := fun q W => num_any q W
  clear hed hcap
  go_enter Tryz.func10, Tryz.ntmps10
  go_wp2_with fail
  refine (Calls.mono HLe.out ?_)
  rintro e w1 ⟨rfl, hR1, hB1⟩
  have hE1 : EdgesAt w1 (.slice (some ⟨w.heap.size, 0, none⟩) l.length (l.length + 8)) l := by
    have h := hR1.edges l.length (l.length + 8) (by rw [fullE_len]; omega)
    rwa [show (fullE l).take l.length = l by unfold fullE; simp] at h
  have HBd : Hid (Calls Tryz.prog 28 _ w1 _) := build_any n s l _ w1 hE1
  have HR1 : Hid _ := hR1
  have HB1 : Hid _ := hB1
  have hll : l.length ≤ l.length + 8 := by omega
  clear hR1 hB1 hE1 HLe
  go_wp2_with fail
  refine (Calls.mono HBd.out ?_)
  rintro e w2 ⟨rfl, hB2⟩
  have HB2 : Hid _ := chain HB1.out hB2
  have HR2 : Hid _ := RowE.below HR1.out hB2
  have HRb : Hid (Calls Tryz.prog 29 _ w2 _) := rbuild_any n s l _ w2 (EdgesAt.below HEd.out HB2.out) HCp.out
  clear hB2 HR1 HBd
  go_wp2_with fail
  refine (Calls.mono HRb.out ?_)
  rintro e w3 ⟨rfl, hB3⟩
  have HB3 : Hid _ := chain HB2.out hB3
  have HR3 : Hid _ := RowE.below HR2.out hB3
  clear hB3 HR2 HRb
  generalize himg : imgOf n s l = img
  generalize herr : errOf n s l = er
  have HIm : Hid _ := himg
  clear himg herr
  go_wp2_with fail
  refine (Calls.mono (HNm er w3).out ?_)
  rintro e wx ⟨rfl, hw⟩
  rw [hw]
  clear hw wx
  go_wp2_with fail
  refine (Calls.mono (HNm er w3).out ?_)
  rintro e wx ⟨rfl, hw⟩
  rw [hw]
  clear hw wx
  go_wp2
  go_loopw [13, 14] (fun so si wr => ∃ i : Nat, i ≤ l.length + 8 ∧ si = .int .i64 (i : Int) ∧ so = .bool true ∧ Hid (RowE wr w.heap.size (l.length + 8) (overE l i) ∧ Below w.heap.size w wr)) (fun _ si _ => l.length + 8 - (intOf si).toNat)
  case atStart => exact ⟨0, Nat.zero_le _, rfl, rfl, by rw [show overE l 0 = fullE l from List.nil_append _]; exact ⟨HR3.out, HB3.out⟩⟩
  case round =>
    obtain ⟨i, hi, rfl, rfl, HI⟩ := hrel
    by_cases hlt : i < l.length + 8
    · obtain ⟨x, hx⟩ : ∃ x, (fullE l)[i]? = some x := ⟨_, List.getElem?_eq_getElem (by rw [fullE_len]; exact hlt)⟩
      have hiI : (i : Int) < (l.length : Int) + 8 := by omega
      have hiI2 : (i : Int) < ((l.length + 8 : Nat) : Int) := by omega
      have HSt : Hid _ := overE_step hx
      have HOv : Hid _ := overE_at hx
      have gE := guardE
      have hil : i < (overE l i).length := by rw [overE_len l i hi]; exact hlt
      by_cases hlo : i < l.length
      · have hxl : l[i]? = some x := by
          have h := hx
          unfold fullE at h
          rwa [List.getElem?_append_left hlo] at h
        obtain ⟨g, off, rfl, b0, b1, b2⟩ := HE.out i x hxl
        have d0 := cell_al (o := .cells #[.int .i64 77, .int .i64 78, .int .i64 79] 38) (cell_kept HI.out.2 _ _ b0)
        have d1 := cell_al (o := .cells #[.int .i64 77, .int .i64 78, .int .i64 79] 38) (cell_kept HI.out.2 _ _ b1)
        have d2 := cell_al (o := .cells #[.int .i64 77, .int .i64 78, .int .i64 79] 38) (cell_kept HI.out.2 _ _ b2)
        obtain ⟨x1, x2, x3⟩ := x
        simp only at d0 d1 d2
        have hloI : (i : Int) < (l.length : Int) := by omega
        clear hx hxl b0 b1 b2
        have hRx : RowE (wr.alloc (.cells #[.int .i64 x1, .int .i64 x2, .int .i64 x3] 38)) w.heap.size (l.length + 8) (overE l i) := RowE.below HI.out.1 (below1 _ _)
        have hBx : Below w.heap.size w (wr.alloc (.cells #[.int .i64 x1, .int .i64 x2, .int .i64 x3] 38)) := HI.out.2.alloc HI.out.2.size _
        have HRx : Hid _ := hRx
        have HBx : Hid _ := hBx
        obtain ⟨b0, b1, b2⟩ := box3 wr (.int .i64 x1) (.int .i64 x2) (.int .i64 x3) 38
        clear hRx hBx
        go_upto_region 11 with fail
        generalize wr.alloc (.cells #[.int .i64 x1, .int .i64 x2, .int .i64 x3] 38) = W2 at HRx HBx b0 b1 b2 ⊢
        obtain ⟨c0, c1, c2⟩ := RowE.cells HRx.out HOv.out
        have f0 := RowE.frozen HRx.out (i * 3)
        have f1 := RowE.frozen HRx.out (i * 3 + 1)
        have f2 := RowE.frozen HRx.out (i * 3 + 2)
        simp only at c0 c1 c2
        have hEq := eqlE x1 x2 x3 x1 x2 x3 true (decide_eq_true rfl)
        go_quiet (fail)
        go_wp2
        have HP : Hid _ := (RowE.drewN HRx.out nq).put (k := i) (-1, 0, 0) hil
        go_roundw
        case rel =>
          refine ⟨i + 1, by omega, by go_num, rfl, ?_⟩
          have h := HP.out
          rw [HSt.out] at h
          exact (show _ ∧ _ from ⟨h, (((below_dn HBx.out nq).setCell (p := ⟨w.heap.size, i * 3, none⟩) (Nat.le_refl _) _).setCell (p := ⟨w.heap.size, i * 3 + 1, none⟩) (Nat.le_refl _) _).setCell (p := ⟨w.heap.size, i * 3 + 2, none⟩) (Nat.le_refl _) _⟩)
        case measure => simp [intOf] <;> omega
      · have hx7 : x = (77, 78, 79) := by
          have h := hx
          unfold fullE at h
          rw [List.getElem?_append_right (by omega), List.getElem?_replicate, if_pos (by omega)] at h
          exact (Option.some.inj h).symm
        have hloI : ¬ (i : Int) < (l.length : Int) := by omega
        clear hx
        obtain ⟨x1, x2, x3⟩ := x
        obtain ⟨rfl, rfl, rfl⟩ : x1 = 77 ∧ x2 = 78 ∧ x3 = 79 := by simpa using hx7
        clear hx7
        have hRx : RowE (wr.alloc (.cells #[.int .i64 77, .int .i64 78, .int .i64 79] 38)) w.heap.size (l.length + 8) (overE l i) := RowE.below HI.out.1 (below1 _ _)
        have hBx : Below w.heap.size w (wr.alloc (.cells #[.int .i64 77, .int .i64 78, .int .i64 79] 38)) := HI.out.2.alloc HI.out.2.size _
        have HRx : Hid _ := hRx
        have HBx : Hid _ := hBx
        obtain ⟨b0, b1, b2⟩ := box3 wr (.int .i64 77) (.int .i64 78) (.int .i64 79) 38
        clear hRx hBx
        go_upto_region 11 with fail
        generalize wr.alloc (.cells #[.int .i64 77, .int .i64 78, .int .i64 79] 38) = W2 at HRx HBx b0 b1 b2 ⊢
        obtain ⟨c0, c1, c2⟩ := RowE.cells HRx.out HOv.out
        have f0 := RowE.frozen HRx.out (i * 3)
        have f1 := RowE.frozen HRx.out (i * 3 + 1)
        have f2 := RowE.frozen HRx.out (i * 3 + 2)
        simp only at c0 c1 c2
        have hEq := eqlE 77 78 79 77 78 79 true (decide_eq_true rfl)
        go_quiet (fail)
        go_wp2
        have HP : Hid _ := (RowE.drewN HRx.out nq).put (k := i) (-1, 0, 0) hil
        go_roundw
        case rel =>
          refine ⟨i + 1, by omega, by go_num, rfl, ?_⟩
          have h := HP.out
          rw [HSt.out] at h
          exact (show _ ∧ _ from ⟨h, (((below_dn HBx.out nq).setCell (p := ⟨w.heap.size, i * 3, none⟩) (Nat.le_refl _) _).setCell (p := ⟨w.heap.size, i * 3 + 1, none⟩) (Nat.le_refl _) _).setCell (p := ⟨w.heap.size, i * 3 + 2, none⟩) (Nat.le_refl _) _⟩)
        case measure => simp [intOf] <;> omega
    · obtain rfl : i = l.length + 8 := by omega
      have hiI : ¬ ((l.length + 8 : Nat) : Int) < (l.length : Int) + 8 := by omega
      have HBf : Hid _ := HI.out.2
      clear HI
      go_wp2
      go_ret2
      exact ⟨by rw [HIm.out]; rfl, HBf.out⟩
end Go.Proofs.YtphjbbbnbmafnaaGreatDoor.G

namespace Go.Proofs.YtphjbbbnbmafnaaGreatDoor.G
open Go.RowKit

set_option maxHeartbeats 1000000 in
set_option maxRecDepth 100000 in
theorem first_any (w : World) : Calls Tryz.prog 6 #[] w fun e w' => e = .returned (.bool true) ∧ Below w.heap.size w w' := by
  have hB1 := below1 w (.cells #[.int .i64 0, .int .i64 0, .int .i64 1] 38)
  have hE : EdgesAt (w.alloc (.cells #[.int .i64 0, .int .i64 0, .int .i64 1] 38)) (.slice (some ⟨w.heap.size, 0, none⟩) 1 1) [(0, 0, 1)] := by
    refine ⟨_, 1, rfl, fun j e hj => ?_⟩
    match j, hj with
    | 0, hj =>
      simp at hj; subst hj
      exact ⟨w.heap.size, 0, rfl, by simp, by simp, by simp⟩
  have HBt : Hid (Calls Tryz.prog 10 _ (w.alloc (.cells #[.int .i64 0, .int .i64 0, .int .i64 1] 38)) _) := built_any 2 1 [(0, 0, 1)] _ _ hE (fun a n c e => by cases e; decide) (by decide)
  have hs := first_size
  have hh := first_head
  generalize imgOf 2 1 [(0, 0, 1)] = img at HBt hs hh
  have HB1 : Hid _ := hB1
  clear hE hB1
  go_enter Tryz.func6, Tryz.ntmps6
  go_wp2_with fail
  refine (Calls.mono HBt.out ?_)
  rintro e w2 ⟨rfl, hB2⟩
  have HB2 : Hid _ := chain HB1.out hB2
  clear hB2
  go_wp2
  go_ret
  exact ⟨rfl, HB2.out⟩
end Go.Proofs.YtphjbbbnbmafnaaGreatDoor.G

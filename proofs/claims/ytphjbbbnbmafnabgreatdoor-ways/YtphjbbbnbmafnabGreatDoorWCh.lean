/-
  Reach, as the laws of expressions ask it: where ways lead, within the graph; lists put one behind the other.
  The laws' chained: y leads from where x does to just what xy does; a letter leads where edges lead: true.
-/
import Derived.Test.YtphjbbbnbmafnabGreatDoorWEx
import Derived.Test.YtphjbbbnbmafnabGreatDoorPHs
import Derived.Test.YtphjbbbnbmafnabGreatDoorPSp16
import Derived.Deep.RegionHeld3
namespace Go.Proofs.YtphjbbbnbmafnabGreatDoor.G
open Go.RowKit Go.Shelf

/-- the edges from a node, as Out gives them -/
abbrev outsOf (L : List E3) (u : Nat) : List E3 := L.filter (fromB (u : Int) ((u : Int) + 1))
theorem eof_iff (L : List E3) (m c v : Nat) : Eof (outsOf L) m c v ↔ ((m : Int), (c : Int), (v : Int)) ∈ L := by
  unfold Eof outsOf
  rw [List.mem_filter]
  refine ⟨fun h => h.1, fun h => ⟨h, ?_⟩⟩
  unfold fromB
  simp only [decide_eq_true_eq]
  omega
theorem okG_edge {n s : Nat} {L : List E3} (h : okG n s L) : ∀ e ∈ L, ∃ a c b : Nat, e = ((a : Int), (c : Int), (b : Int)) ∧ a < n ∧ c < s ∧ b < n := fun e he => by
  obtain ⟨h1, h2, h3, h4, h5, h6⟩ := h.2 e he
  obtain ⟨a, c, b⟩ := e
  simp only at h1 h2 h3 h4 h5 h6
  refine ⟨a.toNat, c.toNat, b.toNat, ?_, by omega, by omega, by omega⟩
  rw [Int.toNat_of_nonneg h1, Int.toNat_of_nonneg h3, Int.toNat_of_nonneg h5]
theorem outs_ok {n s : Nat} {L : List E3} (h : okG n s L) (hL : L.length ≤ 20000) : OutsOk (outsOf L) n s := fun u hu => by
  refine ⟨Nat.le_trans (List.length_filter_le _ _) (Nat.le_trans hL (by omega)), fun e he => ?_⟩
  obtain ⟨h1, h2⟩ := List.mem_filter.1 he
  obtain ⟨a, c, b, rfl, ha, hc, hb⟩ := okG_edge h e h1
  unfold fromB at h2
  simp only [decide_eq_true_eq] at h2
  obtain rfl : a = u := by omega
  exact ⟨c, b, rfl, hc, hb⟩
theorem out_c {w : World} {b n s : Nat} {L : List E3} (h : GraphAt w b n s L) : OutC (outsOf L) w b n := fun W hW u hu => by
  have hbd := h.bd
  refine (gout_any (h.below hW) (u : Int) (by omega) (by omega)).mono ?_
  rintro r w' (⟨h1, _⟩ | ⟨_, z, h1, h2⟩)
  · exact absurd ⟨by omega, by omega⟩ h1
  · exact ⟨z, h1, h2⟩
theorem rel_lt {E : Nat → Nat → Nat → Prop} {n : Nat} (hE : ∀ a c b, E a c b → b < n) : ∀ (t : RxM.Rx) (u v : Nat), u < n → RxM.rel E t u v → v < n
  | .void, _, _, _, h => h.elim
  | .eps, u, v, hu, h => by have h : u = v := h; omega
  | .sym _, _, _, _, ⟨c, _, h⟩ => hE _ c _ h
  | .star t, u, v, hu, h => by
    have h2 : RxM.Many (RxM.rel E t) u v := h
    clear h
    induction h2 with
    | nil => exact hu
    | snoc _ hr ih => exact rel_lt hE t _ _ ih hr
  | .cat a b, u, v, hu, ⟨m, h1, h2⟩ => rel_lt hE b m v (rel_lt hE a u m hu h1) h2
  | .alt a b, u, v, hu, h => h.elim (rel_lt hE a u v hu) (rel_lt hE b u v hu)
/-- Reach of a graph of 50 nodes and 4 labels, whatever memory is new -/
def ReachC (L : List E3) (w0 : World) (b : Nat) : Prop := ∀ W, Below w0.heap.size w0 W → ∀ (u : Nat) (q : ByteArray) (t : RxM.Rx), u < 50 → q.size ≤ 200 → RxM.read 4 (codes q) = some t →
  Calls Tryz.prog 10 #[.pointer (some ⟨b, 0, none⟩), .int .i64 (u : Int), .string q] W fun e w' => ∃ v res, e = .returned (.tuple #[v, .int .i64 0]) ∧ w'.ownsRow W.heap.size 3 1 v res.length (ints res) ∧ res.Pairwise (· < ·) ∧ (∀ x, x ∈ res ↔ RxM.rel (Eof (outsOf L)) t u x) ∧ res.length ≤ 50 ∧ Below W.heap.size W w'
theorem eof_lt {L : List E3} (h : okG ((50 : Nat) : Int) ((4 : Nat) : Int) L) (a c b : Nat) (he : Eof (outsOf L) a c b) : b < 50 := by
  obtain ⟨a2, c2, b2, e, _, _, hb⟩ := okG_edge (n := 50) (s := 4) h _ ((eof_iff L a c b).1 he)
  injection e with _ e
  injection e with _ e
  omega
open Classical in
theorem rise_len {res : List Nat} {n : Nat} (hp : res.Pairwise (· < ·)) (h : ∀ x ∈ res, x < n) : res.length ≤ n := by
  have e := RxM.rise_one res ((List.range n).filter fun v => decide (v ∈ res)) hp ((List.pairwise_lt_range).filter _) (fun x => by
    rw [List.mem_filter, List.mem_range, decide_eq_true_eq]
    exact ⟨fun hx => ⟨h x hx, hx⟩, fun hx => hx.2⟩)
  rw [e]
  refine Nat.le_trans (List.length_filter_le _ _) ?_
  rw [List.length_range]
  exact Nat.le_refl _
theorem reach_c {w : World} {b : Nat} {L : List E3} (hg : GraphAt w b 50 4 L) (hT : TzAt w) : ReachC L w b := fun W hW u q t hu hq hr => by
  have hg2 := hg.below hW
  refine (greach_any b 50 4 (u : Int) q W (hT.below hW) (out_c hg2) (outs_ok hg.ok hg.bd.2.2.2.2) (by omega) (by omega) hg2.sz0 hg2.sz1).mono ?_
  rintro e w' ⟨rv, c, res, rfl, hB, hown, hcase⟩
  rcases hcase with ⟨h1, _⟩ | ⟨_, h1 | h1, _⟩ | ⟨_, _, t2, ht, rfl, hp, hm⟩
  · exact absurd ⟨by omega, by omega⟩ h1
  · omega
  · rw [hr] at h1; cases h1
  · rw [hr] at ht
    injection ht with ht
    subst ht
    have hm2 : ∀ x, x ∈ res ↔ RxM.rel (Eof (outsOf L)) t u x := fun x => by
      rw [hm x, Int.toNat_natCast]
      exact ⟨fun h => h.2, fun h => ⟨rel_lt (eof_lt hg.ok) t u x hu h, h⟩⟩
    exact ⟨rv, res, rfl, hown, hp, hm2, rise_len hp (fun x hx => ((hm x).1 hx).1), hB⟩
theorem app_nil (w : World) : (Builtin.append_ #[22, 22] 22 #[.slice none 0 0, .slice none 0 0]).run Tryz.prog w = .ok (.slice none 0 0) w := by
  simp [go_sem]
theorem app_some (w : World) (g n cap : Nat) (h : n ≤ cap) : (Builtin.append_ #[22, 22] 22 #[.slice (some ⟨g, 0, none⟩) n cap, .slice none 0 0]).run Tryz.prog w = .ok (.slice (some ⟨g, 0, none⟩) n cap) w := by
  simp [go_sem, h]
theorem Tryz.infoIi : (Tryz.prog.info? 3).map (fun i => (i.zero, i.size, i.bytes)) = some (some (.int .i64 0), 1, 8) := by kernel_rfl
theorem own_nums {w : World} {b : Nat} {v : Value} {l : List Nat} (h : w.ownsRow b 3 1 v l.length (ints l)) : NumsAt .i64 w v l := nums_own (by unfold vals; exact h)
theorem ints_app (l m : List Nat) : ints (l ++ m) = ints l ++ ints m := by unfold ints; simp
theorem run_append_nums (w : World) (b b2 : Nat) (v vf : Value) (l lf : List Nat) (h : w.ownsRow b 3 1 v l.length (ints l)) (hf : w.ownsRow b2 3 1 vf lf.length (ints lf)) (hlen : l.length + lf.length ≤ 1000000) (hb : b ≤ w.heap.size) :
    ∃ v' w', (Builtin.append_ #[22, 22] 22 #[v, vf]).run Tryz.prog w = .ok v' w' ∧ w'.ownsRow b 3 1 v' (l ++ lf).length (ints (l ++ lf)) ∧ Below b w w' := by
  obtain ⟨i1, hi1, hz0, hz1, hz2⟩ := info_parts Tryz.infoIi
  rcases hf.2 with ⟨rfl, h0⟩ | ⟨g2, cap2, cur2, rfl, _⟩
  · obtain rfl : lf = [] := List.length_eq_zero_iff.1 h0
    rw [List.append_nil]
    rcases h.2 with ⟨rfl, _⟩ | ⟨g, cap, cur, rfl, _, _, hnc, _⟩
    · exact ⟨_, w, app_nil w, h, Below.refl _ _⟩
    · exact ⟨_, w, app_some w g _ cap hnc, h, Below.refl _ _⟩
  · obtain ⟨v', w', hr, h2, h3, _⟩ := run_append_own_wide (P := Tryz.prog) w b 22 22 3 i1 (.int .i64 0) 1 8 Tryz.underlying22 hi1 hz0 hz1 hz2 rfl (by decide) v l.length (ints l) h ⟨g2, 0, none⟩ lf.length cap2 (ints lf) (by simp) (fun j u hj => by
      have hjl := (List.getElem?_eq_some_iff.1 hj).1
      have := hf.cellAt j (by simp at hjl ⊢; omega)
      rw [hj] at this
      cases j with
      | zero => simpa [Addr.add] using this
      | succ j => simpa [Addr.add] using this) (fun u hu => by
      simp only [ints, List.mem_map] at hu
      obtain ⟨x, _, rfl⟩ := hu
      rfl) (by unfold maxLen; omega) (by omega) hb
    exact ⟨v', w', hr, by rw [List.length_append, ints_app]; exact h2, (Below.refl _ w).grown h3 hb (fun k e => (h.lt k e).1)⟩
theorem wpList_append_nums {ops : Array Oper} {rest : List Oper} {o : Oper} {a : Act} {Q : Exit → Act → World → Prop} (w : World) (hgd : o.guard = none) (s x : Operand)
    (ho : o.op = .call { callee := .builtin .append, args := #[s, x], argTypes := #[22, 22] }) (hty : o.type = 22) (b b2 : Nat) (v vf : Value) (l lf : List Nat) (hs : a.eval s = v) (hx : a.eval x = vf) (h : w.ownsRow b 3 1 v l.length (ints l)) (hf : w.ownsRow b2 3 1 vf lf.length (ints lf)) (hlen : l.length + lf.length ≤ 1000000) (hb : b ≤ w.heap.size)
    (hK : ∀ v' w', w'.ownsRow b 3 1 v' (l ++ lf).length (ints (l ++ lf)) → Below b w w' → wpList Tryz.prog ops Q rest (a.put o.dst v') w') : wpList Tryz.prog ops Q (o :: rest) a w :=
  wpList_plain hgd fun _ hK2 => by
    obtain ⟨v', w', hr, h1, h2⟩ := run_append_nums w b b2 v vf l lf h hf hlen hb
    unfold Oper.wp execOp
    simp only [ho, resolve, invoke, builtin, Sem.run_bind, Sem.run_pure, Result.andThen_ok, List.map_toArray, List.map_cons, List.map_nil, hs, hx, hty, hr]
    exact hK2 _ _ (hK v' w' h1 h2)
end Go.Proofs.YtphjbbbnbmafnabGreatDoor.G

namespace Go.Proofs.YtphjbbbnbmafnabGreatDoor.G
open Go.RowKit Go.Shelf

attribute [local go_sem ↓] Go.wp_at_zero Go.wp_at_succ
theorem one_nums (w : World) (x : Nat) : NumsAt .i64 (w.alloc (.cells #[.int .i64 (x : Int)] 3)) (.slice (some ⟨w.heap.size, 0, none⟩) 1 1) [x] :=
  ⟨_, 1, rfl, .inr ⟨w.heap.size, 0, rfl, fun j y hj => by
    cases j with
    | zero => simp at hj; subst hj; exact cell_new _ _ _ 0
    | succ j => simp at hj⟩⟩
theorem codes_letter {k : Nat} (hk : k < 4) : codes ⟨#[lby k]⟩ = [97 + k] := by
  rw [codes_one, lby_nat hk]
set_option maxRecDepth 100000 in
set_option maxHeartbeats 16000000 in
theorem chained_any {w : World} {b : Nat} {L : List E3} (hg : GraphAt w b 50 4 L) (hRC : ReachC L w b) (va vr : Value) (A Rw : List Nat) (y : ByteArray) (ty : RxM.Rx) (k u : Nat) (ha : NumsAt .i64 w va A) (hr : NumsAt .i64 w vr Rw) (hA : ∀ x ∈ A, x < 50) (hAl : A.length ≤ 50) (hRl : Rw.length ≤ 50) (hy : y.size ≤ 200) (hty : RxM.read 4 (codes y) = some ty) (hk : k < 4) (hu : u < 50)
    (hrow : ∀ x, x ∈ Rw ↔ ∃ m, m ∈ A ∧ RxM.rel (Eof (outsOf L)) ty m x) :
    Calls Tryz.prog 13 #[.pointer (some ⟨b, 0, none⟩), va, .string y, vr, .string ⟨#[lby k]⟩, .int .i64 (u : Int)] w fun e w' => e = .returned (.bool true) ∧ Below w.heap.size w w' := by
  have HR : Hid (NumsAt .i64 w vr Rw) := hr
  have HG : Hid (GraphAt w b 50 4 L) := hg
  have HRC : Hid (ReachC L w b) := hRC
  have HH : Hid (_ ∧ _ ∧ _) := ⟨hA, hty, hrow⟩
  obtain ⟨a0, ca, rfl, hca⟩ := ha.open
  have HA : Hid _ := hca
  clear hr hg hRC hA hty hrow ha hca
  go_enter Tryz.func13, Tryz.ntmps13
  go_wp2
  go_loopw [13, 14] (fun s13 s14 wr => ∃ (i : Nat) (acc : List Nat), i ≤ A.length ∧ s14 = .int .i64 (i : Int) ∧ acc.length ≤ 50 * i ∧ Hid (wr.ownsRow w.heap.size 3 1 s13 acc.length (ints acc) ∧ (∀ x, x ∈ acc ↔ ∃ m, m ∈ A.take i ∧ RxM.rel (Eof (outsOf L)) ty m x) ∧ Below w.heap.size w wr)) (fun _ s14 _ => A.length - (intOf s14).toNat)
  case atStart => exact ⟨0, [], Nat.zero_le _, rfl, by simp, World.ownsRow_nil _ _ _ _, fun x => by simp, Below.refl _ _⟩
  case round =>
    obtain ⟨i, acc, hi, rfl, hal, HI⟩ := hrel
    by_cases hlt : i < A.length
    · obtain ⟨m, hm⟩ : ∃ m, A[i]? = some m := ⟨_, List.getElem?_eq_getElem hlt⟩
      obtain ⟨g, off, rfl, c0⟩ := HA.out i m hm
      have c1 := cell_kept HI.out.2.2 _ _ c0
      have hiI : (i : Int) < (A.length : Int) := by omega
      have HC : Hid (Calls Tryz.prog 10 #[.pointer (some ⟨b, 0, none⟩), .int .i64 (m : Int), .string y] wr _) := HRC.out wr HI.out.2.2 m y ty (HH.out.1 m (List.mem_of_getElem? hm)) hy HH.out.2.1
      have HX : Hid (A[i]? = some m) := hm
      clear hm
      go_wp2_with fail
      refine (Calls.mono HC.out ?_)
      rintro e w1 ⟨vl, res, rfl, hown, hp, hmem, hlen, hB1⟩
      have hB0 := chain HI.out.2.2 hB1
      have hsub : allIn res Rw = true := allIn_iff.2 fun x hx => (HH.out.2.2 x).2 ⟨m, List.mem_of_getElem? HX.out, (hmem x).1 hx⟩
      have hwi := within_ints vl vr res Rw w1 (own_nums hown) (HR.out.below hB0) (by omega) (by omega)
      rw [hsub] at hwi
      have HW : Hid (Calls Tryz.prog 12 #[vl, vr] w1 _) := hwi
      have HO : Hid (_ ∧ _ ∧ _) := ⟨hown, hmem, hB0⟩
      have HAc : Hid (w1.ownsRow w.heap.size 3 1 _ acc.length (ints acc)) := own_keep HI.out.1 hB1
      clear hown hmem hB0 hwi hsub hB1 HC
      go_wp2_with fail
      refine (Calls.mono HW.out ?_)
      rintro e w2 ⟨rfl, hB2⟩
      have HO2 : Hid (_ ∧ _ ∧ _) := ⟨own_keep HO.out.1 hB2, own_keep HAc.out hB2, chain HO.out.2.2 hB2⟩
      clear hB2 HW
      go_wp2_with (at_builtin; refine wpList_append_nums _ rfl _ _ rfl rfl w.heap.size _ _ _ acc res rfl rfl HO2.out.2.1 HO2.out.1 (by omega) HO2.out.2.2.size ?_; intro v5 w5 hown5 hB5)
      have HN : Hid (w5.ownsRow w.heap.size 3 1 v5 (acc ++ res).length (ints (acc ++ res)) ∧ (∀ x, x ∈ acc ++ res ↔ ∃ m, m ∈ A.take (i + 1) ∧ RxM.rel (Eof (outsOf L)) ty m x) ∧ Below w.heap.size w w5) := (⟨hown5, fun x => by
        rw [List.mem_append, HI.out.2.1 x, HO.out.2.1 x, List.take_add_one, HX.out, Option.toList_some]
        constructor
        · rintro (⟨m2, h1, h2⟩ | h)
          · exact ⟨m2, List.mem_append.2 (.inl h1), h2⟩
          · exact ⟨m, by simp, h⟩
        · rintro ⟨m2, h1, h2⟩
          rcases List.mem_append.1 h1 with h1 | h1
          · exact .inl ⟨m2, h1, h2⟩
          · rw [List.mem_singleton] at h1; subst h1; exact .inr h2, HO2.out.2.2.trans (hB5.mono (Nat.le_refl _))⟩ : _ ∧ _ ∧ _)
      clear hown5 hB5
      go_wp2
      go_roundw
      case rel => exact ⟨i + 1, acc ++ res, by omega, by go_num, by rw [List.length_append]; omega, HN.out⟩
      case measure => simp [intOf]; omega
    · obtain rfl : i = A.length := by omega
      have hsub : allIn Rw acc = true := allIn_iff.2 fun x hx => (HI.out.2.1 x).2 (by rw [List.take_length]; exact (HH.out.2.2 x).1 hx)
      have hwi := within_ints vr u13 Rw acc wr (HR.out.below HI.out.2.2) (own_nums HI.out.1) (by omega) (by omega)
      rw [hsub] at hwi
      have HW : Hid (Calls Tryz.prog 12 #[vr, u13] wr _) := hwi
      have HB0 : Hid (Below w.heap.size w wr) := HI.out.2.2
      have HRd : Hid (RxM.read 4 (codes ⟨#[lby k]⟩) = some _) := (by rw [codes_letter hk]; exact RxM.read_letter hk (by decide) : _ = _)
      clear hwi hsub HI
      go_wp2_with fail
      refine (Calls.mono HW.out ?_)
      rintro e w2 ⟨rfl, hB2⟩
      have HB2 : Hid _ := chain HB0.out hB2
      have HC : Hid (Calls Tryz.prog 10 #[.pointer (some ⟨b, 0, none⟩), .int .i64 (u : Int), .string ⟨#[lby k]⟩] w2 _) := HRC.out w2 HB2.out u ⟨#[lby k]⟩ _ hu (show (1 : Nat) ≤ 200 by decide) HRd.out
      clear hB2 HW
      go_wp2_with fail
      refine (Calls.mono HC.out ?_)
      rintro e w3 ⟨vl, l, rfl, hown, hp, hmem, hlen, hB3⟩
      have HB3 : Hid _ := chain HB2.out hB3
      have HGo : Hid (Calls Tryz.prog 27 #[.pointer (some ⟨b, 0, none⟩), .int .i64 (u : Int)] w3 _) := gout_any (HG.out.below HB3.out) (u : Int) (by omega) (by omega)
      have HL : Hid (_ ∧ _ ∧ _) := ⟨own_nums hown, hp, (fun x => (hmem x).trans RxM.rel_letter : ∀ x, x ∈ l ↔ Eof (outsOf L) u k x)⟩
      clear hown hp hmem hB3 HC HRd
      go_wp2_with fail
      refine (Calls.mono HGo.out ?_)
      rintro e w4 (⟨h1, _⟩ | ⟨_, vo, rfl, hO⟩)
      · exact absurd ⟨by omega, by omega⟩ h1
      have HB4 : Hid _ := chain HB3.out hO.2
      have HL4 : Hid (NumsAt .i64 w4 vl l) := HL.out.1.below hO.2
      obtain ⟨ao, co, hvo, hed⟩ := own_edges hO.1
      subst hvo
      obtain ⟨O, hO2⟩ : ∃ O, O = L.filter (fromB (u : Int) ((u : Int) + 1)) := ⟨_, rfl⟩
      rw [← hO2] at hed ⊢
      have hOl : O.length ≤ 20000 := by rw [hO2]; exact Nat.le_trans (List.length_filter_le _ _) HG.out.bd.2.2.2.2
      have HEd : Hid _ := hed
      have HOO : Hid _ := hO2
      have hlb : ((({ data := #[lby k] } : ByteArray)[0]'(show 0 < 1 from Nat.one_pos)).toNat : Int) = 97 + (k : Int) := by
        show ((lby k).toNat : Int) = _
        rw [lby_nat hk]; omega
      have hkI : (k : Int) < 4 := by omega
      have hw1 : IntKind.i64.wrap (97 + (k : Int)) = 97 + (k : Int) := by rw [IntKind.wrap_i64]; omega
      have hw2 : IntKind.i64.wrap (97 + (k : Int) - 97) = (k : Int) := by rw [IntKind.wrap_i64]; omega
      have hw3 : IntKind.i64.wrap (k : Int) = (k : Int) := by rw [IntKind.wrap_i64]; omega
      obtain ⟨al, cl, hvl, _⟩ := HL4.out.open
      subst hvl
      clear hO hed HGo hO2
      go_wp2
      go_loopw [23] (fun s23 wr => ∃ i : Nat, i ≤ O.length ∧ s23 = .int .i64 (i : Int) ∧ Hid (Below w4.heap.size w4 wr)) (fun s23 _ => O.length - (intOf s23).toNat)
      case atStart => exact ⟨0, Nat.zero_le _, rfl, Below.refl _ _⟩
      case round =>
        obtain ⟨i, hi, rfl, HI⟩ := hrel
        by_cases hlt : i < O.length
        · obtain ⟨e, he⟩ : ∃ e, O[i]? = some e := ⟨_, List.getElem?_eq_getElem hlt⟩
          obtain ⟨go, oo, rfl, q0, q1, q2⟩ := HEd.out i e he
          obtain ⟨a, c, t, rfl, ha5, hc4, ht5⟩ := okG_edge (n := 50) (s := 4) HG.out.ok e (by have := List.mem_of_getElem? he; rw [HOO.out] at this; exact (List.mem_filter.1 this).1)
          simp only at q0 q1 q2
          have c1 := cell_kept HI.out _ _ q1
          have c2 := cell_kept HI.out _ _ q2
          have hiI : (i : Int) < (O.length : Int) := by omega
          have hB6 := below1 wr (.cells #[.int .i64 (t : Int)] 3)
          have HW : Hid (Calls Tryz.prog 12 #[.slice (some ⟨wr.heap.size, 0, none⟩) 1 1, .slice al l.length cl] (wr.alloc (.cells #[.int .i64 (t : Int)] 3)) _) := within_ints (.slice (some ⟨wr.heap.size, 0, none⟩) 1 1) (.slice al l.length cl) [t] l (wr.alloc (.cells #[.int .i64 (t : Int)] 3)) (one_nums wr t) (HL4.out.below (chain HI.out hB6)) (by simp) (by omega)
          have HX : Hid (_ ∧ _) := ⟨he, chain HI.out hB6⟩
          clear he q0 q1 q2 hB6
          go_wp2_with fail
          refine (Calls.mono HW.out ?_)
          rintro e w6 ⟨rfl, hB6⟩
          have HB6 : Hid (Below w4.heap.size w4 w6) := chain HX.out.2 hB6
          have c3 := cell_kept (chain (below1 _ _) hB6) _ _ c1
          clear hB6 HW c1 c2
          by_cases hck : c = k
          · subst hck
            have hin : allIn [t] l = true := allIn_iff.2 fun x hx => by
              rw [List.mem_singleton] at hx
              subst hx
              rw [HL.out.2.2 x, eof_iff]
              have := List.mem_of_getElem? HX.out.1
              rw [HOO.out] at this
              have h2 := List.mem_filter.1 this
              have h3 : a = u := by
                have := h2.2
                unfold fromB at this
                simp only [decide_eq_true_eq] at this
                omega
              rw [← h3]
              exact h2.1
            rw [hin]
            clear hin
            go_wp2
            go_quiet (fail)
            go_wp2
            go_roundw
            case rel => exact ⟨i + 1, by omega, by go_num, below_drewN HB6.out _⟩
            case measure => simp [intOf]; omega
          · have hne : ((c : Int) == (k : Int)) = false := beq_eq_false_iff_ne.2 (by omega)
            obtain ⟨bb, hbb⟩ : ∃ bb, bb = allIn [t] l := ⟨_, rfl⟩
            rw [← hbb]
            clear hbb
            go_wp2
            go_quiet (fail)
            go_wp2
            go_roundw
            case rel => exact ⟨i + 1, by omega, by go_num, below_drewN HB6.out _⟩
            case measure => simp [intOf]; omega
        · obtain rfl : i = O.length := by omega
          have HB5 : Hid (Below w4.heap.size w4 wr) := HI.out
          clear HI
          rename World => w7
          go_wp2
          go_loopw [25] (fun s25 wr => ∃ i : Nat, i ≤ l.length ∧ s25 = .int .i64 (i : Int) ∧ Hid (Below w7.heap.size w7 wr)) (fun s25 _ => l.length - (intOf s25).toNat)
          case atStart => exact ⟨0, Nat.zero_le _, rfl, Below.refl _ _⟩
          case round =>
            obtain ⟨i, hi, rfl, HI⟩ := hrel
            have hBr := chain HB5.out HI.out
            by_cases hlt : i < l.length
            · obtain ⟨x, hx⟩ : ∃ x, l[i]? = some x := ⟨_, List.getElem?_eq_getElem hlt⟩
              obtain ⟨al2, cl2, hvl2, hcells⟩ := (HL4.out.below hBr).open
              injection hvl2 with e1 _ e2
              subst e1 e2
              obtain ⟨gl, ol, rfl, c1⟩ := hcells i x hx
              have hin := (HL.out.2.2 x).1 (List.mem_of_getElem? hx)
              have hx5 : x < 50 := eof_lt HG.out.ok _ _ _ hin
              have HHs : Hid (∀ W, Below wr.heap.size wr W → Calls Tryz.prog 28 #[.pointer (some ⟨b, 0, none⟩), .agg #[.int .i64 (u : Int), .int .i64 (k : Int), .int .i64 (x : Int)]] W _) := (fun W hW => ghas_any (HG.out.below (chain (chain HB4.out hBr) hW)) u k x hu hk hx5 : ∀ W, _)
              rw [decide_eq_true ((eof_iff L u k x).1 hin)] at HHs
              have hiI : (i : Int) < (l.length : Int) := by omega
              have HBr : Hid _ := hBr
              have HXx : Hid (_ ∧ _) := ⟨hx, hcells⟩
              clear hBr hx hin hcells
              go_wp2_with fail
              go_region_held3 (fun w' => w'.cell? ⟨gl, ol + i, none⟩ = some (.int .i64 (x : Int)))
                (first | assumption | (go_keep; done))
                (first
                  | (go_at_call 28; refine (HHs.out _ ((Below.refl _ _).drew)).mono ?_; rintro r w8 ⟨rfl, hB8⟩; have hB9 := ((Below.refl wr.heap.size wr).drew).trans hB8; have j1 := cell_kept hB9 _ _ c1))
              have HB9 : Hid _ := hB9
              clear hB9 hB8 HHs
              by_cases h0 : i = 0
              · subst h0
                have hi0 : ¬ ((0 : Nat) : Int) > 0 := by omega
                go_wp2
                go_quiet (fail)
                go_wp2
                go_roundw
                case rel => exact ⟨0 + 1, by omega, by go_num, below_drewN (chain HI.out HB9.out) _⟩
                case measure => simp [intOf]; omega
              · obtain ⟨i2, rfl⟩ : ∃ i2, i = i2 + 1 := ⟨i - 1, by omega⟩
                obtain ⟨x2, hx2⟩ : ∃ x2, l[i2]? = some x2 := ⟨_, List.getElem?_eq_getElem (by omega)⟩
                have hlt2 : x2 < x := by
                  have h1 := List.pairwise_iff_getElem.1 HL.out.2.1 i2 (i2 + 1) (by omega) hlt (by omega)
                  have e1 : l[i2]? = some l[i2] := List.getElem?_eq_getElem (by omega)
                  have e2 : l[i2 + 1]? = some l[i2 + 1] := List.getElem?_eq_getElem hlt
                  rw [hx2] at e1
                  rw [HXx.out.1] at e2
                  injection e1 with e1
                  injection e2 with e2
                  omega
                obtain ⟨gl2, ol2, e3, c2⟩ := HXx.out.2 i2 x2 hx2
                injection e3 with e3
                injection e3 with e3 e4
                subst e3 e4
                have j2 := cell_kept HB9.out _ _ c2
                have hi0 : ((i2 + 1 : Nat) : Int) > 0 := by omega
                have hi1 : ((i2 + 1 : Nat) : Int) - 1 = (i2 : Int) := by omega
                have hge : decide ((x2 : Int) ≥ (x : Int)) = false := decide_eq_false (by omega)
                clear hx2 c2
                go_wp2
                go_quiet (fail)
                go_wp2
                go_roundw
                case rel => exact ⟨i2 + 1 + 1, by omega, by go_num, below_drewN (chain HI.out HB9.out) _⟩
                case measure => simp [intOf]; omega
            · obtain rfl : i = l.length := by omega
              go_wp2
              go_ret
              exact ⟨rfl, chain HB4.out (chain HB5.out HI.out)⟩
end Go.Proofs.YtphjbbbnbmafnabGreatDoor.G

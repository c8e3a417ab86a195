/-
  Rows of bytes of one's own with a mark behind their cells (what a string's bytes are when they are made a slice), and what append does to them: laws of the model, without the program.
  The program's sum of a page (pages.highestFirst, addToSum, sumOf): it is the sum that the text Crc speaks of; nothing that was there is written.
-/
import Derived.Test.YtphjbbbnbmafnabGreatDoorGBits
import Derived.Lib.FrozenHead2
import Derived.Lib.AppendStr
import Derived.Deep.WholeRow
import Derived.Laws.CopyRow
namespace Go.Proofs.YtphjbbbnbmafnabGreatDoor.G
open Go.RowKit Go.Lib

/-- no cell of the row is under the mark -/
abbrev Free (cap : Nat) (fz : Nat × Nat) : Prop := ∀ j, j < cap → ¬ (fz.1 ≤ j ∧ j < fz.2)
def OwnM (w : World) (base : Nat) (e : TypeId) (v : Value) (xs : List Value) : Prop :=
  ∃ g cap cur fz, v = .slice (some ⟨g, 0, none⟩) xs.length cap ∧ base ≤ g ∧ w.heap[g]? = some (.cells cur e fz) ∧ Free cap fz ∧ xs.length ≤ cap ∧ cap ≤ maxLen ∧ cur.size = cap ∧ cur.toList.take xs.length = xs
theorem store_atM (P : Program) (g o : Nat) (t : TypeId) (fz : Nat × Nat) : ∀ (vs : List Value) (i : Nat) (cur : Array Value) (w : World), w.heap[g]? = some (.cells cur t fz) → Free cur.size fz → o + i + vs.length ≤ cur.size → (∀ v ∈ vs, v.oneCell' = true) →
    (storeCells ⟨g, o, none⟩ vs i).run P w = .ok () (w.setRow g (cur.toList.take (o + i) ++ vs ++ cur.toList.drop (o + i + vs.length)).toArray)
  | [], i, cur, w, hg, _, _, _ => by
    simp only [storeCells, List.append_nil, List.length_nil, Nat.add_zero, List.take_append_drop, Array.toArray_toList]
    rw [setRow_self w g cur t fz hg]
    rfl
  | v :: rest, i, cur, w, hg, hfz, hl, h1 => by
    have hi : o + i < cur.size := by simp at hl; omega
    have hcell : w.cell? ⟨g, o + i, none⟩ = some cur[o + i] := by rw [cell_of_row w g (o + i) cur t fz hg, Array.getElem?_eq_getElem hi]
    have hfro : w.frozen? ⟨g, o + i, none⟩ = false := by
      have hf := hfz (o + i) hi
      obtain ⟨lo, hi'⟩ := fz
      simp only [World.frozen?, hg, Bool.and_eq_false_iff, decide_eq_false_iff_not]
      simp only at hf
      omega
    have hst : (store ((⟨g, o, none⟩ : Addr).add i) v).run P w = .ok () (w.setRow g (cur.setIfInBounds (o + i) v)) := by
      rw [addr_add, run_store P w _ v _ (h1 v (by simp)), hcell]
      simp [hfro, setCell_eq_setRow w g (o + i) cur t fz v hg]
    have ih := store_atM P g o t fz rest (i + 1) (cur.setIfInBounds (o + i) v) (w.setRow g (cur.setIfInBounds (o + i) v)) (setRow_heap w g cur _ t _ hg) (by simpa using hfz) (by simp at hl ⊢; omega) (fun x hx => h1 x (by simp [hx]))
    simp only [storeCells, Sem.run_bind, hst, Result.andThen_ok, ih, setRow_setRow]
    congr 3
    have e := list_seg_step cur.toList (o + i) v rest (by simp at hl ⊢; omega)
    simpa [Array.toList_setIfInBounds, Nat.add_assoc] using e
section
variable {P : Program} (w : World)
theorem al_old {w : World} {o : Obj} {i : Nat} (h : i < w.heap.size) : (w.alloc o).heap[i]? = w.heap[i]? := by
  show (w.heap.push o)[i]? = w.heap[i]?
  rw [Array.getElem?_push, if_neg (Nat.ne_of_lt h)]
theorem ownM_cells {e : TypeId} {g n : Nat} {xs : List Value} {w : World} {cur : Array Value} {fz : Nat × Nat} (hg : w.heap[g]? = some (.cells cur e fz)) (ht : cur.toList.take n = xs) (j : Nat) (u : Value) (hu : xs[j]? = some u) : w.cell? ((⟨g, 0, none⟩ : Addr).add j) = some u := by
  rw [addr_add, Nat.zero_add, cell_of_row w g j cur e fz hg]
  rw [← ht, List.getElem?_take] at hu
  split at hu
  · simpa using hu
  · cases hu
theorem own_grown {base : Nat} {e : TypeId} {xs news : List Value} {cap : Nat} (hbase : base ≤ w.heap.size) (hge : xs.length + news.length ≤ cap) (hcm : cap ≤ maxLen) : OwnM (w.drew.alloc (.cells (xs.toArray ++ news.toArray ++ Builtin.zeroCells (Value.int IntKind.u8 0).cells (cap - (xs.length + news.length))) e)) base e (.slice (some ⟨w.heap.size, 0, none⟩) (xs.length + news.length) cap) (xs ++ news) := by
  refine ⟨w.heap.size, cap, _, (0, 0), by rw [List.length_append], hbase, heap_alloc_new w.drew _, fun j _ h => by simp at h, by rw [List.length_append]; exact hge, hcm, ?_, ?_⟩
  · have hz1 : (Value.int IntKind.u8 0).cells.size = 1 := rfl
    simp only [Array.size_append, List.size_toArray, size_zeroCells, hz1]
    omega
  · simp only [Array.toList_append, List.append_assoc]
    rw [← List.append_assoc]
    exact List.take_left
theorem own_room {base : Nat} {e : TypeId} {xs news : List Value} {g cap : Nat} {cur : Array Value} {fz : Nat × Nat} (hbg : base ≤ g) (hg : w.heap[g]? = some (.cells cur e fz)) (hfz : Free cap fz) (hroom : xs.length + news.length ≤ cap) (hcm : cap ≤ maxLen) (hcs : cur.size = cap) (ht : cur.toList.take xs.length = xs) :
    OwnM (w.setRow g (cur.toList.take xs.length ++ news ++ cur.toList.drop (xs.length + news.length)).toArray) base e (.slice (some ⟨g, 0, none⟩) (xs.length + news.length) cap) (xs ++ news) := by
  refine ⟨g, cap, _, fz, by rw [List.length_append], hbg, setRow_heap w g cur _ e _ hg, hfz, by rw [List.length_append]; exact hroom, hcm, ?_, ?_⟩
  · simp only [List.size_toArray, List.length_append, List.length_take, List.length_drop, Array.length_toList]
    omega
  · rw [ht]
    exact List.take_left
theorem app_str (base : Nat) (t u ty e : TypeId) (i : TypeInfo) (ht : P.underlying t = some (.slice e)) (hu : P.underlying u = some .string) (hi : P.info? e = some i) (hz : i.zero = some (.int .u8 0)) (hsize : i.size = 1) (hby : i.bytes = 1)
    (v : Value) (xs : List Value) (hown : OwnM w base e v xs) (s : ByteArray) (h63 : xs.length + s.size ≤ maxLen) (hbytes : xs.length + s.size ≤ 140737488355328) (hbase : base ≤ w.heap.size) :
    ∃ v' w', (Builtin.append_ #[t, u] ty #[v, .string s]).run P w = .ok v' w' ∧ OwnM w' base e v' (xs ++ strCells s) ∧ w.grownBy w' v.ownBlock := by
  obtain ⟨g, cap, cur, fz, rfl, hbg, hg, hfz, hnc, hcm, hcs, htake⟩ := hown
  have hsl := strCells_length s
  by_cases hroom : xs.length + s.size ≤ cap
  · have hf := run_firstCells_string (P := P) w 1 s
    have hst := store_atM P g xs.length e fz (strCells s) 0 cur w hg (by rw [hcs]; exact hfz) (by rw [hsl]; omega) (strCells_oneCell s)
    simp only [Nat.add_zero, hsl] at hst
    refine ⟨.slice (some ⟨g, 0, none⟩) (xs.length + s.size) cap, w.setRow g (cur.toList.take xs.length ++ strCells s ++ cur.toList.drop (xs.length + s.size)).toArray, ?_, by have h := own_room w (news := strCells s) hbg hg hfz (by omega) hcm hcs htake; rw [hsl] at h; exact h, ⟨rfl, rfl, rfl, by simp, fun k _ hk => setRow_other w g k _ (fun e => hk (by simp [Value.ownBlock, e]))⟩⟩
    simp [Builtin.append_, run_underlying ht, run_underlying hu, sizeOf, typeInfo, hi, hsize, Builtin.lenOf, hroom, hf, Addr.add_lit, hst]
  · have hsmall : xs.length + s.size ≤ 9223372036854775807 := by simp only [maxLen] at h63; omega
    have hr := run_append_grow_string (P := P) w t u ty e i (.int .u8 0) ht hu hi hz ⟨g, 0, none⟩ xs.length cap xs (by rw [hsize]; omega) (ownM_cells hg htake) s (by omega) (by omega) (by rw [hby]; exact growslice_fits (by omega) (by omega))
    have hge := grownCap_ge w (xs.length + s.size) cap e
    have hcm2 : grownCap w (xs.length + s.size) cap e ≤ maxLen := grownCap_le_maxLen w (xs.length + s.size) cap e h63
    refine ⟨_, _, hr, ?_, ⟨rfl, rfl, rfl, by simp, fun k hk _ => al_old (w := w.drew) hk⟩⟩
    have h := own_grown w (base := base) (e := e) (xs := xs) (news := strCells s) (cap := grownCap w (xs.length + s.size) cap e) hbase (by omega) hcm2
    rw [hsl] at h
    exact h
theorem app_sl (base : Nat) (t ty e : TypeId) (i : TypeInfo) (ht : P.underlying t = some (.slice e)) (hi : P.info? e = some i) (hz : i.zero = some (.int .u8 0)) (hsize : i.size = 1) (hby : i.bytes = 1)
    (v : Value) (xs : List Value) (hown : OwnM w base e v xs) (a : Addr) (m c : Nat) (news : List Value) (hl : news.length = m) (hnews : ∀ j u, news[j]? = some u → w.cell? (a.add j) = some u) (h1 : ∀ u ∈ news, u.oneCell' = true)
    (h63 : xs.length + m ≤ maxLen) (hbytes : xs.length + m ≤ 140737488355328) (hbase : base ≤ w.heap.size) :
    ∃ v' w', (Builtin.append_ #[t, t] ty #[v, .slice (some a) m c]).run P w = .ok v' w' ∧ OwnM w' base e v' (xs ++ news) ∧ w.grownBy w' v.ownBlock := by
  obtain ⟨g, cap, cur, fz, rfl, hbg, hg, hfz, hnc, hcm, hcs, htake⟩ := hown
  subst hl
  by_cases hroom : xs.length + news.length ≤ cap
  · have hf := run_firstCells_some (P := P) w i.size news.length a news.length c news (by rw [hsize]; omega) hnews
    have hst := store_atM P g xs.length e fz news 0 cur w hg (by rw [hcs]; exact hfz) (by omega) h1
    simp only [Nat.add_zero] at hst
    refine ⟨.slice (some ⟨g, 0, none⟩) (xs.length + news.length) cap, w.setRow g (cur.toList.take xs.length ++ news ++ cur.toList.drop (xs.length + news.length)).toArray, ?_, own_room w (news := news) hbg hg hfz (by omega) hcm hcs htake, ⟨rfl, rfl, rfl, by simp, fun k _ hk => setRow_other w g k _ (fun e => hk (by simp [Value.ownBlock, e]))⟩⟩
    rw [hsize] at hf
    simp [Builtin.append_, run_underlying ht, sizeOf, typeInfo, hi, hsize, Builtin.lenOf, hroom, hf, Addr.add_lit, hst]
  · have hsmall : xs.length + news.length ≤ 9223372036854775807 := by simp only [maxLen] at h63; omega
    have hr := run_append_grow (P := P) w t ty e i (.int .u8 0) ht hi hz ⟨g, 0, none⟩ xs.length cap xs (by rw [hsize]; omega) (ownM_cells hg htake) a news.length c news (by rw [hsize]; omega) hnews (by omega) (by omega) (by rw [hby]; exact growslice_fits (by omega) (by omega))
    have hge := grownCap_ge w (xs.length + news.length) cap e
    have hcm2 : grownCap w (xs.length + news.length) cap e ≤ maxLen := grownCap_le_maxLen w (xs.length + news.length) cap e h63
    exact ⟨_, _, hr, own_grown w (base := base) (e := e) (xs := xs) (news := news) (cap := grownCap w (xs.length + news.length) cap e) hbase hge hcm2, ⟨rfl, rfl, rfl, by simp, fun k hk _ => al_old (w := w.drew) hk⟩⟩
theorem wpList_app_str {ops : Array Oper} {rest : List Oper} {o : Oper} {a : Act} {Q : Exit → Act → World → Prop} (hgd : o.guard = none) (sl x : Operand) (t u : TypeId)
    (ho : o.op = .call { callee := .builtin .append, args := #[sl, x], argTypes := #[t, u] }) (base : Nat) (e : TypeId) (i : TypeInfo) (ht : P.underlying t = some (.slice e)) (hu : P.underlying u = some .string) (hi : P.info? e = some i) (hz : i.zero = some (.int .u8 0)) (hsize : i.size = 1) (hby : i.bytes = 1)
    (v : Value) (xs : List Value) (hs : a.eval sl = v) (hown : OwnM w base e v xs) (s : ByteArray) (hx : a.eval x = .string s) (h63 : xs.length + s.size ≤ maxLen) (hbytes : xs.length + s.size ≤ 140737488355328) (hbase : base ≤ w.heap.size)
    (h : ∀ v' w', OwnM w' base e v' (xs ++ strCells s) → w.grownBy w' v.ownBlock → wpList P ops Q rest (a.put o.dst v') w') : wpList P ops Q (o :: rest) a w := by
  refine wpList_plain hgd fun K hK => ?_
  obtain ⟨v', w', hr, h2, h3⟩ := app_str (P := P) w base t u o.type e i ht hu hi hz hsize hby v xs hown s h63 hbytes hbase
  unfold Oper.wp execOp
  simp only [ho, resolve, invoke, builtin, Sem.run_bind, Sem.run_pure, Result.andThen_ok, List.map_toArray, List.map_cons, List.map_nil, hs, hx, hr]
  exact hK _ _ (h v' w' h2 h3)
theorem wpList_app_sl {ops : Array Oper} {rest : List Oper} {o : Oper} {a : Act} {Q : Exit → Act → World → Prop} (hgd : o.guard = none) (sl x : Operand) (t : TypeId)
    (ho : o.op = .call { callee := .builtin .append, args := #[sl, x], argTypes := #[t, t] }) (base : Nat) (e : TypeId) (i : TypeInfo) (ht : P.underlying t = some (.slice e)) (hi : P.info? e = some i) (hz : i.zero = some (.int .u8 0)) (hsize : i.size = 1) (hby : i.bytes = 1)
    (v : Value) (xs : List Value) (hs : a.eval sl = v) (hown : OwnM w base e v xs) (ad : Addr) (m c : Nat) (news : List Value) (hx : a.eval x = .slice (some ad) m c) (hl : news.length = m) (hnews : ∀ j u, news[j]? = some u → w.cell? (ad.add j) = some u) (h1 : ∀ u ∈ news, u.oneCell' = true) (h63 : xs.length + m ≤ maxLen) (hbytes : xs.length + m ≤ 140737488355328) (hbase : base ≤ w.heap.size)
    (h : ∀ v' w', OwnM w' base e v' (xs ++ news) → w.grownBy w' v.ownBlock → wpList P ops Q rest (a.put o.dst v') w') : wpList P ops Q (o :: rest) a w := by
  refine wpList_plain hgd fun K hK => ?_
  obtain ⟨v', w', hr, h2, h3⟩ := app_sl (P := P) w base t o.type e i ht hi hz hsize hby v xs hown ad m c news hl hnews h1 h63 hbytes hbase
  unfold Oper.wp execOp
  simp only [ho, resolve, invoke, builtin, Sem.run_bind, Sem.run_pure, Result.andThen_ok, List.map_toArray, List.map_cons, List.map_nil, hs, hx, hr]
  exact hK _ _ (h v' w' h2 h3)
end
theorem OwnM.alloc {w : World} {base : Nat} {e : TypeId} {v : Value} {xs : List Value} (h : OwnM w base e v xs) (o : Obj) : OwnM (w.alloc o) base e v xs := by
  obtain ⟨g, cap, cur, fz, rfl, hbg, hg, r⟩ := h
  exact ⟨g, cap, cur, fz, rfl, hbg, by rw [al_old (Array.getElem?_eq_some_iff.1 hg).1]; exact hg, r⟩
theorem OwnM.below {w w' : World} {base : Nat} {e : TypeId} {v : Value} {xs : List Value} (h : OwnM w base e v xs) (hB : Below w.heap.size w w') : OwnM w' base e v xs := by
  obtain ⟨g, cap, cur, fz, rfl, hbg, hg, r⟩ := h
  exact ⟨g, cap, cur, fz, rfl, hbg, by rw [hB.block g (Array.getElem?_eq_some_iff.1 hg).1]; exact hg, r⟩
theorem OwnM.lt {w : World} {base : Nat} {e : TypeId} {v : Value} {xs : List Value} (h : OwnM w base e v xs) (k : Nat) (hk : v.ownBlock = some k) : base ≤ k := by
  obtain ⟨g, cap, cur, fz, rfl, hbg, _⟩ := h
  have : g = k := by simpa [Value.ownBlock] using hk
  omega
end Go.Proofs.YtphjbbbnbmafnabGreatDoor.G

namespace Go.Proofs.YtphjbbbnbmafnabGreatDoor.G
open Go.RowKit

theorem u32_xor_nat (a b : Nat) (ha : a < 4294967296) (hb : b < 4294967296) : bits .xor .u32 (a : Int) (b : Int) = ((a ^^^ b : Nat) : Int) := by
  have hx : a ^^^ b < 2 ^ 32 := Nat.xor_lt_two_pow (by omega) (by omega)
  show IntKind.u32.wrap ((BitVec.ofInt 32 (a : Int) ^^^ BitVec.ofInt 32 (b : Int)).toNat : Int) = _
  rw [BitVec.toNat_xor]
  have e1 : (BitVec.ofInt 32 (a : Int)).toNat = a := by simp; omega
  have e2 : (BitVec.ofInt 32 (b : Int)).toNat = b := by simp; omega
  rw [e1, e2, IntKind.wrap_u32]
  omega
theorem Tryz.info4 : (Tryz.prog.info? 139).map (·.size) = some 4 := by kernel_rfl
set_option maxHeartbeats 1000000 in
theorem hf_any (n : Nat) (h : n < 4294967296) (w : World) :
    Calls Tryz.prog 64 #[.int .u32 (n : Int)] w fun e w' => e = .returned (.agg (valsB (Crc.be4 n)).toArray) ∧ Below w.heap.size w w' := by
  have HV : Hid _ := be4_sum n h
  go_enter Tryz.func64, Tryz.ntmps64
  go_wp2
  refine bodyPost_ret (results_cell_row rfl _ _ w.heap.size 139 _ (0, 0) _ rfl (heap_alloc_new _ _) Tryz.underlying139 rfl Tryz.info4) rfl ?_
  exact ⟨ret1 (by rw [← HV.out]), below1 _ _⟩
set_option maxHeartbeats 4000000 in
set_option maxRecDepth 100000 in
theorem ats_any (c0 : Nat) (l : List Nat) (v : Value) (w : World) (hc0 : c0 < 4294967296) (hlen2 : l.length ≤ 1000) (hrow : RowB w v l) (hb : ∀ x ∈ l, x < 256) :
    Calls Tryz.prog 98 #[.int .u32 (c0 : Int), v] w fun e w' => e = .returned (.int .u32 (Crc.crc c0 l : Int)) ∧ w' = w := by
  obtain ⟨g, off, cap, rfl, hc⟩ := hrow
  have HC : Hid _ := hc
  have HB : Hid _ := hb
  clear hc hb
  go_enter Tryz.func98, Tryz.ntmps98
  go_wp2
  go_loop [0, 10] (fun sc si => ∃ k c : Nat, k ≤ l.length ∧ si = .int .i64 (k : Int) ∧ sc = .int .u32 (c : Int) ∧ c < 4294967296 ∧ Hid (c = Crc.crc c0 (l.take k))) (fun _ si => l.length - (intOf si).toNat)
  case atStart => exact ⟨0, c0, Nat.zero_le _, rfl, rfl, hc0, (rfl : c0 = Crc.crc c0 (l.take 0))⟩
  case round =>
    obtain ⟨k, c, hk, rfl, rfl, hcl, HI⟩ := hrel
    by_cases hlt : k < l.length
    · obtain ⟨x, hx⟩ : ∃ x, l[k]? = some x := ⟨_, List.getElem?_eq_getElem hlt⟩
      have hxb := HB.out x (List.mem_of_getElem? hx)
      have hcell := HC.out k x hx
      have hT := crc_take (c := c0) hx
      rw [← HI.out] at hT
      have HT : Hid _ := hT
      have hxo := u32_xor_nat c (x * 16777216) (by omega) (by omega)
      have hxo2 : bits BinOp.xor IntKind.u32 (c : Int) ((x : Int) * 16777216) = ((c ^^^ (x * 16777216) : Nat) : Int) := by rw [← hxo]; congr 1
      have hx32 : c ^^^ (x * 16777216) < 4294967296 := Nat.xor_lt_two_pow (n := 32) hcl (by omega)
      clear hx hT hxo HI
      generalize hy : c ^^^ (x * 16777216) = y at hxo2 hx32
      have HY : Hid (Crc.feed c x = Crc.shifts 8 y) := (by rw [← hy]; rfl : _ = _)
      clear hy
      go_wp2
      go_loop [0, 19] (fun sc sj => ∃ j d : Nat, j ≤ 8 ∧ sj = .int .i64 (j : Int) ∧ sc = .int .u32 (d : Int) ∧ d < 4294967296 ∧ Hid (d = Crc.shifts j y)) (fun _ sj => 8 - (intOf sj).toNat)
      case atStart => exact ⟨0, y, Nat.zero_le _, rfl, rfl, hx32, (rfl : y = Crc.shifts 0 y)⟩
      case round =>
        obtain ⟨j, d, hj, rfl, rfl, hd, HD⟩ := hrel
        by_cases hlt8 : j < 8
        · have hS := shifts_succ j y
          rw [← HD.out] at hS
          have hSl := shifts_lt (j + 1) y hx32
          by_cases hbig : 2147483648 ≤ d
          · have hf1 : (d : Int) / 2147483648 = 1 := by omega
            have hm1 : 2 * (d : Int) % 4294967296 = ((2 * d - 4294967296 : Nat) : Int) := by omega
            have hm2 : (d : Int) * 2 % 4294967296 = ((2 * d - 4294967296 : Nat) : Int) := by omega
            have hq := u32_xor_nat (2 * d - 4294967296) 79764919 (by omega) (by decide)
            rw [shift_big hbig hd] at hS
            have HS : Hid ((2 * d - 4294967296 ^^^ 79764919) = Crc.shifts (j + 1) y) := hS.symm
            have hl2 : (2 * d - 4294967296 ^^^ 79764919) < 4294967296 := by rw [HS.out]; exact hSl
            clear hS hSl
            generalize 2 * d - 4294967296 = z at hm1 hm2 hq HS hl2
            have HQ : Hid (bits BinOp.xor IntKind.u32 (z : Int) 79764919 = ((z ^^^ 79764919 : Nat) : Int)) := hq
            clear hq
            go_wp2
            go_round
            case rel => exact ⟨j + 1, z ^^^ 79764919, by omega, by go_num, by rw [HQ.out], hl2, HS.out⟩
            case measure => simp [intOf]; omega
          · have hf1 : (d : Int) / 2147483648 = 0 := by omega
            have hm2 : (d : Int) * 2 % 4294967296 = 2 * (d : Int) := by omega
            rw [shift_small (by omega)] at hS
            have HS : Hid (2 * d = Crc.shifts (j + 1) y) := hS.symm
            have HQ : Hid (bits BinOp.xor IntKind.u32 ((d : Int) * 2) 0 = ((2 * d : Nat) : Int)) := (by
              have h := u32_xor_nat (2 * d) 0 (by omega) (by decide)
              rw [Nat.xor_zero] at h
              rw [← h]; congr 1; omega : _ = _)
            clear hS hSl
            go_wp2
            go_round
            case rel => exact ⟨j + 1, 2 * d, by omega, by go_num, by rw [HQ.out], by omega, HS.out⟩
            case measure => simp [intOf]; omega
        · obtain rfl : j = 8 := by omega
          have HE : Hid (d = Crc.crc c0 (l.take (k + 1))) := (by rw [HD.out, HT.out, HY.out] : _ = _)
          clear HD
          go_wp2
          go_round
          case rel => exact ⟨k + 1, d, by omega, by go_num, rfl, hd, HE.out⟩
          case measure => simp [intOf]; omega
    · obtain rfl : k = l.length := by omega
      have hE := HI.out
      rw [List.take_length] at hE
      have HE : Hid (c = Crc.crc c0 l) := hE
      clear hE HI
      go_wp2
      go_ret
      exact ⟨ret1 (by rw [← HE.out]; rfl), rfl⟩
theorem old_alloc {w : World} {o : Obj} {i : Nat} (h : i < w.heap.size) : (w.alloc o).heap[i]? = w.heap[i]? := by
  show (w.heap.push o)[i]? = w.heap[i]?
  rw [Array.getElem?_push, if_neg (Nat.ne_of_lt h)]
theorem vals_len (l : List Nat) : (valsB l).length = l.length := by simp [valsB]
/-- a row of bytes that is a block of its own -/
theorem row_block {w : World} {g : Nat} {t : TypeId} {fr : Nat × Nat} {l : List Nat} (h : w.heap[g]? = some (.cells (valsB l).toArray t fr)) (cap : Nat) : RowB w (.slice (some ⟨g, 0, none⟩) l.length cap) l := by
  refine ⟨g, 0, cap, rfl, fun j x hj => ?_⟩
  rw [cell_of_row w g (0 + j) (valsB l).toArray t fr h]
  simp [valsB, hj]
set_option maxHeartbeats 1000000 in
set_option maxRecDepth 100000 in
theorem psum_any (p : Nat) (l : List Nat) (hp : p ≤ 1000) (hl : l.length = 252) (hb : ∀ x ∈ l, x < 256) (w : World) :
    Calls Tryz.prog 65 #[.int .i64 (p : Int), .agg (valsB l).toArray] w fun e w' => e = .returned (.int .u32 (Crc.sumOf p l : Int)) ∧ Below w.heap.size w w' := by
  have hz := vals_len l
  go_enter Tryz.func65, Tryz.ntmps65
  go_wp2_with fail
  refine (hf_any p (by omega) _).mono ?_
  rintro e w1 ⟨rfl, hB1⟩
  obtain ⟨b0, b1, b2, b3, hbe⟩ : ∃ b0 b1 b2 b3 : Nat, Crc.be4 p = [b0, b1, b2, b3] := ⟨_, _, _, _, rfl⟩
  have hv4 : (valsB (Crc.be4 p)).toArray = #[.int .u8 (b0 : Int), .int .u8 (b1 : Int), .int .u8 (b2 : Int), .int .u8 (b3 : Int)] := by rw [hbe]; rfl
  rw [hv4]
  have hh1 : w1.heap[w.heap.size]? = some (.cells (valsB l).toArray 78 (0, 0)) := by
    rw [hB1.block w.heap.size (by simp)]; exact heap_alloc_new _ _
  have hA := ats_any 4294967295 (Crc.be4 p) (.slice (some ⟨w1.heap.size, 0, none⟩) 4 4) (w1.alloc (.cells #[.int .u8 (b0 : Int), .int .u8 (b1 : Int), .int .u8 (b2 : Int), .int .u8 (b3 : Int)] 139)) (by decide) (by simp [Crc.be4]) (by
    rw [← hv4]
    exact row_block (l := Crc.be4 p) (heap_alloc_new _ _) 4) (fun x hx => by simp [Crc.be4] at hx; omega)
  have HA : Hid (Calls Tryz.prog 98 _ _ _) := hA
  have hl1 := Crc.crc_lt (Crc.be4 p) 4294967295 (by decide)
  have HC2 : Hid _ := Crc.crc_append 4294967295 (Crc.be4 p) l
  have HB0 : Hid (Below w.heap.size w w1) := chain (below1 _ _) hB1
  generalize hc : Crc.crc 4294967295 (Crc.be4 p) = c at hA HA hl1 HC2
  have hA2 := ats_any c l (.slice (some ⟨w.heap.size, 0, none⟩) l.length 252) (w1.alloc (.cells #[.int .u8 (b0 : Int), .int .u8 (b1 : Int), .int .u8 (b2 : Int), .int .u8 (b3 : Int)] 139)) hl1 (by omega) (row_block (by
    rw [old_alloc (by have := hB1.size; simp at this; omega)]; exact hh1) 252) hb
  rw [hl] at hA2
  have HA2 : Hid (Calls Tryz.prog 98 _ _ _) := hA2
  have hl2 := Crc.crc_lt l c hl1
  clear hA hA2 hbe hv4 hc hB1 hb hh1
  go_wp2_with fail
  refine (Calls.mono HA.out ?_)
  rintro e w2 ⟨rfl, hw2⟩
  rw [hw2]
  clear hw2 w2
  go_wp2_with fail
  refine (Calls.mono HA2.out ?_)
  rintro e w2 ⟨rfl, hw2⟩
  rw [hw2]
  clear hw2 w2
  go_wp2
  have HX : Hid (bits BinOp.xor IntKind.u32 IntKind.u32.max (Crc.crc c l : Int) = (Crc.sumOf p l : Int)) := (by
    have h := u32_xor_nat 4294967295 (Crc.crc c l) (by decide) hl2
    rw [show Crc.sumOf p l = 4294967295 ^^^ Crc.crc c l from by unfold Crc.sumOf; rw [HC2.out, Nat.xor_comm]]
    exact h : _ = _)
  go_ret
  exact ⟨ret1 (congrArg (Value.int .u32) HX.out), HB0.out.alloc HB0.out.size _⟩
end Go.Proofs.YtphjbbbnbmafnabGreatDoor.G

/-
  The program's reading of pages (pages.Read): ErrCorrupt, or the bits of all pages; nothing that was there is written.
-/
import Derived.Test.YtphjbbbnbmafnabGreatDoorByts
namespace Go.Proofs.YtphjbbbnbmafnabGreatDoor.G
open Go.RowKit

set_option linter.unusedSimpArgs false in
set_option maxHeartbeats 8000000 in
set_option maxRecDepth 100000 in
theorem pread_any (s : ByteArray) (w : World) (n : Nat) (hn : s.size = 256 * n) (hn0 : n ≠ 0) (hn1 : n ≤ 1000) :
    Calls Tryz.prog 20 #[.string s] w fun e w' => ((∃ p < n, ¬ pageOk s p) ∧ e = .returned (.tuple #[.string ⟨#[]⟩, .int .i64 4]) ∨ (∀ p < n, pageOk s p) ∧ e = .returned (.tuple #[.string (txt (textN s n)), .int .i64 0])) ∧ Below w.heap.size w w' := by
  have h0I : ((s.size : Int) == 0) = false := by simpa using (by omega : ¬ (s.size : Int) = 0)
  have htm : (s.size : Int).tmod 256 = 0 := by rw [Int.tmod_eq_emod_of_nonneg (by omega)]; omega
  have htm2 : (s.size : Int) % 256 = 0 := by omega
  have h2I : ¬ (s.size : Int) > 256000 := by omega
  have htd : (s.size : Int).tdiv 256 = (n : Int) := by rw [Int.tdiv_eq_ediv_of_nonneg (by omega)]; omega
  have hed : (s.size : Int) / 256 = (n : Int) := by omega
  have hcv := run_bytes_of_string (P := Tryz.prog) w 9 70 5 s Tryz.underlying9 Tryz.underlying70 Tryz.underlying5
  have hge := grownCap_ge w s.size 0 5
  generalize hcap : grownCap w s.size 0 5 = cap at hcv hge
  clear hcap
  generalize hfz : ((bytesRow s cap).size, (bytesRow s cap).size + 1) = fz at hcv
  clear hfz
  have hcv2 := hcv
  have HN : Hid _ := hn
  clear hn
  go_enter Tryz.func20, Tryz.ntmps20
  go_wp2
  go_loopw [28] (fun si wr => ∃ i : Nat, i ≤ n ∧ si = .int .i64 (i : Int) ∧ Hid (Bu (w.heap.size + 1) (w.heap.size + 1) (valsT (textN s i)) wr ∧ wr.heap[w.heap.size]? = some (.cells (bytesRow s cap) 5 fz) ∧ Below w.heap.size w wr ∧ ∀ p < i, pageOk s p)) (fun si _ => n - (intOf si).toNat)
  case atStart =>
    refine ⟨0, Nat.zero_le _, rfl, ?_, ?_, ?_, ?_⟩
    · exact (by simpa using Lib.IsBuilderF.of (Lib.fresh_isBuilder 73 5 (w.alloc (.cells (bytesRow s cap) 5 fz))) : Bu (w.heap.size + 1) (w.heap.size + 1) [] ((w.alloc (.cells (bytesRow s cap) 5 fz)).alloc (.cells #[.pointer none, .slice none 0 0] 73)))
    · have h : ((w.alloc (.cells (bytesRow s cap) 5 fz)).alloc (.cells #[.pointer none, .slice none 0 0] 73)).heap[w.heap.size]? = some (.cells (bytesRow s cap) 5 fz) := by
        rw [old_alloc (by simp)]; exact heap_alloc_new _ _
      exact h
    · exact (below2 _ _ _).drew
    · intro p hp; omega
  case round =>
    obtain ⟨i, hi, rfl, HI⟩ := hrel
    by_cases hlt : i < n
    · have h1 : (i : Int) * 256 ≤ (s.size : Int) := by have := HN.out; omega
      have h2 : (i : Int) * 256 + 256 ≤ (s.size : Int) := by have := HN.out; omega
      have harr := run_arrayAt (P := Tryz.prog) (w := wr) 75 5 256 (some ⟨w.heap.size, i * 256, none⟩) (s.size - i * 256) (cap - i * 256) Tryz.underlying75 (by have := HN.out; omega)
      have hv := vals_len (byt s (i * 256) 256)
      rw [byt_len] at hv
      have HR : Hid (wr.rangeAt w.heap.size (i * 256) (valsB (byt s (i * 256) 256))) := bytes_range s cap fz wr w.heap.size HI.out.2.1 (i * 256) 256 (by have := HN.out; omega)
      have HBy : Hid (byt s (i * 256) 256 = byt s (i * 256) 252 ++ byt s (i * 256 + 252) 4) := byt_append s (i * 256) 252 4
      have hv2 := vals_len (byt s (i * 256) 252)
      rw [byt_len] at hv2
      go_wp2_with fail
      refine wp_load_mid 75 _ rfl w.heap.size (i * 256) rfl _ _ HR.out Tryz.underlying75 rfl (by rw [Tryz.infoPage, hv]) ?_
      go_wp2_with fail
      rw [store_row (wr.alloc (.cells Tryz.zeroCells75 75)) wr.heap.size _ (valsB (byt s (i * 256) 256)) 75 (heap_alloc_new _ _) (by rw [Tryz.zeroCells75_size]; exact hv) (vals_one _), World.setRow_alloc_new]
      have harr2 := run_arrayAt (P := Tryz.prog) (w := wr.alloc (.cells (valsB (byt s (i * 256) 256)).toArray 75)) 78 5 252 (some ⟨wr.heap.size, 0, none⟩) 256 256 Tryz.underlying78 (by decide)
      clear harr
      have HP : Hid (∀ W : World, W.heap[wr.heap.size]? = some (.cells (valsB (byt s (i * 256) 256)).toArray 75 (0, 0)) → W.rangeAt wr.heap.size 0 (valsB (byt s (i * 256) 256)) ∧ W.rangeAt wr.heap.size 0 (valsB (byt s (i * 256) 252))) := (by
        intro W hW
        refine ⟨fun j v hv => ?_, fun j v hv => ?_⟩
        · rw [cell_of_row W _ _ _ _ _ hW, Nat.zero_add]; simpa using hv
        · rw [cell_of_row W _ _ _ _ _ hW, Nat.zero_add, HBy.out, valsB_append]
          have hj : j < (valsB (byt s (i * 256) 252)).length := (List.getElem?_eq_some_iff.1 hv).1
          rw [List.getElem?_toArray, List.getElem?_append_left hj]
          exact hv : ∀ W : World, _ → _)
      go_wp2_with fail
      refine wp_load_mid 78 _ rfl wr.heap.size 0 rfl _ _ (HP.out _ (heap_alloc_new _ _)).2 Tryz.underlying78 rfl (by rw [Tryz.infoBody, hv2]) ?_
      go_wp2_with fail
      rw [store_row _ (wr.heap.size + 1) _ (valsB (byt s (i * 256) 252)) 78 (heap_alloc2_new _ _ _) (by rw [Tryz.zeroCells78_size]; exact hv2) (vals_one _)]
      obtain ⟨W, hW⟩ : ∃ W, W = ((wr.alloc (.cells (valsB (byt s (i * 256) 256)).toArray 75)).alloc (.cells Tryz.zeroCells78 78)).setRow (wr.heap.size + 1) (valsB (byt s (i * 256) 252)).toArray := ⟨_, rfl⟩
      rw [← hW]
      have HBW : Hid (Below wr.heap.size wr W) := (by rw [hW]; exact below_setRow (below2 _ _ _) (by omega) _ : Below wr.heap.size wr W)
      have hr1 : W.rangeAt wr.heap.size 0 (valsB (byt s (i * 256) 256)) := (HP.out _ (by rw [hW, setRow_other _ _ _ _ (by omega), old_alloc (by simp)]; exact heap_alloc_new _ _)).1
      have hb2 : W.heap[wr.heap.size + 1]? = some (.cells (valsB (byt s (i * 256) 252)).toArray 78 (0, 0)) := by rw [hW]; exact setRow_heap _ _ _ _ _ _ (heap_alloc2_new _ _ _)
      have hr2 : W.rangeAt (wr.heap.size + 1) 0 (valsB (byt s (i * 256) 252)) := fun j v hv => by
        rw [cell_of_row W _ _ _ _ _ hb2, Nat.zero_add]; simpa using hv
      have hWs : W.heap.size = wr.heap.size + 2 := by rw [hW]; simp
      clear hW harr2 HR HP
      have HSe : ∀ W', Hid (Calls Tryz.prog 29 _ W' _) := fun W' => sealed_any i (byt s (i * 256) 252) (by omega) (byt_len _ _ _) (fun x hx => byt_lt _ _ _ x hx) W'
      have hlsum : (byt s (i * 256) 252 ++ Crc.be4 (Crc.sumOf i (byt s (i * 256) 252))).length = 256 := by rw [List.length_append, byt_len]; simp [Crc.be4]
      have hq : ∀ w', (Op.equalIn 10000 75 (.agg (valsB (byt s (i * 256) 256)).toArray) (.agg (valsB (byt s (i * 256) 252 ++ Crc.be4 (Crc.sumOf i (byt s (i * 256) 252)))).toArray)).run Tryz.prog w' = .ok (decide (byt s (i * 256) 256 = byt s (i * 256) 252 ++ Crc.be4 (Crc.sumOf i (byt s (i * 256) 252)))) w' := fun w' => eqPage _ _ (byt_len _ _ _) hlsum (fun x hx => byt_lt _ _ _ x hx) (fun x hx => by
        rcases List.mem_append.1 hx with h | h
        · exact byt_lt _ _ _ x h
        · simp only [Crc.be4, List.mem_cons, List.not_mem_nil, or_false] at h
          omega) w'
      have hgu : Tryz.prog.eqGuardType Tryz.prog.depth 75 = false := by kernel_rfl
      have hu1 := Tryz.underlying75
      have hu2 := Tryz.underlying78
      have hi1 : (Tryz.prog.info? 75).map (·.size) = some (valsB (byt s (i * 256) 256)).length := by rw [Tryz.infoPage, hv]
      have hi2 : (Tryz.prog.info? 78).map (·.size) = some (valsB (byt s (i * 256) 252)).length := by rw [Tryz.infoBody, hv2]
      generalize hPg : byt s (i * 256) 256 = Pg at *
      generalize hCt : byt s (i * 256) 252 = Ct at *
      go_wp2_with fail
      refine wp_region_held_drew (S := fun w' => w'.rangeAt wr.heap.size 0 (valsB Pg) ∧ w'.rangeAt (wr.heap.size + 1) 0 (valsB Ct)) (by kernel_rfl) ⟨(World.rangeAt_drew _ _ _ _).2 hr1, (World.rangeAt_drew _ _ _ _).2 hr2⟩ (fun hHeld => ?_)
      refine wpAnyH_take (i := 0) rfl (by kernel_rfl) (by kernel_rfl) (by kernel_rfl) (fun _ _ _ h => h) (yieldsIf_load_mid (by rfl) 75 _ rfl wr.heap.size 0 rfl (valsB Pg) _ (fun _ h => h.1) hu1 rfl hi1) hHeld ?_
      simp only [Act.put, List.setIfInBounds_toArray, List.set_cons_zero, List.set_cons_succ]
      refine wpAnyH_take (i := 1) (v := .int .i64 (i : Int)) rfl (by kernel_rfl) (by kernel_rfl) (by kernel_rfl) (fun _ _ _ h => h) (Or.inl ⟨by rfl, fun w _ => by go_simp⟩) hHeld ?_
      simp only [Act.put, List.setIfInBounds_toArray, List.set_cons_zero, List.set_cons_succ]
      refine wpAnyH_take (i := 2) rfl (by kernel_rfl) (by kernel_rfl) (by kernel_rfl) (fun _ _ _ h => h) (yieldsIf_load_mid (by rfl) 78 _ rfl (wr.heap.size + 1) 0 rfl (valsB Ct) _ (fun _ h => h.2) hu2 rfl hi2) hHeld ?_
      simp only [Act.put, List.setIfInBounds_toArray, List.set_cons_zero, List.set_cons_succ]
      refine wpAnyH_ready (rs := [3]) (by kernel_rfl) (by simp) ?_
      refine AllReadyH.cons rfl (fun K hK => ?_) AllReadyH.nil
      go_simp
      refine (Calls.mono (HSe _).out ?_)
      rintro e w1 ⟨rfl, hB1⟩
      refine hK.out _ _ ⟨fun j v hv => cell_kept hB1 _ _ (by rw [World.cell?_drew]; exact hr1 j v hv), fun j v hv => cell_kept hB1 _ _ (by rw [World.cell?_drew]; exact hr2 j v hv)⟩ (fun hHeld2 => ?_)
      clear hK K
      generalize hsl : Ct ++ Crc.be4 (Crc.sumOf i Ct) = Sl at *
      generalize hd : decide (Pg = Sl) = d at *
      refine wpAnyH_take (i := 4) (oi := { dst := some 44, op := .binOp .neq 75 (.tmp 40) (.tmp 43) 75, type := 4, pos := "pages.go:45", after := #[{ on := 0, ground := .data }, { on := 3, ground := .data }], guard := none }) (v := .bool (!d)) rfl (by kernel_rfl) (by kernel_rfl) (by kernel_rfl) (fun _ _ _ h => h) (Or.inl ⟨by rfl, fun w _ => by go_simp⟩) hHeld2 ?_
      dsimp only [Act.put]
      simp only [List.setIfInBounds_toArray, List.set_cons_zero, List.set_cons_succ]
      refine wpAnyH_done (by kernel_rfl) ?_ _
      have HD : Hid _ := hd
      have HSl : Hid _ := hsl
      have HPg : Hid _ := hPg
      have HCt : Hid _ := hCt
      have HB1 : Hid _ := hB1
      have HH2 : Hid _ := hHeld2
      clear hd hsl hPg hCt hB1 hHeld2 hHeld hq hr1 hr2 hb2 HSe
      cases d
      · have HX : Hid ((∃ p < n, ¬ pageOk s p) ∧ Below w.heap.size w w1) := (by
          refine ⟨⟨i, hlt, fun hp => ?_⟩, HI.out.2.2.1.trans ((HBW.out.trans ((Below.refl _ _).drew.trans (HB1.out.mono (by simp; omega)))).mono HI.out.2.2.1.size)⟩
          have h := HD.out
          rw [decide_eq_false_iff_not] at h
          refine h ?_
          rw [HBy.out, ← HSl.out]
          unfold pageOk at hp
          rw [Nat.mul_comm 256 i] at hp
          rw [hp, HCt.out] : _ ∧ _)
        go_wp2
        go_ret2
        exact ⟨.inl ⟨HX.out.1, rfl⟩, HX.out.2⟩
      · have HY : Hid (pageOk s i) := (by
          have h := of_decide_eq_true HD.out
          rw [HBy.out, ← HSl.out] at h
          unfold pageOk
          rw [Nat.mul_comm 256 i, HCt.out]
          exact List.append_cancel_left h : pageOk s i)
        have hW1 : Below wr.heap.size wr w1 := HBW.out.trans ((Below.refl _ _).drew.trans (HB1.out.mono (by simp; omega)))
        have hbb := bu_blk HI.out.1
        have hU := unpack_any Ct (by rw [← HCt.out, byt_len]) (fun x hx => byt_lt _ _ _ x (by rw [HCt.out]; exact hx)) (w.heap.size + 1) (w.heap.size + 1) (textN s i) w1 (bu_below HI.out.1 hW1) (by have := hW1.size; omega) (by rw [textN_len]; omega)
        have HU : Hid (Calls Tryz.prog 41 _ w1 _) := hU
        clear hU
        go_wp2_with fail
        refine wp_load_mid 78 _ rfl (wr.heap.size + 1) 0 rfl _ _ HH2.out.2 hu2 rfl hi2 ?_
        go_wp2_with fail
        refine (Calls.mono HU.out ?_)
        rintro e w2 ⟨rfl, hb9, hl9⟩
        have HI2 : Hid (Bu (w.heap.size + 1) (w.heap.size + 1) (valsT (textN s (i + 1))) w2 ∧ w2.heap[w.heap.size]? = some (.cells (bytesRow s cap) 5 fz) ∧ Below w.heap.size w w2 ∧ ∀ p < i + 1, pageOk s p) := (by
          refine ⟨?_, ?_, HI.out.2.2.1.trans ((hW1.mono HI.out.2.2.1.size).trans (hl9.mono (by omega))), fun p hp => ?_⟩
          · show Bu _ _ (valsT (textN s i ++ nums 8 (byt s (256 * i) 252))) w2
            rw [Nat.mul_comm 256 i, HCt.out]; exact hb9
          · rw [hl9.block _ (by omega), hW1.block _ (by omega)]; exact HI.out.2.1
          · rcases Nat.lt_succ_iff_lt_or_eq.1 hp with h | h
            · exact HI.out.2.2.2 p h
            · rw [h]; exact HY.out : _ ∧ _)
        clear hb9 hl9 hW1
        go_wp2
        go_roundw
        case rel => exact ⟨i + 1, by omega, by go_num, HI2.out⟩
        case measure => simp [intOf]; omega
    · obtain rfl : i = n := by omega
      have hv := valsT_bytes (textN s i)
      have hI := HI.out.1
      rw [hv] at hI
      have HSt : Hid (Calls Tryz.prog 32 _ wr _) := Tryz.Builder_String_any_k (w.heap.size + 1) (w.heap.size + 1) _ wr hI (by have := bu_blk HI.out.1; omega)
      clear hv hI
      go_wp2_with fail
      refine (Calls.mono HSt.out ?_)
      rintro e w3 ⟨rfl, hb3, hl3, ho3⟩
      have HE : Hid (Below w.heap.size w w3) := HI.out.2.2.1.trans (hl3.mono (by omega))
      clear hb3 hl3 ho3
      go_wp2
      go_ret2
      exact ⟨.inr ⟨HI.out.2.2.2, rfl⟩, HE.out⟩
end Go.Proofs.YtphjbbbnbmafnabGreatDoor.G

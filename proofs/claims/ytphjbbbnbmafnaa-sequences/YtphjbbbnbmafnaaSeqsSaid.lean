/-
  For every two lists of numbers and every script, trellislaw.Sequences returns true (NewSeq, and Len, At, Rank, Select, Below and Least of a sequence of 8 bits and of one of 16 answer as the document says; what was handed in is not written into and not kept), and each argument reads afterwards as it read before. No condition.
-/
import Derived.Test.YtphjbbbnbmafnaaSeqs
import Derived.SizedLaws
import Derived.OpenShut
import Derived.ShutString
import Derived.ChangeOld
import Derived.Deep.Slices
namespace Go.Proofs.Ytphjbbbnbmafnaa.sequences
open Go.ChangeShapes Go.WideShapes Go.ChangeAt Go.RowKit

theorem own : ownKnob Try.prog.godebug = none := by kernel_rfl
theorem laidOut : laidOutB Try.prog = true := by kernel_rfl
theorem cells34 : Try.prog.cellsOf 34 = 6 := by kernel_rfl
theorem cells32 : Try.prog.cellsOf 32 = 2 := by kernel_rfl
theorem cells3 : Try.prog.cellsOf 3 = 1 := by kernel_rfl
theorem bytesI : Try.prog.bytesOf 3 = 8 := by kernel_rfl
section
variable {H : Type} {enc : TypeId × Value → H} {w : World} {base : Nat} {spare : Nat → Bool} {held : Bool} {fuel : Nat}
theorem six {cs : List Value} (h : cs.length = 6) : ∃ c0 c1 c2 c3 c4 c5, cs = [c0, c1, c2, c3, c4, c5] := by
  match cs, h with
  | [c0, c1, c2, c3, c4, c5], _ => exact ⟨c0, c1, c2, c3, c4, c5, rfl⟩
theorem some_at {α : Type} {l : List α} {n i : Nat} (h : l.length = n) (hi : i < n) : ∃ y, l[i]? = some y := ⟨l[i]'(by omega), by simp [h, hi]⟩
theorem ask_ints {cs : List Value} {x : DataW H × List MemPlace} (h : DataW.trod enc Try.prog w base spare held fuel 34 cs = some x) :
    ∃ a0 a1 a2 a3 a4 a5 : Int, cs = [.int .i64 a0, .int .i64 a1, .int .i64 a2, .int .i64 a3, .int .i64 a4, .int .i64 a5] := by
  obtain ⟨xs, n, rfl, rfl, hl, hxl, hf⟩ := DataW.trod_struct Try.underlying34 h
  rw [cells34] at hl
  obtain ⟨c0, c1, c2, c3, c4, c5, rfl⟩ := six hl
  have hxl5 : xs.length = 5 := hxl
  obtain ⟨y0, hy0⟩ := some_at hxl5 (show 0 < 5 by decide)
  obtain ⟨y1, hy1⟩ := some_at hxl5 (show 1 < 5 by decide)
  obtain ⟨y2, hy2⟩ := some_at hxl5 (show 2 < 5 by decide)
  obtain ⟨y3, hy3⟩ := some_at hxl5 (show 3 < 5 by decide)
  obtain ⟨y4, hy4⟩ := some_at hxl5 (show 4 < 5 by decide)
  have h0 := (hf 0 { name := "Kind", type := 3, offset := 0, embedded := false, tag := "", pkgPath := "", byteOffset := 0 } (by simp)).trans hy0
  have h1 := (hf 1 { name := "H", type := 3, offset := 1, embedded := false, tag := "", pkgPath := "", byteOffset := 8 } (by simp)).trans hy1
  have h2 := (hf 2 { name := "C", type := 3, offset := 2, embedded := false, tag := "", pkgPath := "", byteOffset := 16 } (by simp)).trans hy2
  have h3 := (hf 3 { name := "I", type := 3, offset := 3, embedded := false, tag := "", pkgPath := "", byteOffset := 24 } (by simp)).trans hy3
  have h4 := (hf 4 { name := "X", type := 32, offset := 4, embedded := false, tag := "", pkgPath := "", byteOffset := 32 } (by simp)).trans hy4
  simp only [cells3, cells32, List.drop_zero, List.drop_succ_cons, List.take_succ_cons, List.take_zero] at h0 h1 h2 h3 h4
  obtain ⟨a0, e0, _⟩ := DataW.trod_int Try.underlying3 h0
  obtain ⟨a1, e1, _⟩ := DataW.trod_int Try.underlying3 h1
  obtain ⟨a2, e2, _⟩ := DataW.trod_int Try.underlying3 h2
  obtain ⟨a3, e3, _⟩ := DataW.trod_int Try.underlying3 h3
  obtain ⟨zs, m, _, _, _, hzl, hz⟩ := DataW.trod_struct Try.underlying32 h4
  have hzl2 : zs.length = 2 := hzl
  obtain ⟨z0, hz0⟩ := some_at hzl2 (show 0 < 2 by decide)
  obtain ⟨z1, hz1⟩ := some_at hzl2 (show 1 < 2 by decide)
  have g0 := (hz 0 { name := "From", type := 3, offset := 0, embedded := false, tag := "", pkgPath := "", byteOffset := 0 } (by simp)).trans hz0
  have g1 := (hz 1 { name := "To", type := 3, offset := 1, embedded := false, tag := "", pkgPath := "", byteOffset := 8 } (by simp)).trans hz1
  simp only [cells3, List.drop_zero, List.drop_succ_cons, List.take_succ_cons, List.take_zero] at g0 g1
  obtain ⟨a4, e4, _⟩ := DataW.trod_int Try.underlying3 g0
  obtain ⟨a5, e5, _⟩ := DataW.trod_int Try.underlying3 g1
  simp only [List.cons.injEq, and_true] at e0 e1 e2 e3 e4 e5
  subst e0 e1 e2 e3 e4 e5
  exact ⟨a0, a1, a2, a3, a4, a5, rfl⟩
end


theorem addr_add (b off i : Nat) : (⟨b, off, none⟩ : Addr).add i = ⟨b, off + i, none⟩ := by
  by_cases e : i = 0
  · subst e; simp [Addr.add]
  · simp [Addr.add, e]
def asInt : Option Value → Int
  | some (.int _ n) => n
  | _ => 0
def intIn : Value → Int
  | .int _ n => n
  | _ => 0

theorem script_of {H : Type} {enc : TypeId × Value → H} {W : World} {a0 : Option Addr} {len cap fuel : Nat} {x : DataW H × List MemPlace} (hf : DataW.trod enc Try.prog W 0 (fun _ => true) true fuel 22 [.slice a0 len cap] = some x) :
    ∃ E, AskAt W a0 len E ∧ len ≤ maxLen := by
  rcases Deep.open_slice Try.underlying22 hf with ⟨hcs, _⟩ | ⟨a, l, c, m, n, D, Pl, hcs, _, hl, hm, hmm, rfl, hx⟩
  · simp only [List.cons.injEq, Value.slice.injEq, and_true] at hcs
    exact ⟨fun _ _ => 0, .inl hcs.2.1, by rw [hcs.2.1]; exact Nat.zero_le _⟩
  · simp only [List.cons.injEq, Value.slice.injEq, and_true] at hcs
    obtain ⟨rfl, rfl, rfl⟩ := hcs
    simp only [if_true] at hmm
    subst hmm
    have hlen : len ≤ maxLen := by omega
    refine ⟨fun i c => asInt (W.cell? ((a.add (i * 6)).add c)), ?_, hlen⟩
    by_cases e : len = 0
    · exact .inl e
    · rw [cells34] at hx
      obtain ⟨b, off, spot⟩ := a
      have hspot : spot = none := by
        obtain ⟨cs, h1, h2⟩ := hx 0 (by omega)
        obtain ⟨_, h4, h5⟩ := World.cells?_some h1
        obtain ⟨b0, b1, b2, b3, b4, b5, rfl⟩ := ask_ints h2
        have := h5 0 (by omega)
        simpa [Addr.add] using World.cell?_spot this
      subst hspot
      refine .inr ⟨b, off, rfl, fun i hi c hc => ?_⟩
      obtain ⟨cs, h1, h2⟩ := hx i (by omega)
      obtain ⟨_, h4, h5⟩ := World.cells?_some h1
      obtain ⟨b0, b1, b2, b3, b4, b5, rfl⟩ := ask_ints h2
      have h6 := h5 c hc
      show W.cell? ⟨b, off + i * 6 + c, none⟩ = some (.int .i64 (asInt (W.cell? (((⟨b, off, none⟩ : Addr).add (i * 6)).add c))))
      rw [addr_add, addr_add] at h6 ⊢
      rw [h6]
      match c, hc with
      | 0, _ => rfl
      | 1, _ => rfl
      | 2, _ => rfl
      | 3, _ => rfl
      | 4, _ => rfl
      | 5, _ => rfl


theorem raw_of {H : Type} {enc : TypeId × Value → H} {W : World} {a0 : Option Addr} {len cap fuel : Nat} {x : DataW H × List MemPlace} (hf : DataW.trod enc Try.prog W 0 (fun _ => true) true fuel 29 [.slice a0 len cap] = some x) :
    ∃ R, RawAt W a0 len R ∧ (len = 0 ∨ ∃ elems spare, x.1 = .slice elems spare ∧ elems.length = len) := by
  rcases Deep.open_slice1 Try.underlying29 cells3 hf with ⟨hcs, _⟩ | ⟨a, l, c, m, n, V, D, Pl, hcs, _, hl, hm, hmm, hd, hx⟩
  · simp only [List.cons.injEq, Value.slice.injEq, and_true] at hcs
    exact ⟨fun _ => 0, .inl hcs.2.1, .inl hcs.2.1⟩
  · simp only [List.cons.injEq, Value.slice.injEq, and_true] at hcs
    obtain ⟨rfl, rfl, rfl⟩ := hcs
    simp only [if_true] at hmm
    subst hmm
    refine ⟨fun i => intIn (V i), ?_, .inr ⟨_, _, by rw [hd], by simp⟩⟩
    by_cases e : len = 0
    · exact .inl e
    · obtain ⟨b, off, spot⟩ := a
      have hspot : spot = none := by simpa [Addr.add] using World.cell?_spot (hx 0 (by omega)).1
      subst hspot
      refine .inr ⟨b, off, rfl, fun i hi => ?_⟩
      obtain ⟨hc, ht⟩ := hx i (by omega)
      obtain ⟨y, hy, _⟩ := DataW.trod_int Try.underlying3 ht
      have hv : V i = .int .i64 y := by simpa using hy
      rw [hv] at hc
      show W.cell? ⟨b, off + i, none⟩ = some (.int .i64 (intIn (V i)))
      rw [hv]
      rw [addr_add] at hc
      exact hc

set_option maxRecDepth 100000 in
theorem lifted (os : Os) (started : os.Started) (H : Type) (enc : TypeId × Value → H) :
    ReturnsInHanded {} Try.checked os 5 .any (Rows.sequencesSpec.pre6 enc Try.prog Try.f5 Rows.sequencesRow.domain false) (Rows.sequencesSpec.post enc Try.prog Try.f5 false true false false) := by
  refine returnsInHanded_of_change_sized (C := Try.checked) own started (by kernel_rfl) Try.func5
    (ChangeSpec.witness6 (enc := enc) (C := Try.checked) false ⟨#[], #[.slice none 0 0, .slice none 0 0, .slice none 0 0], []⟩ 8 (by kernel_rfl) (by kernel_rfl) (by kernel_rfl) (by kernel_rfl)) ?_
  intro W base args ds gs before hval0 hW _ hsz0 _
  have hsz : (DataW.weightsEach Try.prog (Try.f5.params.toList ++ Rows.sequencesSpec.plain.varTypes Try.prog) (ds ++ gs)).all (· ≤ reachBytes) = true := hsz0
  have hval : ∀ (j : Nat) t v, Try.f5.params[j]? = some t → args[j]? = some v → Value.okWide Try.prog W .any base t v := hval0
  have hW' := hW
  obtain ⟨p, q, hA0, hV, rfl, _, _⟩ := hW
  have hA : DataW.TrodAll enc Try.prog W 0 (fun _ => true) true Try.f5.params.toList args.toList ds p := hA0
  rw [Try.params5] at hA hval
  obtain ⟨v0, vs0, d0, ds0, p0, q0, hargs, rfl, rfl, h0, r0⟩ := trodAll_cons hA
  obtain ⟨v1, vs1, d1, ds1, p1, q1, rfl, rfl, rfl, h1, r1⟩ := trodAll_cons r0
  obtain ⟨v2, vs2, d2, ds2, p2, q2, rfl, rfl, rfl, h2, r2⟩ := trodAll_cons r1
  obtain ⟨rfl, rfl, rfl⟩ := trodAll_nil r2
  obtain rfl : args = #[v0, v1, v2] := by cases args; simp_all
  obtain ⟨rfl, rfl⟩ := trodVars_none hV
  obtain ⟨a0, len0, cap0, rfl⟩ := okWide_slice Try.underlying29 (hval 0 29 v0 rfl rfl)
  obtain ⟨a1, len1, cap1, rfl⟩ := okWide_slice Try.underlying29 (hval 1 29 v1 rfl rfl)
  obtain ⟨a2, len2, cap2, rfl⟩ := okWide_slice Try.underlying22 (hval 2 22 v2 rfl rfl)
  have k0 := h0
  have k1 := h1
  have k2 := h2
  have lt0 : ∀ x ∈ p0, x.block < W.heap.size := by obtain ⟨m, hm⟩ := k0; exact DataW.trod_lt m _ _ _ hm
  have lt1 : ∀ x ∈ p1, x.block < W.heap.size := by obtain ⟨m, hm⟩ := k1; exact DataW.trod_lt m _ _ _ hm
  have lt2 : ∀ x ∈ p2, x.block < W.heap.size := by obtain ⟨m, hm⟩ := k2; exact DataW.trod_lt m _ _ _ hm
  obtain ⟨R0, hr0, hd0⟩ : ∃ R, RawAt W a0 len0 R ∧ (len0 = 0 ∨ ∃ elems spare, d0 = .slice elems spare ∧ elems.length = len0) := by
    obtain ⟨fuel, hf⟩ := h0
    exact raw_of hf
  obtain ⟨R1, hr1, hd1⟩ : ∃ R, RawAt W a1 len1 R ∧ (len1 = 0 ∨ ∃ elems spare, d1 = .slice elems spare ∧ elems.length = len1) := by
    obtain ⟨fuel, hf⟩ := h1
    exact raw_of hf
  obtain ⟨E, hsc, hlen2⟩ : ∃ E, AskAt W a2 len2 E ∧ len2 ≤ maxLen := by
    obtain ⟨fuel, hf⟩ := h2
    exact script_of hf
  have b0 : len0 * 8 ≤ 140737488351232 := by
    rcases hd0 with h | ⟨elems, spare, rfl, hel⟩
    · omega
    · have := sized_slice hsz (j := 0) (t := 29) (e := 3) rfl rfl Try.underlying29
      rw [bytesI] at this
      simp only [reachBytes] at this
      omega
  have b1 : len1 * 8 ≤ 140737488351232 := by
    rcases hd1 with h | ⟨elems, spare, rfl, hel⟩
    · omega
    · have := sized_slice hsz (j := 1) (t := 29) (e := 3) rfl rfl Try.underlying29
      rw [bytesI] at this
      simp only [reachBytes] at this
      omega
  clear hA0 hval0 hsz0 hsz
  refine (seqs_walk a0 a1 a2 len0 cap0 len1 cap1 len2 cap2 R0 R1 E W hr0 hr1 hsc b0 b1 hlen2).mono fun e W' ⟨he, bel⟩ => ?_
  subst he
  exact ⟨_, rfl, _, _, _, [], _, [], hW', trodAll_mk1 (shut_bool Try.underlying4 _), (trodAll_cons_mk (Below.trod laidOut (by kernel_rfl) (of_decide_eq_true (by kernel_rfl)) k0 bel lt0) (trodAll_cons_mk (Below.trod laidOut (by kernel_rfl) (of_decide_eq_true (by kernel_rfl)) k1 bel lt1) (trodAll_cons_mk (Below.trod laidOut (by kernel_rfl) (of_decide_eq_true (by kernel_rfl)) k2 bel lt2) trodAll_mk0))), rfl, bel.frame _, fun h => by cases h⟩

theorem over : Rows.sequencesRow.holds Try.pinned (OpenSpec.ofChange Rows.sequencesSpec) :=
  OpenClaim.holds_of_wide 5 Try.f5 rfl rfl rfl rfl rfl rfl rfl ⟨rfl, rfl, rfl, rfl, rfl⟩ rfl rfl rfl rfl rfl (by kernel_rfl) Try.func5 (by kernel_rfl)
    (of_decide_eq_true (by kernel_rfl)) (by unfold Func.isWrapper; first | (rw [if_pos (by decide +kernel)]; kernel_rfl) | (rw [if_neg (by decide +kernel)]; exact ⟨rfl, rfl⟩))
    (fun os started H enc _ => lifted os started H enc)

end Go.Proofs.Ytphjbbbnbmafnaa.sequences
namespace Go.Proofs.Ytphjbbbnbmafnaa
theorem sequences_holds : Rows.SequencesSaid := sequences.over
end Go.Proofs.Ytphjbbbnbmafnaa

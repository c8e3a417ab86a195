/-
  Two lists of edges in order laid into one, each once: without the program. No condition.
  The document's own order of edges (trellisref.Ordered): a new list of the edges in order, each once; nothing that was there is written.
-/
import Derived.Test.YtphjbbbnbmafnaaGreatDoorGMath
import Derived.Test.YtphjbbbnbmafnaaGreatDoorEqE
import Derived.Test.YtphjbbbnbmafnaaGreatDoorInOrd
import Derived.Deep.DeepCutAuto
namespace Go.Proofs.YtphjbbbnbmafnaaGreatDoor.Gm

/-- x is put behind, if it is not there as the last one -/
def push (L : List E3) (x : E3) : List E3 := if L.getLast? = some x then L else L ++ [x]
theorem push_mem (L : List E3) (x y : E3) : y ∈ push L x ↔ y ∈ L ∨ y = x := by
  unfold push
  split
  · rename_i h
    have hx : x ∈ L := List.mem_of_getLast? h
    constructor
    · exact .inl
    · intro h
      rcases h with h | h
      · exact h
      · rw [h]; exact hx
  · simp
theorem push_strict {L : List E3} {x : E3} (hL : Strict L) (hx : ∀ z ∈ L, ltE x z = false) : Strict (push L x) := by
  unfold push
  split
  · exact hL
  · rename_i hne
    refine List.pairwise_append.2 ⟨hL, List.pairwise_singleton _ _, fun a ha b hb => ?_⟩
    have hb' : b = x := by simpa using hb
    subst hb'
    have h1 := hx a ha
    cases hc : ltE a b with
    | true => rfl
    | false =>
      exfalso
      have e := ltE_one a b hc h1
      subst e
      apply hne
      -- a is the last one: whatever stands behind it would be ahead of none
      cases hl : L.getLast? with
      | none =>
        rw [List.getLast?_eq_none_iff] at hl
        rw [hl] at ha; cases ha
      | some z =>
        obtain ⟨ini, rfl⟩ : ∃ ini, L = ini ++ [z] := List.getLast?_eq_some_iff.1 hl
        rcases List.mem_append.1 ha with h | h
        · have h2 := (List.pairwise_append.1 hL).2.2 a h z (by simp)
          have h3 := hx z (by simp)
          rw [h3] at h2; cases h2
        · have : a = z := by simpa using h
          rw [this]
theorem push_len (L : List E3) (x : E3) : (push L x).length ≤ L.length + 1 := by
  unfold push
  split
  · omega
  · simp
structure MInv (A B : List E3) (i k : Nat) (L : List E3) : Prop where
  strict : Strict L
  mem : ∀ x, x ∈ L ↔ x ∈ A.take i ∨ x ∈ B.take k
  a : ∀ x ∈ L, ∀ y ∈ A.drop i, ltE y x = false
  b : ∀ x ∈ L, ∀ y ∈ B.drop k, ltE y x = false
  len : L.length ≤ i + k
theorem MInv.start (A B : List E3) : MInv A B 0 0 [] := ⟨List.Pairwise.nil, fun x => by simp, (fun x h => by cases h), (fun x h => by cases h), Nat.zero_le _⟩
theorem drop_cons {A : List E3} {i : Nat} {x : E3} (h : A[i]? = some x) : A.drop i = x :: A.drop (i + 1) := by
  obtain ⟨hi, rfl⟩ := List.getElem?_eq_some_iff.1 h
  exact List.drop_eq_getElem_cons hi
theorem take_snocG {A : List E3} {i : Nat} {x : E3} (h : A[i]? = some x) : A.take (i + 1) = A.take i ++ [x] := by rw [List.take_add_one, h]; rfl
theorem strict_drop {A : List E3} (hA : Strict A) {i : Nat} {x : E3} (h : A[i]? = some x) : ∀ y ∈ A.drop (i + 1), ltE x y = true := by
  have h2 : Strict (A.drop i) := List.Pairwise.sublist (List.drop_sublist i A) hA
  rw [drop_cons h] at h2
  exact (List.pairwise_cons.1 h2).1
theorem lt_asym {a b : E3} (h : ltE a b = true) : ltE b a = false := by
  cases hc : ltE b a with
  | false => rfl
  | true => have := ltE_trans _ _ _ h hc; rw [ltE_irrefl] at this; cases this
theorem MInv.left {A B : List E3} {i k : Nat} {L : List E3} (h : MInv A B i k L) (hA : Strict A) (hB : Strict B) {x : E3} (hx : A[i]? = some x) (hk : B.length ≤ k ∨ ∃ y, B[k]? = some y ∧ ltE x y = true) : MInv A B (i + 1) k (push L x) := by
  have hxd : x ∈ A.drop i := by rw [drop_cons hx]; exact List.mem_cons_self ..
  refine ⟨push_strict h.strict (fun z hz => h.a z hz x hxd), fun y => ?_, fun z hz y hy => ?_, fun z hz y hy => ?_, by have := push_len L x; have := h.len; omega⟩
  · rw [push_mem, h.mem, take_snocG hx]
    simp only [List.mem_append, List.mem_singleton]
    constructor
    · rintro ((h | h) | h)
      · exact .inl (.inl h)
      · exact .inr h
      · exact .inl (.inr h)
    · rintro ((h | h) | h)
      · exact .inl (.inl h)
      · exact .inr h
      · exact .inl (.inr h)
  · rcases (push_mem L x z).1 hz with h1 | h1
    · exact h.a z h1 y (by rw [drop_cons hx]; exact List.mem_cons_of_mem _ hy)
    · rw [h1]; exact lt_asym (strict_drop hA hx y hy)
  · rcases (push_mem L x z).1 hz with h1 | h1
    · exact h.b z h1 y hy
    · rw [h1]
      rcases hk with hk | ⟨b, hb, hlt⟩
      · rw [List.drop_eq_nil_of_le hk] at hy; cases hy
      · rw [drop_cons hb] at hy
        rcases List.mem_cons.1 hy with e | hy2
        · rw [e]; exact lt_asym hlt
        · exact lt_asym (ltE_trans _ _ _ hlt (strict_drop hB hb y hy2))
theorem MInv.right {A B : List E3} {i k : Nat} {L : List E3} (h : MInv A B i k L) (hA : Strict A) (hB : Strict B) {x : E3} (hx : B[k]? = some x) (hi : A.length ≤ i ∨ ∃ y, A[i]? = some y ∧ ltE y x = false) : MInv A B i (k + 1) (push L x) := by
  have hxd : x ∈ B.drop k := by rw [drop_cons hx]; exact List.mem_cons_self ..
  refine ⟨push_strict h.strict (fun z hz => h.b z hz x hxd), fun y => ?_, fun z hz y hy => ?_, fun z hz y hy => ?_, by have := push_len L x; have := h.len; omega⟩
  · rw [push_mem, h.mem, take_snocG hx]
    simp only [List.mem_append, List.mem_singleton]
    constructor
    · rintro ((h | h) | h)
      · exact .inl h
      · exact .inr (.inl h)
      · exact .inr (.inr h)
    · rintro (h | h | h)
      · exact .inl (.inl h)
      · exact .inl (.inr h)
      · exact .inr h
  · rcases (push_mem L x z).1 hz with h1 | h1
    · exact h.a z h1 y hy
    · rw [h1]
      rcases hi with hi | ⟨b, hb, hlt⟩
      · rw [List.drop_eq_nil_of_le hi] at hy; cases hy
      · rw [drop_cons hb] at hy
        rcases List.mem_cons.1 hy with e | hy2
        · rw [e]; exact hlt
        · cases hc : ltE y x with
          | false => rfl
          | true =>
            have := ltE_trans _ _ _ (strict_drop hA hb y hy2) hc
            rw [hlt] at this; cases this
  · rcases (push_mem L x z).1 hz with h1 | h1
    · exact h.b z h1 y (by rw [drop_cons hx]; exact List.mem_cons_of_mem _ hy)
    · rw [h1]; exact lt_asym (strict_drop hB hx y hy)
theorem MInv.all {A B l : List E3} {L : List E3} (h : MInv A B A.length B.length L) (hm : ∀ x, x ∈ l ↔ x ∈ A ∨ x ∈ B) : L = ordE l :=
  ordE_one l L h.strict (fun x => by rw [h.mem, List.take_length, List.take_length, hm])
theorem ordE_short (l : List E3) (h : l.length < 2) : ordE l = l := by
  match l, h with
  | [], _ => exact ordE_self [] List.Pairwise.nil
  | [a], _ => exact ordE_self [a] (List.pairwise_singleton _ _)
end Go.Proofs.YtphjbbbnbmafnaaGreatDoor.Gm

namespace Go.Proofs.YtphjbbbnbmafnaaGreatDoor.G
open Go.RowKit

theorem own3_below {w w' : World} {B n : Nat} {e : TypeId} {v : Value} {xs : List Value} (h : w.ownsRow B e 3 v n xs) (hB : Below w.heap.size w w') : w'.ownsRow B e 3 v n xs := by
  refine ⟨h.1, ?_⟩
  rcases h.2 with h0 | ⟨g, cap, cur, hv, hb, hg, r⟩
  · exact .inl h0
  · refine .inr ⟨g, cap, cur, hv, hb, ?_, r⟩
    rw [hB.block g (Array.getElem?_eq_some_iff.1 hg).1]
    exact hg
theorem addr_add' (b off i : Nat) : (⟨b, off, none⟩ : Addr).add i = ⟨b, off + i, none⟩ := by
  by_cases e : i = 0
  · subst e; simp [Addr.add]
  · simp [Addr.add, e]
theorem below_dn {B : Nat} {w a : World} (h : Below B w a) (q : Nat) : Below B w (a.drewN q) := h.trans ⟨rfl, rfl, rfl, Nat.le_refl _, fun _ _ => rfl⟩
theorem drew_alloc (W : World) (q : Nat) (o : Obj) : Below W.heap.size W ((W.drewN q).alloc o) := (below_dn (Below.refl _ W) q).alloc (Nat.le_refl _) o
theorem OwnE.drewN {w wr : World} {v : Value} {l : List E3} (h : OwnE w wr v l) (q : Nat) : OwnE w (wr.drewN q) v l := ⟨h.1, below_dn h.2 q⟩
theorem src3n (W : World) (q : Nat) (a b c : Value) (t : TypeId) (j : Nat) (u : Value) (hj : [a, b, c][j]? = some u) : ((W.drewN q).alloc (.cells #[a, b, c] t)).cell? ((⟨W.heap.size, 0, none⟩ : Addr).add j) = some u := src3 (W.drewN q) a b c t j u hj
/-- a slice is no longer than its room -/
def CapOk (v : Value) : Prop := ∀ a0 n cap, v = .slice a0 n cap → n ≤ cap
theorem ahead_lt (f l t f' l' t' : Int) : aheadI f l t f' l' t' = Gm.ltE (f, l, t) (f', l', t') := rfl
theorem edges_take {w : World} {v : Value} {l : List E3} {a0 : Option Addr} {cap cap' : Nat} (k : Nat) (hv : v = .slice a0 l.length cap) (h : EdgesAt w v l) (hk : k ≤ l.length) : EdgesAt w (.slice a0 k cap') (l.take k) := by
  subst hv
  obtain ⟨a1, cap1, e, h⟩ := h
  cases e
  refine ⟨a0, cap', by rw [List.length_take, Nat.min_eq_left hk], fun j e hj => h j e ?_⟩
  rw [List.getElem?_take] at hj
  split at hj
  · exact hj
  · cases hj
theorem edges_drop {w : World} {v : Value} {l : List E3} {g off cap cap' : Nat} (k : Nat) (hv : v = .slice (some ⟨g, off, none⟩) l.length cap) (h : EdgesAt w v l) : EdgesAt w (.slice (some ⟨g, off + k * 3, none⟩) (l.length - k) cap') (l.drop k) := by
  subst hv
  obtain ⟨a1, cap1, e, h⟩ := h
  cases e
  refine ⟨_, cap', by rw [List.length_drop], fun j e hj => ?_⟩
  rw [List.getElem?_drop] at hj
  obtain ⟨g2, off2, e2, c0, c1, c2⟩ := h (k + j) e hj
  cases e2
  refine ⟨g, off + k * 3, rfl, ?_, ?_, ?_⟩
  · rw [show off + k * 3 + j * 3 = off + (k + j) * 3 by omega]; exact c0
  · rw [show off + k * 3 + j * 3 + 1 = off + (k + j) * 3 + 1 by omega]; exact c1
  · rw [show off + k * 3 + j * 3 + 2 = off + (k + j) * 3 + 2 by omega]; exact c2
theorem own_empty (w : World) (t : TypeId) : (w.alloc (.cells #[] t)).ownsRow w.heap.size t 3 (.slice (some ⟨w.heap.size, 0, none⟩) 0 0) 0 [] := by
  refine ⟨rfl, .inr ⟨w.heap.size, 0, #[], rfl, Nat.le_refl _, heap_alloc_new _ _, Nat.le_refl _, by decide, rfl, rfl⟩⟩
theorem app_zero (W : World) (g cap : Nat) (a0 : Option Addr) (ty : TypeId) : (Builtin.append_ #[24, 24] ty #[.slice (some ⟨g, 0, none⟩) 0 0, .slice a0 0 cap]).run Tryz.prog W = .ok (.slice (some ⟨g, 0, none⟩) 0 0) W := by
  obtain ⟨i0, hi, _⟩ := info_parts Tryz.infoE
  cases a0 <;> simp [Builtin.append_, run_underlying Tryz.underlying24, sizeOf, typeInfo, hi, Builtin.lenOf, Builtin.firstCells, loadCells, loadCellsFrom, storeCells]
theorem wpList_app_zero (w : World) {ops : Array Oper} {rest : List Oper} {o : Oper} {a : Act} {Q : Exit → Act → World → Prop} (hgd : o.guard = none) (sl x : Operand)
    (ho : o.op = .call { callee := .builtin .append, args := #[sl, x], argTypes := #[24, 24] }) (g cap : Nat) (a0 : Option Addr) (hs : a.eval sl = .slice (some ⟨g, 0, none⟩) 0 0) (hx : a.eval x = .slice a0 0 cap)
    (h : wpList Tryz.prog ops Q rest (a.put o.dst (.slice (some ⟨g, 0, none⟩) 0 0)) w) : wpList Tryz.prog ops Q (o :: rest) a w := by
  refine wpList_plain hgd fun K hK => ?_
  have hr := app_zero w g cap a0 o.type
  unfold Oper.wp execOp
  simp only [ho, resolve, invoke, builtin, Sem.run_bind, Sem.run_pure, Result.andThen_ok, List.map_toArray, List.map_cons, List.map_nil, hs, hx, hr]
  exact hK _ _ h
set_option maxHeartbeats 4000000 in
set_option maxRecDepth 100000 in
theorem ord_short (l : List E3) (v : Value) (w : World) (he : EdgesAt w v l) (h2 : l.length < 2) :
    Calls Tryz.prog 55 #[v] w fun e w' => ∃ v', e = .returned v' ∧ w'.ownsRow w.heap.size 38 3 v' (Gm.ordE l).length (flat (Gm.ordE l)) ∧ Below w.heap.size w w' := by
  rw [Gm.ordE_short l h2]
  obtain ⟨i0, hi, hz0, hz1, hz2⟩ := info_parts Tryz.infoE
  obtain ⟨a0, cap, rfl, hed⟩ := he
  have h2I : (l.length : Int) < 2 := by omega
  match l, h2, hed, h2I with
  | [], _, _, h2I =>
    go_enter Tryz.func55, Tryz.ntmps55
    go_wp2_with (at_builtin; refine wpList_app_zero _ rfl _ _ rfl w.heap.size cap a0 rfl rfl ?_)
    go_ret
    exact ⟨_, rfl, own_empty w _, below1 _ _⟩
  | [x], _, hed, h2I =>
    obtain ⟨g, off, rfl, c0, c1, c2⟩ := hed 0 x rfl
    obtain ⟨x1, x2, x3⟩ := x
    simp only [Nat.zero_mul, Nat.add_zero] at c0 c1 c2
    have HSr : Hid (∀ j u, [Value.int .i64 x1, .int .i64 x2, .int .i64 x3][j]? = some u → (w.alloc (.cells #[] 38)).cell? ((⟨g, off, none⟩ : Addr).add j) = some u) := (fun j u hj => by
      rw [addr_add']
      match j, hj with
      | 0, hj => simp at hj; subst hj; exact cell_al c0
      | 1, hj => simp at hj; subst hj; exact cell_al c1
      | 2, hj => simp at hj; subst hj; exact cell_al c2
      | j + 3, hj => simp at hj : ∀ j u, [Value.int .i64 x1, .int .i64 x2, .int .i64 x3][j]? = some u → _)
    clear c0 c1 c2 hed
    go_enter Tryz.func55, Tryz.ntmps55
    go_wp2_with (at_builtin; refine wpList_append_own _ rfl _ _ 24 rfl w.heap.size 38 i0 (.agg #[.int .i64 0, .int .i64 0, .int .i64 0]) 3 24 Tryz.underlying24 hi hz0 hz1 hz2 rfl (by decide) _ _ _ rfl (own_empty w _) ⟨g, off, none⟩ 1 cap [.int .i64 x1, .int .i64 x2, .int .i64 x3] rfl rfl HSr.out (one3 _ _ _) (by decide) (by decide) (by simp) ?_; intro v' w2 hown hgrow hnil)
    go_ret
    exact ⟨_, rfl, hown, (below1 w _).grown hgrow (by simp) (fun k hk => by cases hk; exact Nat.le_refl _)⟩
set_option maxHeartbeats 8000000 in
set_option maxRecDepth 100000 in
theorem ord_any (N : Nat) : ∀ (l : List E3) (v : Value) (w : World), l.length ≤ N → l.length ≤ 1000000 → EdgesAt w v l → CapOk v →
    Calls Tryz.prog 55 #[v] w fun e w' => ∃ v', e = .returned v' ∧ w'.ownsRow w.heap.size 38 3 v' (Gm.ordE l).length (flat (Gm.ordE l)) ∧ Below w.heap.size w w' := by
  induction N with
  | zero => intro l v w hN _ he _; exact ord_short l v w he (by omega)
  | succ N ih =>
    intro l v w hN hl he hcap
    by_cases h2 : l.length < 2
    · exact ord_short l v w he h2
    have HIH : Hid _ := ih
    clear ih
    obtain ⟨i0, hi, hz0, hz1, hz2⟩ := info_parts Tryz.infoE
    have hEd := he
    obtain ⟨a0, cap, rfl, hed⟩ := he
    have hlc : l.length ≤ cap := hcap _ _ _ rfl
    clear hcap
    obtain ⟨x0, hx0⟩ : ∃ x0, l[0]? = some x0 := ⟨_, List.getElem?_eq_getElem (by omega)⟩
    obtain ⟨g, off, rfl, _⟩ := hed 0 x0 hx0
    have HEd : Hid _ := hEd
    have h2I : ¬ (l.length : Int) < 2 := by omega
    have hdv : (l.length : Int).tdiv 2 = ((l.length / 2 : Nat) : Int) := by rw [Int.tdiv_eq_ediv_of_nonneg (by omega)]; omega
    have hdv2 : (l.length : Int) / 2 = ((l.length / 2 : Nat) : Int) := by omega
    have hhl : l.length / 2 ≤ l.length := by omega
    have hhl2 : l.length / 2 < l.length := by omega
    have hh1 : 1 ≤ l.length / 2 := by omega
    clear hed hEd hx0 h2
    generalize hhe : l.length / 2 = hf at hdv hdv2 hhl hhl2 hh1
    have HHe : Hid _ := hhe
    have hlh : l.length - hf ≤ N := by omega
    have hfn : hf ≤ N := by omega
    clear hhe
    go_enter Tryz.func55, Tryz.ntmps55
    go_wp2_with fail
    refine (HIH.out (l.take hf) _ w (by simp; omega) (by simp; omega) (edges_take hf rfl HEd.out hhl) (fun a n c e => by cases e; omega)).mono ?_
    rintro e w1 ⟨va, rfl, hra, hB1⟩
    have HE1 : Hid _ := EdgesAt.below HEd.out hB1
    have HRa : Hid _ := hra
    have HB1 : Hid _ := hB1
    clear hra hB1
    go_wp2_with fail
    refine (HIH.out (l.drop hf) _ w1 (by simp; omega) (by simp; omega) (edges_drop hf rfl HE1.out) (fun a n c e => by cases e; omega)).mono ?_
    rintro e w2 ⟨vb, rfl, hrb, hB2⟩
    have hAl : (Gm.ordE (l.take hf)).length ≤ 1000000 := by have := Gm.ordE_len (l.take hf); simp at this; omega
    have hBl : (Gm.ordE (l.drop hf)).length ≤ 1000000 := by have := Gm.ordE_len (l.drop hf); simp at this; omega
    have hAs := Gm.ordE_strict (l.take hf)
    have hBs := Gm.ordE_strict (l.drop hf)
    have HMm : Hid (∀ x, x ∈ l ↔ x ∈ Gm.ordE (l.take hf) ∨ x ∈ Gm.ordE (l.drop hf)) := (fun x => by
      rw [Gm.ordE_mem, Gm.ordE_mem, ← List.mem_append, List.take_append_drop] : ∀ x, x ∈ l ↔ _)
    have hEA : EdgesAt w2 va (Gm.ordE (l.take hf)) := (ownE_edges HRa.out).below hB2
    have hEB : EdgesAt w2 vb (Gm.ordE (l.drop hf)) := ownE_edges hrb
    have HBw : Hid (Below w.heap.size w w2) := chain HB1.out hB2
    have HAs : Hid _ := hAs
    have HBs : Hid _ := hBs
    generalize Gm.ordE (l.take hf) = A at hAl HMm hEA HAs
    generalize Gm.ordE (l.drop hf) = B at hBl HMm hEB HBs
    obtain ⟨aa, ca, rfl, heA⟩ := hEA
    obtain ⟨ab, cb, rfl, heB⟩ := hEB
    have HEA : Hid _ := heA
    have HEB : Hid _ := heB
    clear hrb hB2 hAs hBs heA heB HRa HE1 HIH HEd HB1
    go_wp2
    go_loopw [5, 6, 7] (fun so si sk wr => ∃ (i k : Nat) (L : List E3), i ≤ A.length ∧ k ≤ B.length ∧ si = .int .i64 (i : Int) ∧ sk = .int .i64 (k : Int) ∧ Hid (OwnE w2 wr so L ∧ Gm.MInv A B i k L)) (fun _ si sk _ => A.length + B.length - ((intOf si).toNat + (intOf sk).toNat))
    case atStart => exact ⟨0, 0, [], Nat.zero_le _, Nat.zero_le _, rfl, rfl, ⟨World.ownsRow_nil _ _ _ _, Below.refl _ _⟩, Gm.MInv.start A B⟩
    case round =>
      obtain ⟨i, k, L, hiA, hkB, rfl, rfl, HI⟩ := hrel
      obtain ⟨vo, rfl⟩ : ∃ vo, vo = u5 := ⟨u5, rfl⟩
      by_cases hend : A.length ≤ i ∧ B.length ≤ k
      · obtain rfl : i = A.length := by omega
        obtain rfl : k = B.length := by omega
        have HF : Hid (L = Gm.ordE l) := HI.out.2.all HMm.out
        have HO : Hid _ := HI.out.1
        clear hend
        go_wp2
        go_ret
        refine ⟨_, rfl, ?_, chain HBw.out HO.out.2⟩
        rw [← HF.out]
        have h := HO.out.1
        have hs := HBw.out.size
        refine ⟨h.1, ?_⟩
        rcases h.2 with h0 | ⟨g, cap, cur, hv, hb, r⟩
        · exact .inl h0
        · exact .inr ⟨g, cap, cur, hv, by omega, r⟩
      · have hne : i < A.length ∨ k < B.length := by omega
        have HNe : Hid _ := hne
        have hBx : Below w2.heap.size w2 (wr.alloc (.cells #[.int .i64 0, .int .i64 0, .int .i64 0] 38)) := HI.out.1.2.alloc HI.out.1.2.size _
        have HBx : Hid _ := hBx
        clear hend hBx
        rcases Nat.lt_or_ge i A.length with hi1 | hi1
        · have hiI : (i : Int) < (A.length : Int) := by omega
          obtain ⟨xa, hxa⟩ : ∃ xa, A[i]? = some xa := ⟨_, List.getElem?_eq_getElem hi1⟩
          have HXA : Hid _ := hxa
          obtain ⟨ga, oa, rfl, c0, c1, c2⟩ := HEA.out i xa hxa
          clear hne hxa
          go_upto_region 10 with fail
          go_cut [9] (fun s wx => ∃ bf : Bool, s = .bool bf ∧ Hid ((bf = true → ∃ x, A[i]? = some x ∧ (B.length ≤ k ∨ ∃ y, B[k]? = some y ∧ Gm.ltE x y = true)) ∧ (bf = false → ∃ x, B[k]? = some x ∧ (A.length ≤ i ∨ ∃ y, A[i]? = some y ∧ Gm.ltE y x = false))) ∧ Hid (wx.heap[wr.heap.size]? = some (.cells #[.int .i64 0, .int .i64 0, .int .i64 0] 38 (0, 0)) ∧ Below wr.heap.size wr wx))
          case first =>
            have d0 := cell_kept HBx.out _ _ c0
            have d1 := cell_kept HBx.out _ _ c1
            have d2 := cell_kept HBx.out _ _ c2
            have HB0 : Hid (Below wr.heap.size wr (wr.alloc (.cells #[.int .i64 0, .int .i64 0, .int .i64 0] 38))) := below1 _ _
            have HH0 : Hid ((wr.alloc (.cells #[.int .i64 0, .int .i64 0, .int .i64 0] 38)).heap[wr.heap.size]? = some (.cells #[.int .i64 0, .int .i64 0, .int .i64 0] 38 (0, 0))) := heap_alloc_new _ _
            obtain ⟨x1, x2, x3⟩ := xa
            simp only at d0 d1 d2
            rcases Nat.lt_or_ge k B.length with hk1 | hk1
            · obtain ⟨xb, hxb⟩ : ∃ xb, B[k]? = some xb := ⟨_, List.getElem?_eq_getElem hk1⟩
              have HXB : Hid _ := hxb
              obtain ⟨gb, ob, rfl, e0, e1, e2⟩ := HEB.out k xb hxb
              have f0 := cell_kept HBx.out _ _ e0
              have f1 := cell_kept HBx.out _ _ e1
              have f2 := cell_kept HBx.out _ _ e2
              obtain ⟨y1, y2, y3⟩ := xb
              simp only at f0 f1 f2
              have hkI : (k : Int) < (B.length : Int) := by omega
              have hkE : ((k : Int) == (B.length : Int)) = false := by simpa using (by omega : ¬ (k : Int) = (B.length : Int))
              have HAh : ∀ W, Hid (Calls Tryz.prog 97 _ W _) := fun W => ahead_any x1 x2 x3 y1 y2 y3 W
              simp only [ahead_lt] at HAh
              clear c0 c1 c2 e0 e1 e2 hxb
              generalize hlv : Gm.ltE (x1, x2, x3) (y1, y2, y3) = lv at HAh
              have HLV : Hid _ := hlv
              clear hlv
              generalize wr.alloc (.cells #[.int .i64 0, .int .i64 0, .int .i64 0] 38) = Wx at d0 d1 d2 f0 f1 f2 HB0 HH0 HBx ⊢
              go_region_held (fun w' => w'.cell? ⟨ga, oa + i * 3, none⟩ = some (.int .i64 x1) ∧ w'.cell? ⟨ga, oa + i * 3 + 1, none⟩ = some (.int .i64 x2) ∧ w'.cell? ⟨ga, oa + i * 3 + 2, none⟩ = some (.int .i64 x3) ∧ w'.cell? ⟨gb, ob + k * 3, none⟩ = some (.int .i64 y1) ∧ w'.cell? ⟨gb, ob + k * 3 + 1, none⟩ = some (.int .i64 y2) ∧ w'.cell? ⟨gb, ob + k * 3 + 2, none⟩ = some (.int .i64 y3)) (refine ⟨?_, ?_, ?_, ?_, ?_, ?_⟩ <;> (repeat (first | assumption | apply cell_dr)))
                (first
                  | (go_at_call 97; refine (Calls.mono (HAh _).out ?_); rintro e w' ⟨rfl, hB9⟩; have q0 := cell_kept hB9 _ _ d0; have q1 := cell_kept hB9 _ _ d1; have q2 := cell_kept hB9 _ _ d2; have q3 := cell_kept hB9 _ _ f0; have q4 := cell_kept hB9 _ _ f1; have q5 := cell_kept hB9 _ _ f2))
              go_wp2_with fail
              go_meet
              case rel =>
                refine ⟨lv, rfl, ?_, ?_⟩
                · exact (show _ ∧ _ from ⟨fun h => ⟨_, HXA.out, .inr ⟨_, HXB.out, by rw [HLV.out]; exact h⟩⟩, fun h => ⟨_, HXB.out, .inr ⟨_, HXA.out, by rw [HLV.out]; exact h⟩⟩⟩)
                · exact (show _ ∧ _ from ⟨by rw [hB9.block _ ((Array.getElem?_eq_some_iff.1 HH0.out).1)]; exact HH0.out, HB0.out.drew.trans (hB9.mono HB0.out.size)⟩)
            · have hkE : ((k : Int) == (B.length : Int)) = true := by simpa using (by omega : (k : Int) = (B.length : Int))
              clear c0 c1 c2
              generalize wr.alloc (.cells #[.int .i64 0, .int .i64 0, .int .i64 0] 38) = Wx at d0 d1 d2 HB0 HH0 HBx ⊢
              go_quiet (fail)
              go_wp2_with fail
              go_meet
              case rel =>
                refine ⟨true, rfl, ?_, ?_⟩
                · exact (show _ ∧ _ from ⟨fun _ => ⟨_, HXA.out, .inl hk1⟩, fun h => by cases h⟩)
                · exact (show _ ∧ _ from ⟨HH0.out, below_dn HB0.out _⟩)
          case rest =>
            obtain ⟨bf, rfl, HP, HW⟩ := hcut
            clear c0 c1 c2
            cases bf
            · -- b's
              have hbx := HW.out.1
              have hBw2 := HW.out.2
              obtain ⟨x, hx, hlt⟩ := HP.out.2 rfl
              have HMi : Hid (Gm.MInv A B i (k + 1) (Gm.push L x)) := HI.out.2.right HAs.out HBs.out hx hlt
              obtain ⟨ga2, oa2, eab, c0, c1, c2⟩ := HEB.out k x hx
              cases eab
              have hBall : Below w2.heap.size w2 wc := HI.out.1.2.trans (hBw2.mono HI.out.1.2.size)
              have d0 := cell_kept hBall _ _ c0
              have d1 := cell_kept hBall _ _ c1
              have d2 := cell_kept hBall _ _ c2
              obtain ⟨x1, x2, x3⟩ := x
              simp only at d0 d1 d2
              have hidx : (k : Int) < (B.length : Int) := by have := len_of hx; omega
              have hLn : L.length ≤ 2000000 := by
                have h1 : L.length ≤ i + k := HI.out.2.len
                omega
              obtain ⟨b0, b1, b2⟩ := cells3 hbx
              have f0 := frozen_of_row wc wr.heap.size 0 _ _ hbx
              have f1 := frozen_of_row wc wr.heap.size 1 _ _ hbx
              have f2 := frozen_of_row wc wr.heap.size 2 _ _ hbx
              have h1 := heap_setCell_same wc wr.heap.size 0 _ _ (.int .i64 x1) hbx
              have h2 := heap_setCell_same _ wr.heap.size 1 _ _ (.int .i64 x2) h1
              have h3 := heap_setCell_same _ wr.heap.size 2 _ _ (.int .i64 x3) h2
              have HX3 : Hid ((((wc.setCell ⟨wr.heap.size, 0, none⟩ (.int .i64 x1)).setCell ⟨wr.heap.size, 1, none⟩ (.int .i64 x2)).setCell ⟨wr.heap.size, 2, none⟩ (.int .i64 x3)).heap[wr.heap.size]? = some (.cells #[.int .i64 x1, .int .i64 x2, .int .i64 x3] 38 (0, 0))) := h3
              have HBs3 : Hid (Below wr.heap.size wr (((wc.setCell ⟨wr.heap.size, 0, none⟩ (.int .i64 x1)).setCell ⟨wr.heap.size, 1, none⟩ (.int .i64 x2)).setCell ⟨wr.heap.size, 2, none⟩ (.int .i64 x3))) := ((hBw2.setCell (p := ⟨wr.heap.size, 0, none⟩) (Nat.le_refl _) _).setCell (p := ⟨wr.heap.size, 1, none⟩) (Nat.le_refl _) _).setCell (p := ⟨wr.heap.size, 2, none⟩) (Nat.le_refl _) _
              clear hx hlt c0 c1 c2 hBall hBw2 hbx h1 h2 h3 HW HP
              go_upto_region 16 with fail
              generalize ((wc.setCell ⟨wr.heap.size, 0, none⟩ (.int .i64 x1)).setCell ⟨wr.heap.size, 1, none⟩ (.int .i64 x2)).setCell ⟨wr.heap.size, 2, none⟩ (.int .i64 x3) = W3 at HX3 HBs3 ⊢
              clear b0 b1 b2 f0 f1 f2 d0 d1 d2
              obtain ⟨b0, b1, b2⟩ := cells3 HX3.out
              have hO3 : OwnE w2 W3 vo L := ⟨own3_below HI.out.1.1 HBs3.out, HI.out.1.2.trans (HBs3.out.mono HI.out.1.2.size)⟩
              have HO3 : Hid _ := hO3
              have gE := guardE
              have hrow := hO3.1
              have hsz := hO3.2.size
              by_cases hL0 : L = []
              · subst hL0
                have HPu : Hid (Gm.push [] (x1, x2, x3) = [] ++ [(x1, x2, x3)]) := (rfl : Gm.push [] (x1, x2, x3) = _)
                obtain ⟨ao, co, rfl⟩ : ∃ ao co, vo = .slice ao 0 co := by
                  rcases hrow.2 with ⟨rfl, _⟩ | ⟨g', c', _, rfl, _⟩
                  · exact ⟨none, 0, rfl⟩
                  · exact ⟨_, _, rfl⟩
                clear hO3
                go_quiet (fail)
                go_wp2_with (at_builtin; refine wpList_append_own _ rfl _ _ 24 rfl w2.heap.size 38 i0 (.agg #[.int .i64 0, .int .i64 0, .int .i64 0]) 3 24 Tryz.underlying24 hi hz0 hz1 hz2 rfl (by decide) _ _ _ rfl (own3_below hrow (drew_alloc W3 nq _)) ⟨W3.heap.size, 0, none⟩ 1 1 [.int .i64 x1, .int .i64 x2, .int .i64 x3] rfl rfl (src3n _ _ _ _ _ _) (one3 _ _ _) (by unfold maxLen; simp) (by simp) (by simp; omega) ?_)
                intro v' w4 hown hgrow hnil
                have HO4 : Hid (OwnE w2 w4 v' (Gm.push [] (x1, x2, x3))) := (by
                  rw [HPu.out]
                  exact ownE_snoc (e := (x1, x2, x3)) (OwnE.drewN HO3.out nq) hown hgrow : OwnE _ _ _ _)
                clear hown hgrow hnil hrow
                go_wp2
                go_roundw
                case rel => exact ⟨i, k + 1, _, by omega, by omega, by go_num, by go_num, HO4.out, HMi.out⟩
                case measure => simp [intOf] <;> omega
              · obtain ⟨g2, co, cur, rfl, _, hg2, r1, r2, r3, r4⟩ : ∃ g2 co cur, vo = .slice (some ⟨g2, 0, none⟩) L.length co ∧ w2.heap.size ≤ g2 ∧ W3.heap[g2]? = some (.cells cur 38 (0, 0)) ∧ L.length ≤ co ∧ co ≤ maxLen ∧ cur.size = co * 3 ∧ cur.toList.take (L.length * 3) = flat L := by
                  rcases hrow.2 with ⟨_, h0⟩ | h
                  · exact absurd (List.length_eq_zero_iff.1 h0) hL0
                  · exact h
                have hR : RowE W3 g2 co L := ⟨cur, hg2, r3, r4⟩
                have hLp : 0 < L.length := List.length_pos_iff.2 hL0
                obtain ⟨z, hz⟩ : ∃ z, L[L.length - 1]? = some z := ⟨_, List.getElem?_eq_getElem (by omega)⟩
                have hlast : L.getLast? = some z := by rw [List.getLast?_eq_getElem?]; exact hz
                obtain ⟨e0, e1, e2⟩ := hR.cells hz
                obtain ⟨z1, z2, z3⟩ := z
                simp only at e0 e1 e2
                have hLI : ((L.length : Int) == 0) = false := by simpa using (by omega : ¬ (L.length : Int) = 0)
                have hLm : (L.length : Int) - 1 = ((L.length - 1 : Nat) : Int) := by omega
                have hLb : ((L.length - 1 : Nat) : Int) < (L.length : Int) := by omega
                by_cases hxe : (z1, z2, z3) = (x1, x2, x3)
                · have hEq := eqlE z1 z2 z3 x1 x2 x3 true (decide_eq_true hxe)
                  have HPu : Hid (Gm.push L (x1, x2, x3) = L) := (by unfold Gm.push; rw [hlast, hxe, if_pos rfl] : _ = _)
                  clear hxe hz hlast hO3 hR r4 r3 hg2
                  go_quiet (fail)
                  go_wp2
                  go_roundw
                  case rel => exact ⟨i, k + 1, L, by omega, by omega, by go_num, by go_num, OwnE.drewN HO3.out _, by rw [← HPu.out]; exact HMi.out⟩
                  case measure => simp [intOf] <;> omega
                · have hEq := eqlE z1 z2 z3 x1 x2 x3 false (decide_eq_false hxe)
                  have HPu : Hid (Gm.push L (x1, x2, x3) = L ++ [(x1, x2, x3)]) := (by unfold Gm.push; rw [hlast, if_neg (fun e => hxe (Option.some.inj e))] : _ = _)
                  clear hxe hz hlast hO3 hR r4 r3 hg2
                  go_quiet (fail)
                  go_wp2_with (at_builtin; refine wpList_append_own _ rfl _ _ 24 rfl w2.heap.size 38 i0 (.agg #[.int .i64 0, .int .i64 0, .int .i64 0]) 3 24 Tryz.underlying24 hi hz0 hz1 hz2 rfl (by decide) _ _ _ rfl (own3_below hrow (drew_alloc W3 nq _)) ⟨W3.heap.size, 0, none⟩ 1 1 [.int .i64 x1, .int .i64 x2, .int .i64 x3] rfl rfl (src3n _ _ _ _ _ _) (one3 _ _ _) (by unfold maxLen; omega) (by omega) (by simp; omega) ?_)
                  intro v' w4 hown hgrow hnil
                  have HO4 : Hid (OwnE w2 w4 v' (Gm.push L (x1, x2, x3))) := (by
                    rw [HPu.out]
                    exact ownE_snoc (e := (x1, x2, x3)) (OwnE.drewN HO3.out nq) hown hgrow : OwnE _ _ _ _)
                  clear hown hgrow hnil hrow
                  go_wp2
                  go_roundw
                  case rel => exact ⟨i, k + 1, _, by omega, by omega, by go_num, by go_num, HO4.out, HMi.out⟩
                  case measure => simp [intOf] <;> omega
            · -- a's
              have hbx := HW.out.1
              have hBw2 := HW.out.2
              obtain ⟨x, hx, hlt⟩ := HP.out.1 rfl
              have HMi : Hid (Gm.MInv A B (i + 1) k (Gm.push L x)) := HI.out.2.left HAs.out HBs.out hx hlt
              obtain ⟨ga2, oa2, eab, c0, c1, c2⟩ := HEA.out i x hx
              cases eab
              have hBall : Below w2.heap.size w2 wc := HI.out.1.2.trans (hBw2.mono HI.out.1.2.size)
              have d0 := cell_kept hBall _ _ c0
              have d1 := cell_kept hBall _ _ c1
              have d2 := cell_kept hBall _ _ c2
              obtain ⟨x1, x2, x3⟩ := x
              simp only at d0 d1 d2
              have hidx : (i : Int) < (A.length : Int) := by have := len_of hx; omega
              have hLn : L.length ≤ 2000000 := by
                have h1 : L.length ≤ i + k := HI.out.2.len
                omega
              obtain ⟨b0, b1, b2⟩ := cells3 hbx
              have f0 := frozen_of_row wc wr.heap.size 0 _ _ hbx
              have f1 := frozen_of_row wc wr.heap.size 1 _ _ hbx
              have f2 := frozen_of_row wc wr.heap.size 2 _ _ hbx
              have h1 := heap_setCell_same wc wr.heap.size 0 _ _ (.int .i64 x1) hbx
              have h2 := heap_setCell_same _ wr.heap.size 1 _ _ (.int .i64 x2) h1
              have h3 := heap_setCell_same _ wr.heap.size 2 _ _ (.int .i64 x3) h2
              have HX3 : Hid ((((wc.setCell ⟨wr.heap.size, 0, none⟩ (.int .i64 x1)).setCell ⟨wr.heap.size, 1, none⟩ (.int .i64 x2)).setCell ⟨wr.heap.size, 2, none⟩ (.int .i64 x3)).heap[wr.heap.size]? = some (.cells #[.int .i64 x1, .int .i64 x2, .int .i64 x3] 38 (0, 0))) := h3
              have HBs3 : Hid (Below wr.heap.size wr (((wc.setCell ⟨wr.heap.size, 0, none⟩ (.int .i64 x1)).setCell ⟨wr.heap.size, 1, none⟩ (.int .i64 x2)).setCell ⟨wr.heap.size, 2, none⟩ (.int .i64 x3))) := ((hBw2.setCell (p := ⟨wr.heap.size, 0, none⟩) (Nat.le_refl _) _).setCell (p := ⟨wr.heap.size, 1, none⟩) (Nat.le_refl _) _).setCell (p := ⟨wr.heap.size, 2, none⟩) (Nat.le_refl _) _
              clear hx hlt c0 c1 c2 hBall hBw2 hbx h1 h2 h3 HW HP
              go_upto_region 16 with fail
              generalize ((wc.setCell ⟨wr.heap.size, 0, none⟩ (.int .i64 x1)).setCell ⟨wr.heap.size, 1, none⟩ (.int .i64 x2)).setCell ⟨wr.heap.size, 2, none⟩ (.int .i64 x3) = W3 at HX3 HBs3 ⊢
              clear b0 b1 b2 f0 f1 f2 d0 d1 d2
              obtain ⟨b0, b1, b2⟩ := cells3 HX3.out
              have hO3 : OwnE w2 W3 vo L := ⟨own3_below HI.out.1.1 HBs3.out, HI.out.1.2.trans (HBs3.out.mono HI.out.1.2.size)⟩
              have HO3 : Hid _ := hO3
              have gE := guardE
              have hrow := hO3.1
              have hsz := hO3.2.size
              by_cases hL0 : L = []
              · subst hL0
                have HPu : Hid (Gm.push [] (x1, x2, x3) = [] ++ [(x1, x2, x3)]) := (rfl : Gm.push [] (x1, x2, x3) = _)
                obtain ⟨ao, co, rfl⟩ : ∃ ao co, vo = .slice ao 0 co := by
                  rcases hrow.2 with ⟨rfl, _⟩ | ⟨g', c', _, rfl, _⟩
                  · exact ⟨none, 0, rfl⟩
                  · exact ⟨_, _, rfl⟩
                clear hO3
                go_quiet (fail)
                go_wp2_with (at_builtin; refine wpList_append_own _ rfl _ _ 24 rfl w2.heap.size 38 i0 (.agg #[.int .i64 0, .int .i64 0, .int .i64 0]) 3 24 Tryz.underlying24 hi hz0 hz1 hz2 rfl (by decide) _ _ _ rfl (own3_below hrow (drew_alloc W3 nq _)) ⟨W3.heap.size, 0, none⟩ 1 1 [.int .i64 x1, .int .i64 x2, .int .i64 x3] rfl rfl (src3n _ _ _ _ _ _) (one3 _ _ _) (by unfold maxLen; simp) (by simp) (by simp; omega) ?_)
                intro v' w4 hown hgrow hnil
                have HO4 : Hid (OwnE w2 w4 v' (Gm.push [] (x1, x2, x3))) := (by
                  rw [HPu.out]
                  exact ownE_snoc (e := (x1, x2, x3)) (OwnE.drewN HO3.out nq) hown hgrow : OwnE _ _ _ _)
                clear hown hgrow hnil hrow
                go_wp2
                go_roundw
                case rel => exact ⟨i + 1, k, _, by omega, by omega, by go_num, by go_num, HO4.out, HMi.out⟩
                case measure => simp [intOf] <;> omega
              · obtain ⟨g2, co, cur, rfl, _, hg2, r1, r2, r3, r4⟩ : ∃ g2 co cur, vo = .slice (some ⟨g2, 0, none⟩) L.length co ∧ w2.heap.size ≤ g2 ∧ W3.heap[g2]? = some (.cells cur 38 (0, 0)) ∧ L.length ≤ co ∧ co ≤ maxLen ∧ cur.size = co * 3 ∧ cur.toList.take (L.length * 3) = flat L := by
                  rcases hrow.2 with ⟨_, h0⟩ | h
                  · exact absurd (List.length_eq_zero_iff.1 h0) hL0
                  · exact h
                have hR : RowE W3 g2 co L := ⟨cur, hg2, r3, r4⟩
                have hLp : 0 < L.length := List.length_pos_iff.2 hL0
                obtain ⟨z, hz⟩ : ∃ z, L[L.length - 1]? = some z := ⟨_, List.getElem?_eq_getElem (by omega)⟩
                have hlast : L.getLast? = some z := by rw [List.getLast?_eq_getElem?]; exact hz
                obtain ⟨e0, e1, e2⟩ := hR.cells hz
                obtain ⟨z1, z2, z3⟩ := z
                simp only at e0 e1 e2
                have hLI : ((L.length : Int) == 0) = false := by simpa using (by omega : ¬ (L.length : Int) = 0)
                have hLm : (L.length : Int) - 1 = ((L.length - 1 : Nat) : Int) := by omega
                have hLb : ((L.length - 1 : Nat) : Int) < (L.length : Int) := by omega
                by_cases hxe : (z1, z2, z3) = (x1, x2, x3)
                · have hEq := eqlE z1 z2 z3 x1 x2 x3 true (decide_eq_true hxe)
                  have HPu : Hid (Gm.push L (x1, x2, x3) = L) := (by unfold Gm.push; rw [hlast, hxe, if_pos rfl] : _ = _)
                  clear hxe hz hlast hO3 hR r4 r3 hg2
                  go_quiet (fail)
                  go_wp2
                  go_roundw
                  case rel => exact ⟨i + 1, k, L, by omega, by omega, by go_num, by go_num, OwnE.drewN HO3.out _, by rw [← HPu.out]; exact HMi.out⟩
                  case measure => simp [intOf] <;> omega
                · have hEq := eqlE z1 z2 z3 x1 x2 x3 false (decide_eq_false hxe)
                  have HPu : Hid (Gm.push L (x1, x2, x3) = L ++ [(x1, x2, x3)]) := (by unfold Gm.push; rw [hlast, if_neg (fun e => hxe (Option.some.inj e))] : _ = _)
                  clear hxe hz hlast hO3 hR r4 r3 hg2
                  go_quiet (fail)
                  go_wp2_with (at_builtin; refine wpList_append_own _ rfl _ _ 24 rfl w2.heap.size 38 i0 (.agg #[.int .i64 0, .int .i64 0, .int .i64 0]) 3 24 Tryz.underlying24 hi hz0 hz1 hz2 rfl (by decide) _ _ _ rfl (own3_below hrow (drew_alloc W3 nq _)) ⟨W3.heap.size, 0, none⟩ 1 1 [.int .i64 x1, .int .i64 x2, .int .i64 x3] rfl rfl (src3n _ _ _ _ _ _) (one3 _ _ _) (by unfold maxLen; omega) (by omega) (by simp; omega) ?_)
                  intro v' w4 hown hgrow hnil
                  have HO4 : Hid (OwnE w2 w4 v' (Gm.push L (x1, x2, x3))) := (by
                    rw [HPu.out]
                    exact ownE_snoc (e := (x1, x2, x3)) (OwnE.drewN HO3.out nq) hown hgrow : OwnE _ _ _ _)
                  clear hown hgrow hnil hrow
                  go_wp2
                  go_roundw
                  case rel => exact ⟨i + 1, k, _, by omega, by omega, by go_num, by go_num, HO4.out, HMi.out⟩
                  case measure => simp [intOf] <;> omega
        · have hiI : ¬ (i : Int) < (A.length : Int) := by omega
          have hk1 : k < B.length := by omega
          have hkI : (k : Int) < (B.length : Int) := by omega
          obtain ⟨xb, hxb⟩ : ∃ xb, B[k]? = some xb := ⟨_, List.getElem?_eq_getElem hk1⟩
          have HXB : Hid _ := hxb
          clear hne hxb
          go_upto_region 10 with fail
          go_cut [9] (fun s wx => ∃ bf : Bool, s = .bool bf ∧ Hid ((bf = true → ∃ x, A[i]? = some x ∧ (B.length ≤ k ∨ ∃ y, B[k]? = some y ∧ Gm.ltE x y = true)) ∧ (bf = false → ∃ x, B[k]? = some x ∧ (A.length ≤ i ∨ ∃ y, A[i]? = some y ∧ Gm.ltE y x = false))) ∧ Hid (wx.heap[wr.heap.size]? = some (.cells #[.int .i64 0, .int .i64 0, .int .i64 0] 38 (0, 0)) ∧ Below wr.heap.size wr wx))
          case first =>
            have HB0 : Hid (Below wr.heap.size wr (wr.alloc (.cells #[.int .i64 0, .int .i64 0, .int .i64 0] 38))) := below1 _ _
            have HH0 : Hid ((wr.alloc (.cells #[.int .i64 0, .int .i64 0, .int .i64 0] 38)).heap[wr.heap.size]? = some (.cells #[.int .i64 0, .int .i64 0, .int .i64 0] 38 (0, 0))) := heap_alloc_new _ _
            generalize wr.alloc (.cells #[.int .i64 0, .int .i64 0, .int .i64 0] 38) = Wx at HB0 HH0 HBx ⊢
            go_quiet (fail)
            go_wp2_with fail
            go_meet
            case rel =>
              refine ⟨false, rfl, ?_, ?_⟩
              · exact (show _ ∧ _ from ⟨(fun h => by cases h), fun _ => ⟨_, HXB.out, .inl hi1⟩⟩)
              · exact (show _ ∧ _ from ⟨HH0.out, below_dn HB0.out _⟩)
          case rest =>
            obtain ⟨bf, rfl, HP, HW⟩ := hcut
            cases bf
            · -- b's
              have hbx := HW.out.1
              have hBw2 := HW.out.2
              obtain ⟨x, hx, hlt⟩ := HP.out.2 rfl
              have HMi : Hid (Gm.MInv A B i (k + 1) (Gm.push L x)) := HI.out.2.right HAs.out HBs.out hx hlt
              obtain ⟨ga2, oa2, eab, c0, c1, c2⟩ := HEB.out k x hx
              cases eab
              have hBall : Below w2.heap.size w2 wc := HI.out.1.2.trans (hBw2.mono HI.out.1.2.size)
              have d0 := cell_kept hBall _ _ c0
              have d1 := cell_kept hBall _ _ c1
              have d2 := cell_kept hBall _ _ c2
              obtain ⟨x1, x2, x3⟩ := x
              simp only at d0 d1 d2
              have hidx : (k : Int) < (B.length : Int) := by have := len_of hx; omega
              have hLn : L.length ≤ 2000000 := by
                have h1 : L.length ≤ i + k := HI.out.2.len
                omega
              obtain ⟨b0, b1, b2⟩ := cells3 hbx
              have f0 := frozen_of_row wc wr.heap.size 0 _ _ hbx
              have f1 := frozen_of_row wc wr.heap.size 1 _ _ hbx
              have f2 := frozen_of_row wc wr.heap.size 2 _ _ hbx
              have h1 := heap_setCell_same wc wr.heap.size 0 _ _ (.int .i64 x1) hbx
              have h2 := heap_setCell_same _ wr.heap.size 1 _ _ (.int .i64 x2) h1
              have h3 := heap_setCell_same _ wr.heap.size 2 _ _ (.int .i64 x3) h2
              have HX3 : Hid ((((wc.setCell ⟨wr.heap.size, 0, none⟩ (.int .i64 x1)).setCell ⟨wr.heap.size, 1, none⟩ (.int .i64 x2)).setCell ⟨wr.heap.size, 2, none⟩ (.int .i64 x3)).heap[wr.heap.size]? = some (.cells #[.int .i64 x1, .int .i64 x2, .int .i64 x3] 38 (0, 0))) := h3
              have HBs3 : Hid (Below wr.heap.size wr (((wc.setCell ⟨wr.heap.size, 0, none⟩ (.int .i64 x1)).setCell ⟨wr.heap.size, 1, none⟩ (.int .i64 x2)).setCell ⟨wr.heap.size, 2, none⟩ (.int .i64 x3))) := ((hBw2.setCell (p := ⟨wr.heap.size, 0, none⟩) (Nat.le_refl _) _).setCell (p := ⟨wr.heap.size, 1, none⟩) (Nat.le_refl _) _).setCell (p := ⟨wr.heap.size, 2, none⟩) (Nat.le_refl _) _
              clear hx hlt c0 c1 c2 hBall hBw2 hbx h1 h2 h3 HW HP
              go_upto_region 16 with fail
              generalize ((wc.setCell ⟨wr.heap.size, 0, none⟩ (.int .i64 x1)).setCell ⟨wr.heap.size, 1, none⟩ (.int .i64 x2)).setCell ⟨wr.heap.size, 2, none⟩ (.int .i64 x3) = W3 at HX3 HBs3 ⊢
              clear b0 b1 b2 f0 f1 f2 d0 d1 d2
              obtain ⟨b0, b1, b2⟩ := cells3 HX3.out
              have hO3 : OwnE w2 W3 vo L := ⟨own3_below HI.out.1.1 HBs3.out, HI.out.1.2.trans (HBs3.out.mono HI.out.1.2.size)⟩
              have HO3 : Hid _ := hO3
              have gE := guardE
              have hrow := hO3.1
              have hsz := hO3.2.size
              by_cases hL0 : L = []
              · subst hL0
                have HPu : Hid (Gm.push [] (x1, x2, x3) = [] ++ [(x1, x2, x3)]) := (rfl : Gm.push [] (x1, x2, x3) = _)
                obtain ⟨ao, co, rfl⟩ : ∃ ao co, vo = .slice ao 0 co := by
                  rcases hrow.2 with ⟨rfl, _⟩ | ⟨g', c', _, rfl, _⟩
                  · exact ⟨none, 0, rfl⟩
                  · exact ⟨_, _, rfl⟩
                clear hO3
                go_quiet (fail)
                go_wp2_with (at_builtin; refine wpList_append_own _ rfl _ _ 24 rfl w2.heap.size 38 i0 (.agg #[.int .i64 0, .int .i64 0, .int .i64 0]) 3 24 Tryz.underlying24 hi hz0 hz1 hz2 rfl (by decide) _ _ _ rfl (own3_below hrow (drew_alloc W3 nq _)) ⟨W3.heap.size, 0, none⟩ 1 1 [.int .i64 x1, .int .i64 x2, .int .i64 x3] rfl rfl (src3n _ _ _ _ _ _) (one3 _ _ _) (by unfold maxLen; simp) (by simp) (by simp; omega) ?_)
                intro v' w4 hown hgrow hnil
                have HO4 : Hid (OwnE w2 w4 v' (Gm.push [] (x1, x2, x3))) := (by
                  rw [HPu.out]
                  exact ownE_snoc (e := (x1, x2, x3)) (OwnE.drewN HO3.out nq) hown hgrow : OwnE _ _ _ _)
                clear hown hgrow hnil hrow
                go_wp2
                go_roundw
                case rel => exact ⟨i, k + 1, _, by omega, by omega, by go_num, by go_num, HO4.out, HMi.out⟩
                case measure => simp [intOf] <;> omega
              · obtain ⟨g2, co, cur, rfl, _, hg2, r1, r2, r3, r4⟩ : ∃ g2 co cur, vo = .slice (some ⟨g2, 0, none⟩) L.length co ∧ w2.heap.size ≤ g2 ∧ W3.heap[g2]? = some (.cells cur 38 (0, 0)) ∧ L.length ≤ co ∧ co ≤ maxLen ∧ cur.size = co * 3 ∧ cur.toList.take (L.length * 3) = flat L := by
                  rcases hrow.2 with ⟨_, h0⟩ | h
                  · exact absurd (List.length_eq_zero_iff.1 h0) hL0
                  · exact h
                have hR : RowE W3 g2 co L := ⟨cur, hg2, r3, r4⟩
                have hLp : 0 < L.length := List.length_pos_iff.2 hL0
                obtain ⟨z, hz⟩ : ∃ z, L[L.length - 1]? = some z := ⟨_, List.getElem?_eq_getElem (by omega)⟩
                have hlast : L.getLast? = some z := by rw [List.getLast?_eq_getElem?]; exact hz
                obtain ⟨e0, e1, e2⟩ := hR.cells hz
                obtain ⟨z1, z2, z3⟩ := z
                simp only at e0 e1 e2
                have hLI : ((L.length : Int) == 0) = false := by simpa using (by omega : ¬ (L.length : Int) = 0)
                have hLm : (L.length : Int) - 1 = ((L.length - 1 : Nat) : Int) := by omega
                have hLb : ((L.length - 1 : Nat) : Int) < (L.length : Int) := by omega
                by_cases hxe : (z1, z2, z3) = (x1, x2, x3)
                · have hEq := eqlE z1 z2 z3 x1 x2 x3 true (decide_eq_true hxe)
                  have HPu : Hid (Gm.push L (x1, x2, x3) = L) := (by unfold Gm.push; rw [hlast, hxe, if_pos rfl] : _ = _)
                  clear hxe hz hlast hO3 hR r4 r3 hg2
                  go_quiet (fail)
                  go_wp2
                  go_roundw
                  case rel => exact ⟨i, k + 1, L, by omega, by omega, by go_num, by go_num, OwnE.drewN HO3.out _, by rw [← HPu.out]; exact HMi.out⟩
                  case measure => simp [intOf] <;> omega
                · have hEq := eqlE z1 z2 z3 x1 x2 x3 false (decide_eq_false hxe)
                  have HPu : Hid (Gm.push L (x1, x2, x3) = L ++ [(x1, x2, x3)]) := (by unfold Gm.push; rw [hlast, if_neg (fun e => hxe (Option.some.inj e))] : _ = _)
                  clear hxe hz hlast hO3 hR r4 r3 hg2
                  go_quiet (fail)
                  go_wp2_with (at_builtin; refine wpList_append_own _ rfl _ _ 24 rfl w2.heap.size 38 i0 (.agg #[.int .i64 0, .int .i64 0, .int .i64 0]) 3 24 Tryz.underlying24 hi hz0 hz1 hz2 rfl (by decide) _ _ _ rfl (own3_below hrow (drew_alloc W3 nq _)) ⟨W3.heap.size, 0, none⟩ 1 1 [.int .i64 x1, .int .i64 x2, .int .i64 x3] rfl rfl (src3n _ _ _ _ _ _) (one3 _ _ _) (by unfold maxLen; omega) (by omega) (by simp; omega) ?_)
                  intro v' w4 hown hgrow hnil
                  have HO4 : Hid (OwnE w2 w4 v' (Gm.push L (x1, x2, x3))) := (by
                    rw [HPu.out]
                    exact ownE_snoc (e := (x1, x2, x3)) (OwnE.drewN HO3.out nq) hown hgrow : OwnE _ _ _ _)
                  clear hown hgrow hnil hrow
                  go_wp2
                  go_roundw
                  case rel => exact ⟨i, k + 1, _, by omega, by omega, by go_num, by go_num, HO4.out, HMi.out⟩
                  case measure => simp [intOf] <;> omega
            · obtain ⟨x, hx, _⟩ := HP.out.1 rfl
              exact absurd (len_of hx) (by omega)
end Go.Proofs.YtphjbbbnbmafnaaGreatDoor.G

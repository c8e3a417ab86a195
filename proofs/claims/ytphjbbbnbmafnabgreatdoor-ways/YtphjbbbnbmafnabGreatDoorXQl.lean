/-
  The law's book as it lies: lists that came out, each full of its owner's number: how it is kept where other memory is written, and how an entry is put behind.
  A region that draws its order, reads, and calls what makes new memory alone.
  A region in a round's body: as it is walked outside of a round, where it holds no defer statement.
  A region that draws its order, reads and calls what makes new memory alone, and whose last operation stands behind all others (a store): one walk.
-/
import Derived.Test.YtphjbbbnbmafnabGreatDoorEqE
import Derived.Deep.DeepAppendWide
import Derived.Deep.AppendLies
import Derived.Deep.RegionLaw
import Derived.BigQuiet
import Derived.Sort.QuietThIn
import Derived.RangeFuncCalls
namespace Go.Proofs.YtphjbbbnbmafnabGreatDoor.G
open Go.RowKit

section
variable {P : Program} (w : World)
/-- append onto a row of one's own: written in place, or a new block and nothing else -/
theorem run_append_keep (t ty : TypeId) (base : Nat) (e : TypeId) (i : TypeInfo) (z : Value) (size bytes : Nat) (ht : P.underlying t = some (.slice e)) (hi : P.info? e = some i) (hz : i.zero = some z)
    (hsize : i.size = size) (hby : i.bytes = bytes) (hzs : z.cells.size = size) (hsz : 0 < size)
    (v : Value) (n : Nat) (xs : List Value) (hown : w.ownsRow base e size v n xs)
    (ad : Addr) (m c : Nat) (news : List Value) (hl : news.length = m * size) (hnews : ∀ j u, news[j]? = some u → w.cell? (ad.add j) = some u) (h1 : ∀ u ∈ news, u.oneCell' = true)
    (hm : 0 < m) (h63 : n + m ≤ maxLen) (hbytes : ((n + m) + (n + m) / 4 + 192) * bytes ≤ 281474976710656) (hbase : base ≤ w.heap.size) :
    ∃ g cap w', (Builtin.append_ #[t, t] ty #[v, .slice (some ad) m c]).run P w = .ok (.slice (some ⟨g, 0, none⟩) (n + m) cap) w' ∧
      w'.ownsRow base e size (.slice (some ⟨g, 0, none⟩) (n + m) cap) (n + m) (xs ++ news) ∧ ((v.ownBlock = some g ∧ w.grownBy w' (some g)) ∨ (g = w.heap.size ∧ w.grownBy w' none)) := by
  obtain ⟨v', w', hr, h2, h3, _⟩ := run_append_own_wide (P := P) w base t ty e i z size bytes ht hi hz hsize hby hzs hsz v n xs hown ad m c news hl hnews h1 h63 hbytes hbase
  obtain ⟨g, cap, rfl, _, hlt⟩ := h2.form (by omega)
  refine ⟨g, cap, w', hr, h2, ?_⟩
  subst hsize
  subst hby
  have h63' : n + m ≤ 9223372036854775807 := by simp only [maxLen] at h63; omega
  have hb1 : (n + m) * i.bytes ≤ 281474976710656 := Nat.le_trans (Nat.mul_le_mul_right _ (by omega)) hbytes
  rcases hown.2 with ⟨rfl, rfl⟩ | ⟨g0, cap0, cur, rfl, hbg, hg, hnc, hcm, hcs, htake⟩
  · right
    have hr2 := run_append_nil (P := P) w t ty e i z ht hi hz ad m c news hl hnews hm (by omega) (by rw [Nat.zero_add] at hb1; exact hb1)
    rw [hr2] at hr
    injection hr with e1 e2
    injection e1 with e1
    injection e1 with e1
    injection e1 with e1
    exact ⟨e1.symm, h3⟩
  · by_cases hroom : n + m ≤ cap0
    · left
      have hfit : n * i.size + news.length ≤ cur.size := by rw [hl, hcs, ← Nat.add_mul]; exact Nat.mul_le_mul_right _ hroom
      have hr2 := run_append_room (P := P) w t ty e i ht hi g0 n cap0 cur hg ad m c news hl hnews h1 hroom hfit
      rw [hr2] at hr
      injection hr with e1 e2
      injection e1 with e1
      injection e1 with e1
      injection e1 with e1
      subst e1
      exact ⟨rfl, h3⟩
    · right
      have holds : ∀ j u, xs[j]? = some u → w.cell? ((⟨g0, 0, none⟩ : Addr).add j) = some u := hown.cells (g := g0) rfl
      have hr2 := run_append_grow (P := P) w t ty e i z ht hi hz ⟨g0, 0, none⟩ n cap0 xs hown.1 holds ad m c news hl hnews (by omega) (by omega) (growslice_fits_wide (by omega) hbytes)
      rw [hr2] at hr
      injection hr with e1 e2
      injection e1 with e1
      injection e1 with e1
      injection e1 with e1
      refine ⟨e1.symm, ?_⟩
      rw [← e2]
      exact ⟨rfl, rfl, rfl, by simp, fun k hk _ => Go.heap_alloc_old w.drew _ hk⟩
theorem wp_append_keep {o : Oper} {a : Act} {K : Act → World → Prop} {Q : Exit → Act → World → Prop} (s x : Operand) (t : TypeId)
    (ho : o.op = .call { callee := .builtin .append, args := #[s, x], argTypes := #[t, t] })
    (base : Nat) (e : TypeId) (i : TypeInfo) (z : Value) (size bytes : Nat) (ht : P.underlying t = some (.slice e)) (hi : P.info? e = some i) (hz : i.zero = some z)
    (hsize : i.size = size) (hby : i.bytes = bytes) (hzs : z.cells.size = size) (hsz : 0 < size)
    (v : Value) (n : Nat) (xs : List Value) (hs : a.eval s = v) (hown : w.ownsRow base e size v n xs)
    (ad : Addr) (m c : Nat) (news : List Value) (hx : a.eval x = .slice (some ad) m c) (hl : news.length = m * size) (hnews : ∀ j u, news[j]? = some u → w.cell? (ad.add j) = some u) (h1 : ∀ u ∈ news, u.oneCell' = true)
    (hm : 0 < m) (h63 : n + m ≤ maxLen) (hbytes : ((n + m) + (n + m) / 4 + 192) * bytes ≤ 281474976710656) (hbase : base ≤ w.heap.size)
    (h : ∀ g cap w', w'.ownsRow base e size (.slice (some ⟨g, 0, none⟩) (n + m) cap) (n + m) (xs ++ news) → ((v.ownBlock = some g ∧ w.grownBy w' (some g)) ∨ (g = w.heap.size ∧ w.grownBy w' none)) → K (a.put o.dst (.slice (some ⟨g, 0, none⟩) (n + m) cap)) w') : o.wp P a w K Q := by
  obtain ⟨g, cap, w', hr, h2, h3⟩ := run_append_keep (P := P) w t o.type base e i z size bytes ht hi hz hsize hby hzs hsz v n xs hown ad m c news hl hnews h1 hm h63 hbytes hbase
  unfold Oper.wp execOp
  simp only [ho, resolve, invoke, builtin, Sem.run_bind, Sem.run_pure, Result.andThen_ok, List.map_toArray, List.map_cons, List.map_nil, hs, hx, hr]
  exact h g cap w' h2 h3
theorem wpList_append_keep {ops : Array Oper} {rest : List Oper} {o : Oper} {a : Act} {Q : Exit → Act → World → Prop} (hgd : o.guard = none) (s x : Operand) (t : TypeId)
    (ho : o.op = .call { callee := .builtin .append, args := #[s, x], argTypes := #[t, t] })
    (base : Nat) (e : TypeId) (i : TypeInfo) (z : Value) (size bytes : Nat) (ht : P.underlying t = some (.slice e)) (hi : P.info? e = some i) (hz : i.zero = some z)
    (hsize : i.size = size) (hby : i.bytes = bytes) (hzs : z.cells.size = size) (hsz : 0 < size)
    (v : Value) (n : Nat) (xs : List Value) (hs : a.eval s = v) (hown : w.ownsRow base e size v n xs)
    (ad : Addr) (m c : Nat) (news : List Value) (hx : a.eval x = .slice (some ad) m c) (hl : news.length = m * size) (hnews : ∀ j u, news[j]? = some u → w.cell? (ad.add j) = some u) (h1 : ∀ u ∈ news, u.oneCell' = true)
    (hm : 0 < m) (h63 : n + m ≤ maxLen) (hbytes : ((n + m) + (n + m) / 4 + 192) * bytes ≤ 281474976710656) (hbase : base ≤ w.heap.size)
    (h : ∀ g cap w', w'.ownsRow base e size (.slice (some ⟨g, 0, none⟩) (n + m) cap) (n + m) (xs ++ news) → ((v.ownBlock = some g ∧ w.grownBy w' (some g)) ∨ (g = w.heap.size ∧ w.grownBy w' none)) → wpList P ops Q rest (a.put o.dst (.slice (some ⟨g, 0, none⟩) (n + m) cap)) w') : wpList P ops Q (o :: rest) a w :=
  wpList_plain hgd fun _ hK => wp_append_keep w s x t ho base e i z size bytes ht hi hz hsize hby hzs hsz v n xs hs hown ad m c news hx hl hnews h1 hm h63 hbytes hbase fun g cap w' h2 h3 => hK _ _ (h g cap w' h2 h3)
theorem step_append_keep {ops : Array Oper} {o : Oper} {a : Act} {K : Act → World → Prop} {Q : Exit → Act → World → Prop} {E : Prop} (hgd : o.guard = none) (s x : Operand) (t : TypeId)
    (ho : o.op = .call { callee := .builtin .append, args := #[s, x], argTypes := #[t, t] })
    (base : Nat) (e : TypeId) (i : TypeInfo) (z : Value) (size bytes : Nat) (ht : P.underlying t = some (.slice e)) (hi : P.info? e = some i) (hz : i.zero = some z)
    (hsize : i.size = size) (hby : i.bytes = bytes) (hzs : z.cells.size = size) (hsz : 0 < size)
    (v : Value) (n : Nat) (xs : List Value) (hs : a.eval s = v) (hown : w.ownsRow base e size v n xs)
    (ad : Addr) (m c : Nat) (news : List Value) (hx : a.eval x = .slice (some ad) m c) (hl : news.length = m * size) (hnews : ∀ j u, news[j]? = some u → w.cell? (ad.add j) = some u) (h1 : ∀ u ∈ news, u.oneCell' = true)
    (hm : 0 < m) (h63 : n + m ≤ maxLen) (hbytes : ((n + m) + (n + m) / 4 + 192) * bytes ≤ 281474976710656) (hbase : base ≤ w.heap.size)
    (h : ∀ g cap w', w'.ownsRow base e size (.slice (some ⟨g, 0, none⟩) (n + m) cap) (n + m) (xs ++ news) → ((v.ownBlock = some g ∧ w.grownBy w' (some g)) ∨ (g = w.heap.size ∧ w.grownBy w' none)) → K (a.put o.dst (.slice (some ⟨g, 0, none⟩) (n + m) cap)) w') :
    if Region.wanted o (yielded ops a.tmps) = true then Oper.wp P o a w K Q else E := by
  have hw : Region.wanted o (yielded ops a.tmps) = true := by simp [Region.wanted, hgd]
  rw [if_pos hw]
  exact wp_append_keep w s x t ho base e i z size bytes ht hi hz hsize hby hzs hsz v n xs hs hown ad m c news hx hl hnews h1 hm h63 hbytes hbase h
end
/-- all blocks that were there are as they were, but for some -/
def Same (w w' : World) (S : Nat → Prop) : Prop := w.heap.size ≤ w'.heap.size ∧ ∀ k, k < w.heap.size → ¬ S k → w'.heap[k]? = w.heap[k]?
theorem Same.below {w w' : World} (h : Below w.heap.size w w') : Same w w' (fun _ => False) := ⟨h.size, fun k hk _ => h.block k hk⟩
theorem Same.grown {w w' : World} {row : Option Nat} (h : w.grownBy w' row) : Same w w' (fun k => row = some k) := ⟨h.size, fun k hk hn => h.block k hk fun e => hn e.symm⟩
theorem Same.alloc (w : World) (o : Obj) : Same w (w.alloc o) (fun _ => False) := Same.below (below1 w o)
theorem Same.drew (w : World) : Same w w.drew (fun _ => False) := ⟨Nat.le_refl _, fun _ _ _ => rfl⟩
theorem Same.set (w : World) (p : Addr) (v : Value) : Same w (w.setCell p v) (fun k => k = p.block) := ⟨by simp [World.setCell], fun k _ hn => Below.heap_setCell _ _ _ _ (fun e => hn e)⟩
theorem Same.trans {a b c : World} {S T : Nat → Prop} (h : Same a b S) (k : Same b c T) : Same a c (fun x => S x ∨ T x) :=
  ⟨Nat.le_trans h.1 k.1, fun x hx hn => (k.2 x (Nat.lt_of_lt_of_le hx h.1) fun e => hn (.inr e)).trans (h.2 x hx fun e => hn (.inl e))⟩
theorem Same.mono {a b : World} {S T : Nat → Prop} (h : Same a b S) (hST : ∀ k, k < a.heap.size → S k → T k) : Same a b T := ⟨h.1, fun k hk hn => h.2 k hk fun e => hn (hST k hk e)⟩
theorem Same.cell {w w' : World} {S : Nat → Prop} (h : Same w w' S) {p : Addr} {v : Value} (hc : w.cell? p = some v) (hn : ¬ S p.block) : w'.cell? p = some v :=
  (World.cell?_of_block (h.2 p.block (World.block_lt_of_cell? _ _ hc) hn)).trans hc
theorem own_same {w w' : World} {S : Nat → Prop} {B : Nat} {e : TypeId} {k : Nat} {v : Value} {n : Nat} {xs : List Value} (h : w.ownsRow B e k v n xs) (hs : Same w w' S) (hn : ∀ g, v.ownBlock = some g → ¬ S g) : w'.ownsRow B e k v n xs := by
  refine ⟨h.1, ?_⟩
  rcases h.2 with h0 | ⟨g, cap, cur, hv, hb, hg, r⟩
  · exact .inl h0
  · refine .inr ⟨g, cap, cur, hv, hb, ?_, r⟩
    rw [hs.2 g (Array.getElem?_eq_some_iff.1 hg).1 (hn g (by rw [hv]; rfl))]
    exact hg
/-- a list that is full of one number: k cells an element -/
def LstAt (w : World) (k : Nat) (s : Value) (n : Int) : Prop :=
  ∃ a0 len cap, s = .slice a0 len cap ∧ len ≤ 1000000 ∧ ∀ j, j < len → ∃ g off, a0 = some ⟨g, off, none⟩ ∧ w.cell? ⟨g, off + j * k, none⟩ = some (.int .i64 n) ∧ (k = 3 → w.cell? ⟨g, off + j * k + 1, none⟩ = some (.int .i64 0) ∧ w.cell? ⟨g, off + j * k + 2, none⟩ = some (.int .i64 0))
theorem LstAt.same {w w' : World} {S : Nat → Prop} {k : Nat} {s : Value} {n : Int} (h : LstAt w k s n) (hs : Same w w' S) (hn : ∀ g, s.ownBlock = some g → ¬ S g) : LstAt w' k s n := by
  obtain ⟨a0, len, cap, rfl, hl, hc⟩ := h
  refine ⟨a0, len, cap, rfl, hl, fun j hj => ?_⟩
  obtain ⟨g, off, rfl, h1, h2⟩ := hc j hj
  have hg := hn g rfl
  exact ⟨g, off, rfl, hs.cell h1 hg, fun e => ⟨hs.cell (h2 e).1 hg, hs.cell (h2 e).2 hg⟩⟩
/-- entries as cells -/
def flatB (l : List (Value × Int)) : List Value := l.flatMap fun p => [p.1, .int .i64 p.2]
theorem flatB_len (l : List (Value × Int)) : (flatB l).length = l.length * 2 := by
  induction l with
  | nil => rfl
  | cons e l ih => unfold flatB at *; rw [List.flatMap_cons, List.length_append, ih]; simp; omega
theorem flatB_snoc (l : List (Value × Int)) (p : Value × Int) : flatB (l ++ [p]) = flatB l ++ [p.1, .int .i64 p.2] := by unfold flatB; simp
theorem flatB_at (l : List (Value × Int)) (k : Nat) (p : Value × Int) (h : l[k]? = some p) : (flatB l)[k * 2]? = some p.1 ∧ (flatB l)[k * 2 + 1]? = some (.int .i64 p.2) := by
  induction l generalizing k with
  | nil => simp at h
  | cons e l ih =>
    have e2 : flatB (e :: l) = e.1 :: .int .i64 e.2 :: flatB l := by unfold flatB; rw [List.flatMap_cons]; rfl
    rw [e2]
    cases k with
    | zero => simp at h; subst h; exact ⟨rfl, rfl⟩
    | succ k =>
      have := ih k (by simpa using h)
      rw [Nat.succ_mul]
      exact this
end Go.Proofs.YtphjbbbnbmafnabGreatDoor.G

namespace Go.Proofs.YtphjbbbnbmafnabGreatDoor.G
open Go.RowKit

/-- a world behind W0 that has nothing but new memory besides; W0 itself, where u is none -/
noncomputable def ext (W0 u : World) : World := by
  classical
  exact if Below W0.heap.size W0 u then u else W0
theorem ext_below (W0 u : World) : Below W0.heap.size W0 (ext W0 u) := by
  unfold ext
  split
  · assumption
  · exact Below.refl _ _
theorem ext_of {W0 u : World} (h : Below W0.heap.size W0 u) : u = ext W0 u := by
  unfold ext
  rw [if_pos h]
theorem ext_cell {W0 : World} {p : Addr} {v : Value} (h : W0.cell? p = some v) (u : World) : (ext W0 u).cell? p = some v := cell_kept (ext_below W0 u) _ _ h
/-- a region that draws its order, reads, and calls what makes new memory alone: one walk in the order of the text -/
theorem wp_region_ext {P : Program} {id : Nat} {Q : Exit → Act → World → Prop} {a : Act} {w : World} {l : List Oper} (hm : P.follows .mixedOrders = true) (hB : Region.lexB .any l.toArray = true)
    (h : wpQuiet P l.toArray (fun w' => ∃ u, w' = ext w u) (fun a' => ∀ w', (∃ u, w' = ext w u) → Q .normal a' w') l a) : (Code.region id l.toArray true).wp P Q a w :=
  wp_region_quiet (C := fun w' => ∃ u, w' = ext w u) hm hB ⟨w.drew, ext_of ((Below.refl _ _).drew)⟩ (by simpa using h)
end Go.Proofs.YtphjbbbnbmafnabGreatDoor.G

namespace Go.Proofs.YtphjbbbnbmafnabGreatDoor.G
open Go.RowKit

theorem upon_round {n l : Nat} {P : Program} {o : Oper} {a : Act} {K : Act → World → Prop} {Q : Exit → Act → World → Prop} (r : Result Next) (h : o.uponIn Fence.wide n P a K Q r) : o.uponIn (Fence.wide.inRound l) n P a K Q r := by
  unfold Oper.uponIn at h ⊢
  split at h <;> first | exact h | exact h.elim
theorem op_round {n l i : Nat} {P : Program} {ops : Array Oper} {Q : Exit → Act → World → Prop} {K : Act → World → Prop} {a : Act} {w : World} (hd : ∀ o ∈ ops.toList, ∀ c, o.op ≠ .defer c) (h : wpOpIn Fence.wide n P ops Q i K a w) : wpOpIn (Fence.wide.inRound l) n P ops Q i K a w := by
  unfold wpOpIn at h ⊢
  cases hi : ops[i]? with
  | none => rw [hi] at h; exact h
  | some o =>
    rw [hi] at h
    simp only at h ⊢
    split at h
    · rename_i hw
      rw [if_pos hw]
      refine ⟨fun _ _ => trivial, ?_⟩
      have h2 := h.2
      have hno := hd o (by rw [Array.mem_toList_iff]; exact Array.mem_of_getElem? hi)
      rw [show (Fence.wide.inRound l).round = some l from rfl, Oper.semAt_some l _ o hno]
      exact upon_round _ (by simpa [Oper.semAt] using h2)
    · rename_i hw
      rw [if_neg hw]
      exact ⟨fun _ _ => trivial, h.2⟩
theorem any_round {n l : Nat} {P : Program} {md : Region.Mode} {ops : Array Oper} {Q : Exit → Act → World → Prop} (hd : ∀ o ∈ ops.toList, ∀ c, o.op ≠ .defer c) : ∀ (fuel : Nat) (listed : Array Bool) (a : Act) (w : World), wpAnyIn Fence.wide n P md ops Q fuel listed a w → wpAnyIn (Fence.wide.inRound l) n P md ops Q fuel listed a w
  | 0, _, _, _, h => h
  | fuel + 1, _, _, _, h => ⟨h.1, fun i hi => op_round hd (wpOpIn_mono (fun a w => any_round hd fuel _ a w) (h.2 i hi))⟩
/-- a region in a round's body, as outside of one -/
theorem region_round {n l id : Nat} {P : Program} {ops : Array Oper} {Q : Exit → Act → World → Prop} {a : Act} {w : World} (hm : P.follows .mixedOrders = true) (hd : ∀ o ∈ ops.toList, ∀ c, o.op ≠ .defer c)
    (h : wpAnyIn Fence.wide n P .any ops Q ops.size (Array.replicate ops.size false) a { w with drawn := w.drawn + 1 }) : (Code.region id ops true).wpIn (Fence.wide.inRound l) n P Q a w :=
  wpIn_region_any hm (any_round hd _ _ _ _ h)
end Go.Proofs.YtphjbbbnbmafnabGreatDoor.G

namespace Go.Proofs.YtphjbbbnbmafnabGreatDoor.G
open Go.RowKit

section
variable {F : Fence} {n : Nat} {P : Program} {md : Region.Mode} {l : Array Oper} {st : Oper} {Q : Exit → Act → World → Prop} {C : World → Prop}
theorem op_push {i : Nat} {K : Act → World → Prop} {a : Act} {w : World} (hi : i < l.size) (hg : ∀ o ∈ l.toList, o.guard = none) (h : wpOpIn F n P l Q i K a w) : wpOpIn F n P (l.push st) Q i K a w := by
  unfold wpOpIn at h ⊢
  rw [Array.getElem?_push, if_neg (by omega)]
  rw [Array.getElem?_eq_getElem hi] at h ⊢
  have hn : l[i].guard = none := hg _ (by simp)
  simp only [Region.wanted, hn] at h ⊢
  exact h
theorem listed_all {listed : Array Bool} (h : listed.toList.count false = 0) (j : Nat) : listed.getD j true = true := by
  rw [List.count_eq_zero] at h
  rw [Array.getD_eq_getD_getElem?]
  cases e : listed[j]? with
  | none => rfl
  | some b =>
    cases b with
    | true => rfl
    | false => exact absurd (by rw [Array.mem_toList_iff]; exact Array.mem_of_getElem? e) h
theorem listed_some {listed : Array Bool} (h : listed.toList.count false ≠ 0) : ∃ j, listed.getD j true = false ∧ ∀ k, k < j → listed.getD k false = true := by
  have hm : false ∈ listed.toList := by
    rcases Nat.eq_zero_or_pos (listed.toList.count false) with e | e
    · exact absurd e h
    · exact List.count_pos_iff.1 e
  obtain ⟨j, hj, hv⟩ := List.mem_iff_getElem.1 hm
  have hex : ∃ j, listed.getD j true = false := ⟨j, by
    have hj' : j < listed.size := by simpa using hj
    simp only [Array.getElem_toList] at hv
    simp [Array.getD, hj', hv]⟩
  have least : ∀ j, listed.getD j true = false → ∃ m, listed.getD m true = false ∧ ∀ k, k < m → listed.getD k true ≠ false := by
    intro j
    induction j using Nat.strongRecOn with
    | _ j ih =>
      intro hj
      by_cases hk : ∃ k, k < j ∧ listed.getD k true = false
      · obtain ⟨k, h1, h2⟩ := hk; exact ih k h1 h2
      · exact ⟨j, hj, fun k h1 h2 => hk ⟨k, h1, h2⟩⟩
  obtain ⟨j, hj⟩ := hex
  obtain ⟨m, h2, h1⟩ := least j hj
  refine ⟨m, h2, fun k hk => ?_⟩
  have h1 := h1 k hk
  have hlt : m < listed.size := by
    rcases Nat.lt_or_ge m listed.size with e | e
    · exact e
    · simp [Array.getD, Nat.not_lt.2 e] at h2
  have hk2 : k < listed.size := by omega
  simp [Array.getD, hk2] at h1 ⊢
  exact h1
theorem count_less {listed : Array Bool} {i : Nat} (h : listed.getD i true = false) : (listed.setIfInBounds i true).toList.count false + 1 = listed.toList.count false := by
  have hlt : i < listed.size := by
    rcases Nat.lt_or_ge i listed.size with e | e
    · exact e
    · simp [Array.getD, Nat.not_lt.2 e] at h
  have hv : listed.toList[i]'(by simpa using hlt) = false := by simpa [Array.getD, hlt] using h
  have hp : 0 < listed.toList.count false := List.count_pos_iff.2 (by rw [← hv]; exact List.getElem_mem _)
  rw [Array.toList_setIfInBounds, List.count_set (by simpa using hlt), hv]
  show listed.toList.count false - 1 + 0 + 1 = _
  omega
theorem getD_push {listed : Array Bool} {j : Nat} (h : j < listed.size) (b d : Bool) : (listed.push b).getD j d = listed.getD j d := by
  rw [Array.getD_eq_getD_getElem?, Array.getD_eq_getD_getElem?, Array.getElem?_push, if_neg (by omega)]
theorem getD_lt {listed : Array Bool} {j : Nat} (h : listed.getD j true = false) : j < listed.size := by
  rcases Nat.lt_or_ge j listed.size with e | e
  · exact e
  · simp [Array.getD, Nat.not_lt.2 e] at h
theorem getD_false {listed : Array Bool} {j : Nat} (h : listed.getD j true = false) : listed.getD j false = false := by
  have := getD_lt h
  simpa [Array.getD, this] using h
theorem ready_push (hse : ∀ j, j < l.size → ∃ e ∈ st.after, Region.binds md e = true ∧ e.on = j) {listed : Array Bool} (hs : listed.size = l.size) (hb : ∀ (j : Nat) (o : Oper), l[j]? = some o → ∀ e ∈ o.after, e.on < j) (hc : listed.toList.count false ≠ 0) {i : Nat} : i ∈ Region.ready md (l.push st) (listed.push false) ↔ i ∈ Region.ready md l listed := by
  rw [mem_ready, mem_ready]
  constructor
  · rintro ⟨h1, o, ho, hall⟩
    have hi := getD_lt h1
    rw [Array.size_push] at hi
    by_cases he : i = l.size
    · subst he
      rw [Array.getElem?_push, if_pos rfl] at ho
      cases ho
      obtain ⟨j, hj, _⟩ := listed_some hc
      have hjl := getD_lt hj
      obtain ⟨e, he, hbd, rfl⟩ := hse j (by omega)
      have := hall e he hbd
      rw [getD_push hjl, getD_false hj] at this
      cases this
    · have hil : i < listed.size := by omega
      rw [getD_push hil] at h1
      rw [Array.getElem?_push, if_neg he] at ho
      exact ⟨h1, o, ho, fun e he2 hbd => by have h3 := hall e he2 hbd; rwa [getD_push (by have := hb i o ho e he2; omega)] at h3⟩
  · rintro ⟨h1, o, ho, hall⟩
    have hil := getD_lt h1
    refine ⟨by rw [getD_push hil]; exact h1, o, by rw [Array.getElem?_push, if_neg (by omega)]; exact ho, fun e he2 hbd => ?_⟩
    rw [getD_push (by have := hb i o ho e he2; omega)]
    exact hall e he2 hbd
theorem ready_none {ops : Array Oper} {listed : Array Bool} (h : ∀ j, listed.getD j true = true) : Region.ready md ops listed = [] := by
  rw [List.eq_nil_iff_forall_not_mem]
  intro i hi
  have := (mem_ready.1 hi).1
  rw [h i] at this
  cases this
theorem ready_last (hsb : ∀ e ∈ st.after, e.on < l.size) {listed : Array Bool} (hs : listed.size = l.size) (hc : listed.toList.count false = 0) {i : Nat} : i ∈ Region.ready md (l.push st) (listed.push false) ↔ i = l.size := by
  rw [mem_ready]
  constructor
  · rintro ⟨h1, _⟩
    have hi := getD_lt h1
    rw [Array.size_push] at hi
    by_cases he : i < listed.size
    · rw [getD_push he, listed_all hc] at h1; cases h1
    · omega
  · rintro rfl
    refine ⟨by rw [← hs]; simp [Array.getD], st, by rw [Array.getElem?_push, if_pos rfl], fun e he _ => ?_⟩
    have h2 := hsb e he
    rw [getD_push (by omega)]
    have h3 := listed_all hc e.on
    have h4 : e.on < listed.size := by omega
    simpa [Array.getD, h4] using h3
theorem any_last (hg : ∀ o ∈ l.toList, o.guard = none) (hsg : st.guard = none) (hb : ∀ (j : Nat) (o : Oper), l[j]? = some o → ∀ e ∈ o.after, e.on < j) (hse : ∀ j, j < l.size → ∃ e ∈ st.after, Region.binds md e = true ∧ e.on = j) (hsb : ∀ e ∈ st.after, e.on < l.size)
    {Q1 : Act → Prop} (hro : F.round = none) (hQ : ∀ a w, C w → Q1 a → st.wpIn F n P a w (fun a w => Q .normal a w) Q) :
    ∀ (fuel : Nat) (listed : Array Bool) (a : Act) (w : World), C w → listed.size = l.size → listed.toList.count false ≤ fuel → wpAnyQIn F n P md l C Q1 fuel listed a → wpAnyIn F n P md (l.push st) Q (fuel + 1) (listed.push false) a w := by
  have fin : ∀ (fuel : Nat) (listed : Array Bool) (a : Act) (w : World), C w → listed.size = l.size → listed.toList.count false = 0 → Q1 a → wpAnyIn F n P md (l.push st) Q (fuel + 1) (listed.push false) a w := by
    intro fuel listed a w hw hs hc hq
    refine ⟨fun h => ?_, fun i hi => ?_⟩
    · have : l.size ∈ Region.ready md (l.push st) (listed.push false) := (ready_last hsb hs hc).2 rfl
      rw [h] at this; cases this
    · have := (ready_last hsb hs hc).1 hi
      subst this
      unfold wpOpIn
      rw [Array.getElem?_push, if_pos rfl]
      simp only [Region.wanted, hsg, if_true]
      refine Oper.wpIn_mono (fun a' w' hq' => ?_) (hQ a w hw hq)
      have hnone : Region.ready md (l.push st) ((listed.push false).setIfInBounds l.size true) = [] := ready_none fun j => by
        by_cases hj : j = l.size
        · subst hj; rw [← hs]; simp [Array.getD]
        · rw [getD_set_ne true (fun e => hj e.symm)]
          by_cases hj2 : j < listed.size
          · rw [getD_push hj2]; exact listed_all hc j
          · simp [Array.getD, show ¬ j < listed.size + 1 by omega]
      cases fuel with
      | zero => exact ⟨hnone, hq'⟩
      | succ fuel => exact ⟨fun _ => hq', fun i hi => by rw [hnone] at hi; cases hi⟩
  intro fuel
  induction fuel with
  | zero => intro listed a w hw hs hc h; exact fin 0 listed a w hw hs (by omega) h.2
  | succ fuel ih =>
    intro listed a w hw hs hc h
    by_cases hz : listed.toList.count false = 0
    · exact fin _ listed a w hw hs hz (h.1 (ready_none (listed_all hz)))
    · refine ⟨fun h0 => ?_, fun i hi => ?_⟩
      · obtain ⟨j, hj, hm⟩ := listed_some hz
        have hjl := getD_lt hj
        have : j ∈ Region.ready md l listed := mem_ready.2 ⟨hj, l[j], Array.getElem?_eq_getElem (by omega), fun e he _ => hm _ (hb j _ (Array.getElem?_eq_getElem (by omega)) e he)⟩
        rw [← ready_push hse hs hb hz, h0] at this
        cases this
      · have hi' := (ready_push hse hs hb hz).1 hi
        have h1 := (mem_ready.1 hi').1
        have hil := getD_lt h1
        refine op_push (by omega) hg (wpOpIn_of_qOpIn hro hw (fun a' w' hw' hk => ?_) (h.2 i hi'))
        have hcl := count_less h1
        have := ih (listed.setIfInBounds i true) a' w' hw' (by simpa using hs) (by omega) hk
        rw [show (listed.push false).setIfInBounds i true = (listed.setIfInBounds i true).push false from ?_]
        · exact this
        · apply Array.ext_getElem?
          intro j
          simp only [Array.getElem?_setIfInBounds, Array.getElem?_push, Array.size_push, Array.size_setIfInBounds]
          split <;> split <;> simp_all <;> omega
/-- what is asked of such a region's text -/
def lastOk (md : Region.Mode) (L : List Oper) (st : Oper) : Bool :=
  (L.all fun o => o.guard.isNone && (match o.op with | .defer _ => false | _ => true)) && st.guard.isNone && (match st.op with | .defer _ => false | _ => true) && (L.zipIdx.all fun p => p.1.after.all fun e => decide (e.on < p.2)) && ((List.range L.length).all fun j => st.after.any fun e => Region.binds md e && (e.on == j)) && (st.after.all fun e => decide (e.on < L.length))
theorem region_last {a : Act} {w : World} {L : List Oper} (hro : F.round = none) (hB : Region.lexB .any L.toArray = true) (hok : lastOk .any L st = true) (hC : C { w with drawn := w.drawn + 1 })
    (h : wpQuietIn F n P L.toArray C (fun a' => ∀ w', C w' → st.wpIn F n P a' w' (fun a w => Q .normal a w) Q) L a) : wpAnyIn F n P .any (L.toArray.push st) Q (L.toArray.push st).size (Array.replicate (L.toArray.push st).size false) a { w with drawn := w.drawn + 1 } := by
  simp only [lastOk, Bool.and_eq_true, List.all_eq_true, Array.all_eq_true, Array.any_eq_true, Option.isNone_iff_eq_none, decide_eq_true_eq, List.mem_range, beq_iff_eq] at hok
  simp only [Region.lexB, Bool.and_eq_true] at hB
  obtain ⟨⟨⟨⟨⟨h1, h2⟩, h2d⟩, h3⟩, h4⟩, h5⟩ := hok
  have hq := wpAnyQIn_lex (F := F) (n := n) (C := C) (md := .any) hB.1 L 0 (Array.replicate L.toArray.size false) a (by simp) (by simpa using hB.2) h
  have := any_last (F := F) (n := n) (P := P) (md := .any) (l := L.toArray) (st := st) (Q := Q) (C := C) (fun o ho => (h1 o (by simpa using ho)).1) h2 ?_ ?_ ?_ hro (fun a w hw h => h w hw) L.length (Array.replicate L.toArray.size false) a _ hC (by simp) (by simp) hq
  · simpa [Array.replicate_succ] using this
  · intro j o ho e he
    have hj := h3 (o, j) (by rw [List.mem_zipIdx_iff_getElem?]; simpa using ho)
    obtain ⟨k, hk, rfl⟩ := Array.getElem_of_mem he
    exact hj k hk
  · intro j hj
    obtain ⟨k, hk, h6, h7⟩ := h4 j (by simpa using hj)
    exact ⟨_, Array.getElem_mem hk, h6, h7⟩
  · intro e he
    obtain ⟨k, hk, rfl⟩ := Array.getElem_of_mem he
    simpa using h5 k hk
end
/-- such a region in a round's body: one walk over all but the store, and the store in each world behind it -/
theorem region_round_last {n lp id : Nat} {P : Program} {l : List Oper} {st : Oper} {Q : Exit → Act → World → Prop} {a : Act} {w : World} (hst : l.getLast? = some st) (hm : P.follows .mixedOrders = true) (hB : Region.lexB .any l.dropLast.toArray = true) (hok : lastOk .any l.dropLast st = true)
    (h : wpQuietIn Fence.wide n P l.dropLast.toArray (fun w' => ∃ u, w' = ext w u) (fun a' => ∀ w', (∃ u, w' = ext w u) → st.wpIn Fence.wide n P a' w' (fun a w => Q .normal a w) Q) l.dropLast a) : (Code.region id l.toArray true).wpIn (Fence.wide.inRound lp) n P Q a w := by
  have hl : l.toArray = l.dropLast.toArray.push st := by
    have : l = l.dropLast ++ [st] := by
      obtain ⟨ys, rfl⟩ := List.getLast?_eq_some_iff.1 hst
      simp
    conv => lhs; rw [this]
    simp
  have hk := hok
  simp only [lastOk, Bool.and_eq_true, List.all_eq_true] at hk
  rw [hl]
  refine region_round hm (fun o ho c hc => ?_) (region_last (C := fun w' => ∃ u, w' = ext w u) rfl hB hok ⟨w.drew, ext_of ((Below.refl _ _).drew)⟩ h)
  rw [Array.toList_push, List.mem_append] at ho
  rcases ho with ho | ho
  · have := (hk.1.1.1.1.1 o (by simpa using ho)).2
    rw [hc] at this; cases this
  · rw [List.mem_singleton] at ho
    subst ho
    have := hk.1.1.1.2
    rw [hc] at this; cases this
end Go.Proofs.YtphjbbbnbmafnabGreatDoor.G

/- Parts: XRd XQl XQg XQt XQs. -/
import Derived.Test.YtphjbbbnbmafnaaGreatDoorExt
import Derived.Sort.QuietThIn
import Derived.RangeFuncCalls
import Derived.Deep.RegionHeld3
namespace Go.Proofs.YtphjbbbnbmafnaaGreatDoor.G
open Go.RowKit
variable {l n:Nat} {P:Program} {a:Act} {K:Act->World->Prop} {Q:Exit->Act->World->Prop} {ops:Array Oper} {w:World}
theorem LK{o:Oper}(r:Result Next)(h:o.uponIn Fence.wide n P a K Q r):o.uponIn (Fence.wide.inRound l) n P a K Q r:=by
 unfold Oper.uponIn at h ⊢;split at h <;> first | exact h | exact h.elim
theorem VV{i:Nat}(hd:∀ o∈ops.toList,∀ c,o.op≠.defer c)(h:wpOpIn Fence.wide n P ops Q i K a w):wpOpIn (Fence.wide.inRound l) n P ops Q i K a w:=by
 unfold wpOpIn at h ⊢;cases hi:ops[i]? with
 | none=>rw[hi]at h;exact h
 | some o =>
  rw[hi]at h;simp only at h ⊢;split at h
  ·rename_i hw;rw[if_pos hw];refine⟨fun _ _=>trivial,?_⟩;have h2:=h.2;have hno:=hd o (by rw[Array.mem_toList_iff];exact Array.mem_of_getElem? hi);rw[show(Fence.wide.inRound l).round=some l from rfl,Oper.semAt_some l _ o hno];exact LK _ (by simpa[Oper.semAt]using h2)
  ·rename_i hw;rw[if_neg hw];exact⟨fun _ _=>trivial,h.2⟩
theorem zY{md:Region.Mode}(hd:∀ o∈ops.toList,∀ c,o.op≠.defer c):∀(fuel:Nat) (listed:Array Bool) (a:Act) (w:World),wpAnyIn Fence.wide n P md ops Q fuel listed a w->wpAnyIn (Fence.wide.inRound l) n P md ops Q fuel listed a w
 | 0,_,_,_,h=>h
 | fuel+1,_,_,_,h=>⟨h.1,fun i hi=>VV hd (wpOpIn_mono (fun a w=>zY hd fuel _ a w) (h.2 i hi))⟩
theorem BK{id:Nat}(hm:P.follows .mixedOrders=true)(hd:∀ o∈ops.toList,∀ c,o.op≠.defer c)
 (h:wpAnyIn Fence.wide n P .any ops Q ops.size (Array.replicate ops.size false) a { w with drawn:=w.drawn+1 }):(Code.region id ops true).wpIn (Fence.wide.inRound l) n P Q a w :=
 wpIn_region_any hm (zY hd _ _ _ _ h)
end Go.Proofs.YtphjbbbnbmafnaaGreatDoor.G
namespace Go.Proofs.YtphjbbbnbmafnaaGreatDoor.G
open Go.RowKit
section
variable {F:Fence} {n:Nat} {P:Program} {md:Region.Mode} {l:Array Oper} {st:Oper} {Q:Exit->Act->World->Prop} {C:World->Prop}
theorem YC{i:Nat}{K:Act->World->Prop}{a:Act}{w:World}(hi:i<l.size)(hg:∀ o∈l.toList,o.guard=none)(h:wpOpIn F n P l Q i K a w):wpOpIn F n P (l.push st) Q i K a w:=by
 unfold wpOpIn at h ⊢;rw[aF3,if_neg (by omega)];rw[aE2 hi]at h ⊢;have hn:l[i].guard=none:=hg _ (by simp);simp only[Region.wanted,hn]at h ⊢;exact h
theorem dK{listed:Array Bool}(h:listed.toList.count false=0)(j:Nat):listed.getD j true=true:=by
 rw[List.count_eq_zero]at h;rw[aK9];cases e:listed[j]? with
 | none=>rfl
 | some b =>
  cases b with
  | true=>rfl
  | false=>exact absurd (by rw[Array.mem_toList_iff];exact Array.mem_of_getElem? e) h
theorem gN{listed:Array Bool}(h:listed.toList.count false≠0):∃ j,listed.getD j true=false/\∀ k,k<j->listed.getD k false=true:=by
 have hm:false∈listed.toList:=by
  rcases Nat.eq_zero_or_pos (listed.toList.count false)with e | e
  ·exact absurd e h
  ·exact List.count_pos_iff.1 e
 obtain⟨j,hj,hv⟩:=List.mem_iff_getElem.1 hm;have hex:∃ j,listed.getD j true=false:=⟨j,by
  have hj':j<listed.size:=by simpa using hj
  simp only[Array.getElem_toList]at hv;simp[Array.getD,hj',hv]⟩
 have aG:∀ j,listed.getD j true=false->∃ m,listed.getD m true=false/\∀ k,k<m->listed.getD k true≠false:=by
  intro j
  induction j using Nat.strongRecOn with
  | _ j ih =>
   intro hj;by_cases hk:∃ k,k<j/\listed.getD k true=false
   ·obtain⟨k,h1,h2⟩:=hk;exact ih k h1 h2
   ·exact⟨j,hj,fun k h1 h2=>hk ⟨k,h1,h2⟩⟩
 obtain⟨j,hj⟩:=hex;obtain⟨m,h2,h1⟩:=aG j hj;refine⟨m,h2,fun k hk => ?_⟩;have h1:=h1 k hk;have a9:m<listed.size:=by
  rcases aG5 m listed.size with e | e
  ·exact e
  ·simp[Array.getD,Nat.not_lt.2 e]at h2
 have hk2:k<listed.size:=by omega
 simp[Array.getD,hk2]at h1 ⊢;exact h1
theorem nC{listed:Array Bool}{i:Nat}(h:listed.getD i true=false):(listed.setIfInBounds i true).toList.count false+1=listed.toList.count false:=by
 have a9:i<listed.size:=by
  rcases aG5 i listed.size with e | e
  ·exact e
  ·simp[Array.getD,Nat.not_lt.2 e]at h
 have hv:listed.toList[i]'(by simpa using a9)=false:=by simpa[Array.getD,a9]using h
 have hp:0<listed.toList.count false:=List.count_pos_iff.2 (by rw[<-hv];exact List.getElem_mem _);rw[Array.toList_setIfInBounds,List.count_set (by simpa using a9),hv];show listed.toList.count false-1+0+1=_;omega
theorem bJ{listed:Array Bool}{j:Nat}(h:j<listed.size)(b d:Bool):(listed.push b).getD j d=listed.getD j d:=by
 rw[aK9,aK9,aF3,if_neg (by omega)]
theorem getD_lt{listed:Array Bool}{j:Nat}(h:listed.getD j true=false):j<listed.size:=by
 rcases aG5 j listed.size with e | e
 ·exact e
 ·simp[Array.getD,Nat.not_lt.2 e]at h
theorem wR{listed:Array Bool}{j:Nat}(h:listed.getD j true=false):listed.getD j false=false:=by
 have:=getD_lt h;simpa[Array.getD,this]using h
theorem mJ(hse:∀ j,j<l.size->∃ e∈st.after,Region.binds md e=true/\e.on=j){listed:Array Bool}(hs:listed.size=l.size)(hb:∀(j:Nat) (o:Oper),l[j]?=some o->∀ e∈o.after,e.on<j)(hc:listed.toList.count false≠0){i:Nat}:i∈Region.ready md (l.push st) (listed.push false)↔i∈Region.ready md l listed:=by
 rw[mem_ready,mem_ready];constructor
 ·rintro⟨h1,o,ho,a1⟩;have hi:=getD_lt h1;rw[Array.size_push]at hi;by_cases he:i=l.size
  ·subst he;rw[aF3,if_pos rfl]at ho;cases ho;obtain⟨j,hj,_⟩:=gN hc;have a7:=getD_lt hj;obtain⟨e,he,a5,rfl⟩:=hse j (by omega);have:=a1 e he a5;rw[bJ a7,wR hj]at this;cases this
  ·have a4:i<listed.size:=by omega
   rw[bJ a4]at h1;rw[aF3,if_neg he]at ho;exact⟨h1,o,ho,fun e he2 a5=>by have h3:=a1 e he2 a5;rwa [bJ (by have:=hb i o ho e he2;omega)]at h3⟩
 ·rintro⟨h1,o,ho,a1⟩;have a4:=getD_lt h1;refine⟨by rw[bJ a4];exact h1,o,by rw[aF3,if_neg (by omega)];exact ho,fun e he2 a5 => ?_⟩;rw[bJ (by have:=hb i o ho e he2;omega)];exact a1 e he2 a5
theorem fF{ops:Array Oper}{listed:Array Bool}(h:∀ j,listed.getD j true=true):Region.ready md ops listed=[]:=by
 rw[List.eq_nil_iff_forall_not_mem];intro i hi;have:=(mem_ready.1 hi).1;rw[h i]at this;cases this
theorem fC(hsb:∀ e∈st.after,e.on<l.size){listed:Array Bool}(hs:listed.size=l.size)(hc:listed.toList.count false=0){i:Nat}:i∈Region.ready md (l.push st) (listed.push false)↔i=l.size:=by
 rw[mem_ready];constructor
 ·rintro⟨h1,_⟩;have hi:=getD_lt h1;rw[Array.size_push]at hi;by_cases he:i<listed.size
  ·rw[bJ he,dK hc]at h1;cases h1
  ·omega
 ·rintro rfl;refine⟨by rw[<-hs];simp[Array.getD],st,by rw[aF3,if_pos rfl],fun e he _ => ?_⟩;have h2:=hsb e he;rw[bJ (by omega)];have h3:=dK hc e.on;have h4:e.on<listed.size:=by omega
  simpa[Array.getD,h4]using h3
theorem SC(hg:∀ o∈l.toList,o.guard=none)(hsg:st.guard=none)(hb:∀(j:Nat) (o:Oper),l[j]?=some o->∀ e∈o.after,e.on<j)(hse:∀ j,j<l.size->∃ e∈st.after,Region.binds md e=true/\e.on=j)(hsb:∀ e∈st.after,e.on<l.size)
 {Q1:Act->Prop} (hro:F.round=none) (hQ:∀ a w,C w->Q1 a->st.wpIn F n P a w (fun a w=>Q .normal a w) Q) :
 ∀(fuel:Nat) (listed:Array Bool) (a:Act) (w:World),C w->listed.size=l.size->listed.toList.count false<=fuel->wpAnyQIn F n P md l C Q1 fuel listed a->wpAnyIn F n P md (l.push st) Q (fuel+1) (listed.push false) a w:=by
 have fin:∀(fuel:Nat) (listed:Array Bool) (a:Act) (w:World),C w->listed.size=l.size->listed.toList.count false=0->Q1 a->wpAnyIn F n P md (l.push st) Q (fuel+1) (listed.push false) a w:=by
  intro fuel listed a w hw hs hc hq;refine⟨fun h => ?_,fun i hi => ?_⟩
  ·have:l.size∈Region.ready md (l.push st) (listed.push false):=(fC hsb hs hc).2 rfl;rw[h]at this;cases this
  ·have:=(fC hsb hs hc).1 hi;subst this;unfold wpOpIn;rw[aF3,if_pos rfl];simp only[Region.wanted,hsg,if_true];refine Oper.wpIn_mono (fun a' w' hq' => ?_) (hQ a w hw hq);have a0:Region.ready md (l.push st) ((listed.push false).setIfInBounds l.size true)=[]:=fF fun j=>by
    by_cases hj:j=l.size
    ·subst hj;rw[<-hs];simp[Array.getD]
    ·rw[getD_set_ne true (fun e=>hj e.symm)];by_cases hj2:j<listed.size
     ·rw[bJ hj2];exact dK hc j
     ·simp[Array.getD,show ¬ j<listed.size+1 by omega]
   cases fuel with
   | zero=>exact⟨a0,hq'⟩
   | succ fuel=>exact⟨fun _=>hq',fun i hi=>by rw[a0]at hi;cases hi⟩
 intro fuel
 induction fuel with
 | zero=>intro listed a w hw hs hc h;exact fin 0 listed a w hw hs (by omega) h.2
 | succ fuel ih =>
  intro listed a w hw hs hc h;by_cases hz:listed.toList.count false=0
  ·exact fin _ listed a w hw hs hz (h.1 (fF (dK hz)))
  ·refine⟨fun h0 => ?_,fun i hi => ?_⟩
   ·obtain⟨j,hj,hm⟩:=gN hz;have a7:=getD_lt hj;have:j∈Region.ready md l listed:=mem_ready.2 ⟨hj,l[j],aE2 (by omega),fun e he _=>hm _ (hb j _ (aE2 (by omega)) e he)⟩;rw[<-mJ hse hs hb hz,h0]at this;cases this
   ·have a3:=(mJ hse hs hb hz).1 hi;have h1:=(mem_ready.1 a3).1;have a4:=getD_lt h1;refine YC (by omega) hg (wpOpIn_of_qOpIn hro hw (fun a' w' hw' hk => ?_) (h.2 i a3));have a2:=nC h1;have:=ih (listed.setIfInBounds i true) a' w' hw' (by simpa using hs) (by omega) hk;rw[show(listed.push false).setIfInBounds i true=(listed.setIfInBounds i true).push false from ?_]
    ·exact this
    ·apply Array.ext_getElem?;intro j;simp only[aH1,aF3,Array.size_push,Array.size_setIfInBounds];split <;> split <;> simp_all <;> omega
def DD(md:Region.Mode)(L:List Oper)(st:Oper):Bool :=
 (L.all fun o=>o.guard.isNone&&(match o.op with | .defer _=>false | _=>true))&&st.guard.isNone&&(match st.op with | .defer _=>false | _=>true)&&(L.zipIdx.all fun p=>p.1.after.all fun e=>decide (e.on<p.2))&&((List.range L.length).all fun j=>st.after.any fun e=>Region.binds md e&&(e.on == j))&&(st.after.all fun e=>decide (e.on<L.length))
theorem uN{a:Act}{w:World}{L:List Oper}(hro:F.round=none)(hB:Region.lexB .any L.toArray=true)(hok:DD .any L st=true)(hC:C { w with drawn:=w.drawn+1 })
 (h:wpQuietIn F n P L.toArray C (fun a'=>∀ w',C w'->st.wpIn F n P a' w' (fun a w=>Q .normal a w) Q) L a):wpAnyIn F n P .any (L.toArray.push st) Q (L.toArray.push st).size (Array.replicate (L.toArray.push st).size false) a { w with drawn:=w.drawn+1 }:=by
 simp only[DD,aD6,List.all_eq_true,Array.all_eq_true,Array.any_eq_true,Option.isNone_iff_eq_none,decide_eq_true_eq,List.mem_range,beq_iff_eq]at hok;simp only[Region.lexB,aD6]at hB;obtain⟨⟨⟨⟨⟨h1,h2⟩,h2d⟩,h3⟩,h4⟩,h5⟩:=hok;have hq:=wpAnyQIn_lex (F:=F) (n:=n) (C:=C) (md:=.any) hB.1 L 0 (Array.replicate L.toArray.size false) a (by simp) (by simpa using hB.2) h;have:=SC (F:=F) (n:=n) (P:=P) (md:=.any) (l:=L.toArray) (st:=st) (Q:=Q) (C:=C) (fun o ho=>(h1 o (by simpa using ho)).1) h2 ?_ ?_ ?_ hro (fun a w hw h=>h w hw) L.length (Array.replicate L.toArray.size false) a _ hC (by simp) (by simp) hq
 ·simpa[aI8]using this
 ·intro j o ho e he;have hj:=h3 (o,j) (by rw[aL6];simpa using ho);obtain⟨k,hk,rfl⟩:=Array.getElem_of_mem he;exact hj k hk
 ·intro j hj;obtain⟨k,hk,h6,h7⟩:=h4 j (by simpa using hj);exact⟨_,Array.getElem_mem hk,h6,h7⟩
 ·intro e he;obtain⟨k,hk,rfl⟩:=Array.getElem_of_mem he;simpa using h5 k hk
end
theorem pY{n lp id:Nat}{P:Program}{l:List Oper}{st:Oper}{Q:Exit->Act->World->Prop}{a:Act}{w:World}(hst:l.getLast?=some st)(hm:P.follows .mixedOrders=true)(hB:Region.lexB .any l.dropLast.toArray=true)(hok:DD .any l.dropLast st=true)
 (h:wpQuietIn Fence.wide n P l.dropLast.toArray (fun w'=>∃ u,w'=ext w u) (fun a'=>∀ w',(∃ u,w'=ext w u)->st.wpIn Fence.wide n P a' w' (fun a w=>Q .normal a w) Q) l.dropLast a):(Code.region id l.toArray true).wpIn (Fence.wide.inRound lp) n P Q a w:=by
 have hl:l.toArray=l.dropLast.toArray.push st:=by
  have:l=l.dropLast++[st]:=by
   obtain⟨ys,rfl⟩:=List.getLast?_eq_some_iff.1 hst;simp
  conv=>lhs;rw[this]
  simp
 have hk:=hok;simp only[DD,aD6,List.all_eq_true]at hk;rw[hl];refine BK hm (fun o ho c hc => ?_) (uN (C:=fun w'=>∃ u,w'=ext w u) rfl hB hok ⟨w.drew,aN ((YQ _ _).drew)⟩ h);rw[Array.toList_push,aC9]at ho;rcases ho with ho | ho
 ·have:=(hk.1.1.1.1.1 o (by simpa using ho)).2;rw[hc]at this;cases this
 ·rw[aF8]at ho;subst ho;have:=hk.1.1.1.2;rw[hc]at this;cases this
end Go.Proofs.YtphjbbbnbmafnaaGreatDoor.G
namespace Go.Proofs.YtphjbbbnbmafnaaGreatDoor.G
open Go.RowKit
section
variable {F:Fence} {n:Nat} {P:Program} {md:Region.Mode} {l:Array Oper} {st:Oper} {Q:Exit->Act->World->Prop} {C:World->Prop}
theorem D8(tmps:Array Value){j:Nat}(hj:j<l.size):yielded (l.push st) tmps j=yielded l tmps j:=by
 unfold yielded;rw[aF3,if_neg (by omega)]
theorem uE(tmps:Array Value){o:Oper}(hg:∀ j b,o.guard=some (j,b)->j<l.size):Region.wanted o (yielded (l.push st) tmps)=Region.wanted o (yielded l tmps):=by
 unfold Region.wanted;cases e:o.guard with
 | none=>rfl
 | some p =>
  obtain⟨j,b⟩:=p;simp only;rw[D8 tmps (hg j b e)]
theorem IC{i:Nat}{K:Act->World->Prop}{a:Act}{w:World}(hi:i<l.size)(hg:∀ o∈l.toList,∀ j b,o.guard=some (j,b)->j<l.size)(h:wpOpIn F n P l Q i K a w):wpOpIn F n P (l.push st) Q i K a w:=by
 unfold wpOpIn at h ⊢;rw[aF3,if_neg (by omega)];rw[aE2 hi]at h ⊢;simp only at h ⊢;rw[uE a.tmps (hg _ (by simp))];exact h
theorem P5(hg:∀ o∈l.toList,∀ j b,o.guard=some (j,b)->j<l.size)(hsg:st.guard=none)(hb:∀(j:Nat) (o:Oper),l[j]?=some o->∀ e∈o.after,e.on<j)(hse:∀ j,j<l.size->∃ e∈st.after,Region.binds md e=true/\e.on=j)(hsb:∀ e∈st.after,e.on<l.size)
 {Q1:Act->Prop} (hro:F.round=none) (hQ:∀ a w,C w->Q1 a->st.wpIn F n P a w (fun a w=>Q .normal a w) Q) :
 ∀(fuel:Nat) (listed:Array Bool) (a:Act) (w:World),C w->listed.size=l.size->listed.toList.count false<=fuel->wpAnyQIn F n P md l C Q1 fuel listed a->wpAnyIn F n P md (l.push st) Q (fuel+1) (listed.push false) a w:=by
 have fin:∀(fuel:Nat) (listed:Array Bool) (a:Act) (w:World),C w->listed.size=l.size->listed.toList.count false=0->Q1 a->wpAnyIn F n P md (l.push st) Q (fuel+1) (listed.push false) a w:=by
  intro fuel listed a w hw hs hc hq;refine⟨fun h => ?_,fun i hi => ?_⟩
  ·have:l.size∈Region.ready md (l.push st) (listed.push false):=(fC hsb hs hc).2 rfl;rw[h]at this;cases this
  ·have:=(fC hsb hs hc).1 hi;subst this;unfold wpOpIn;rw[aF3,if_pos rfl];simp only[Region.wanted,hsg,if_true];refine Oper.wpIn_mono (fun a' w' hq' => ?_) (hQ a w hw hq);have a0:Region.ready md (l.push st) ((listed.push false).setIfInBounds l.size true)=[]:=fF fun j=>by
    by_cases hj:j=l.size
    ·subst hj;rw[<-hs];simp[Array.getD]
    ·rw[getD_set_ne true (fun e=>hj e.symm)];by_cases hj2:j<listed.size
     ·rw[bJ hj2];exact dK hc j
     ·simp[Array.getD,show ¬ j<listed.size+1 by omega]
   cases fuel with
   | zero=>exact⟨a0,hq'⟩
   | succ fuel=>exact⟨fun _=>hq',fun i hi=>by rw[a0]at hi;cases hi⟩
 intro fuel
 induction fuel with
 | zero=>intro listed a w hw hs hc h;exact fin 0 listed a w hw hs (by omega) h.2
 | succ fuel ih =>
  intro listed a w hw hs hc h;by_cases hz:listed.toList.count false=0
  ·exact fin _ listed a w hw hs hz (h.1 (fF (dK hz)))
  ·refine⟨fun h0 => ?_,fun i hi => ?_⟩
   ·obtain⟨j,hj,hm⟩:=gN hz;have a7:=getD_lt hj;have:j∈Region.ready md l listed:=mem_ready.2 ⟨hj,l[j],aE2 (by omega),fun e he _=>hm _ (hb j _ (aE2 (by omega)) e he)⟩;rw[<-mJ hse hs hb hz,h0]at this;cases this
   ·have a3:=(mJ hse hs hb hz).1 hi;have h1:=(mem_ready.1 a3).1;have a4:=getD_lt h1;refine IC (by omega) hg (wpOpIn_of_qOpIn hro hw (fun a' w' hw' hk => ?_) (h.2 i a3));have a2:=nC h1;have:=ih (listed.setIfInBounds i true) a' w' hw' (by simpa using hs) (by omega) hk;rw[show(listed.push false).setIfInBounds i true=(listed.setIfInBounds i true).push false from ?_]
    ·exact this
    ·apply Array.ext_getElem?;intro j;simp only[aH1,aF3,Array.size_push,Array.size_setIfInBounds];split <;> split <;> simp_all <;> omega
def FP(md:Region.Mode)(L:List Oper)(st:Oper):Bool :=
 (L.all fun o=>(match o.guard with | none=>true | some (j,_)=>decide (j<L.length)))&&st.guard.isNone&&(L.zipIdx.all fun p=>p.1.after.all fun e=>decide (e.on<p.2))&&((List.range L.length).all fun j=>st.after.any fun e=>Region.binds md e&&(e.on == j))&&(st.after.all fun e=>decide (e.on<L.length))
theorem CX{a:Act}{w:World}{L:List Oper}(hro:F.round=none)(hB:Region.lexB .any L.toArray=true)(hok:FP .any L st=true)(hC:C { w with drawn:=w.drawn+1 })
 (h:wpQuietIn F n P L.toArray C (fun a'=>∀ w',C w'->st.wpIn F n P a' w' (fun a w=>Q .normal a w) Q) L a):wpAnyIn F n P .any (L.toArray.push st) Q (L.toArray.push st).size (Array.replicate (L.toArray.push st).size false) a { w with drawn:=w.drawn+1 }:=by
 simp only[FP,aD6,List.all_eq_true,Array.all_eq_true,Array.any_eq_true,Option.isNone_iff_eq_none,decide_eq_true_eq,List.mem_range,beq_iff_eq]at hok;simp only[Region.lexB,aD6]at hB;obtain⟨⟨⟨⟨h1,h2⟩,h3⟩,h4⟩,h5⟩:=hok;have hq:=wpAnyQIn_lex (F:=F) (n:=n) (C:=C) (md:=.any) hB.1 L 0 (Array.replicate L.toArray.size false) a (by simp) (by simpa using hB.2) h;have:=P5 (F:=F) (n:=n) (P:=P) (md:=.any) (l:=L.toArray) (st:=st) (Q:=Q) (C:=C) (fun o ho j b hj=>by have:=h1 o (by simpa using ho);rw[hj]at this;simpa using this) h2 ?_ ?_ ?_ hro (fun a w hw h=>h w hw) L.length (Array.replicate L.toArray.size false) a _ hC (by simp) (by simp) hq
 ·simpa[aI8]using this
 ·intro j o ho e he;have hj:=h3 (o,j) (by rw[aL6];simpa using ho);obtain⟨k,hk,rfl⟩:=Array.getElem_of_mem he;exact hj k hk
 ·intro j hj;obtain⟨k,hk,h6,h7⟩:=h4 j (by simpa using hj);exact⟨_,Array.getElem_mem hk,h6,h7⟩
 ·intro e he;obtain⟨k,hk,rfl⟩:=Array.getElem_of_mem he;simpa using h5 k hk
end
theorem jN{n id:Nat}{P:Program}{l:List Oper}{st:Oper}{Q:Exit->Act->World->Prop}{a:Act}{w:World}(hst:l.getLast?=some st)(hm:P.follows .mixedOrders=true)(hB:Region.lexB .any l.dropLast.toArray=true)(hok:FP .any l.dropLast st=true)
 (h:wpQuietIn Fence.wide n P l.dropLast.toArray (fun w'=>∃ u,w'=ext w u) (fun a'=>∀ w',(∃ u,w'=ext w u)->st.wpIn Fence.wide n P a' w' (fun a w=>Q .normal a w) Q) l.dropLast a):(Code.region id l.toArray true).wp P Q a w:=by
 have hl:l.toArray=l.dropLast.toArray.push st:=by
  have:l=l.dropLast++[st]:=by
   obtain⟨ys,rfl⟩:=List.getLast?_eq_some_iff.1 hst;simp
  conv=>lhs;rw[this]
  simp
 rw[hl];exact wpIn_wide.1 (wpIn_region_any hm (CX (C:=fun w'=>∃ u,w'=ext w u) rfl hB hok ⟨w.drew,aN ((YQ _ _).drew)⟩ h))
end Go.Proofs.YtphjbbbnbmafnaaGreatDoor.G
namespace Go.Proofs.YtphjbbbnbmafnaaGreatDoor.G
open Go.RowKit
section
variable {F:Fence} {n:Nat} {P:Program} {md:Region.Mode} {l:Array Oper} {st:Oper} {Q:Exit->Act->World->Prop} {C:World->Prop}
def Cl(md:Region.Mode)(l:Array Oper)(listed:Array Bool):Prop:=∀(j:Nat) (o:Oper),l[j]?=some o->listed.getD j false=true->∀ e∈o.after,Region.binds md e=true->listed.getD e.on false=true
def Up(md:Region.Mode)(l:Array Oper)(st:Oper):Prop:=∀ j,j<l.size->(∃ e∈st.after,Region.binds md e=true/\e.on=j)\/∃ k o,j<k/\l[k]?=some o/\∃ e∈o.after,Region.binds md e=true/\e.on=j
theorem aBh(hu:Up md l st){listed:Array Bool}(hc:Cl md l listed)(h:∀ e∈st.after,Region.binds md e=true->e.on<l.size->listed.getD e.on false=true):∀ m j,j<l.size->l.size-j<=m->listed.getD j false=true:=by
 intro m
 induction m with
 | zero=>intro j hj hm;omega
 | succ m ih =>
  intro j hj hm;rcases hu j hj with ⟨e,he,hb,rfl⟩ | ⟨k,o,hk,ho,e,he,hb,rfl⟩
  ·exact h e he hb hj
  ·have hkl:=(aC2.1 ho).1;exact hc k o ho (ih k hkl (by omega)) e he hb
theorem J3(m:Nat):Cl md l (Array.replicate m false):=fun j o _ h=>by
 rw[aK9,Array.getElem?_replicate]at h;split at h <;> cases h
theorem zG{listed:Array Bool}{i:Nat}(h:i<listed.size)(d:Bool):(listed.setIfInBounds i true).getD i d=true:=by
 rw[aK9,aH1,if_pos rfl,if_pos h];rfl
theorem nP{listed:Array Bool}{i j:Nat}(h:i≠j)(d:Bool):(listed.setIfInBounds i true).getD j d=listed.getD j d:=by
 rw[aK9,aK9,aH1,if_neg h]
theorem Cl.set{listed:Array Bool}(hc:Cl md l listed){i:Nat}(hi:i<listed.size)(a1:∀ o,l[i]?=some o->∀ e∈o.after,Region.binds md e=true->listed.getD e.on false=true):Cl md l (listed.setIfInBounds i true):=fun j o ho hj e he hb=>by
 have key:listed.getD e.on false=true:=by
  by_cases e2:i=j
  ·subst e2;exact a1 o ho e he hb
  ·rw[nP e2]at hj;exact hc j o ho hj e he hb
 by_cases e3:i=e.on
 ·rw[<-e3];exact zG hi false
 ·rw[nP e3];exact key
theorem lF(hu:Up md l st){listed:Array Bool}(hs:listed.size=l.size)(hb:∀(j:Nat) (o:Oper),l[j]?=some o->∀ e∈o.after,e.on<j)(a2:Cl md l listed)(hc:listed.toList.count false≠0){i:Nat}:i∈Region.ready md (l.push st) (listed.push false)↔i∈Region.ready md l listed:=by
 rw[mem_ready,mem_ready];constructor
 ·rintro⟨h1,o,ho,a1⟩;have hi:=getD_lt h1;rw[Array.size_push]at hi;by_cases he:i=l.size
  ·subst he;rw[aF3,if_pos rfl]at ho;cases ho;obtain⟨j,hj,_⟩:=gN hc;have a7:=getD_lt hj;have a6:=aBh hu a2 (fun e he2 a5 a9=>by have h3:=a1 e he2 a5;rwa [bJ (by omega)]at h3) l.size j (by omega) (by omega);rw[wR hj]at a6;cases a6
  ·have a4:i<listed.size:=by omega
   rw[bJ a4]at h1;rw[aF3,if_neg he]at ho;exact⟨h1,o,ho,fun e he2 a5=>by have h3:=a1 e he2 a5;rwa [bJ (by have:=hb i o ho e he2;omega)]at h3⟩
 ·rintro⟨h1,o,ho,a1⟩;have a4:=getD_lt h1;refine⟨by rw[bJ a4];exact h1,o,by rw[aF3,if_neg (by omega)];exact ho,fun e he2 a5 => ?_⟩;rw[bJ (by have:=hb i o ho e he2;omega)];exact a1 e he2 a5
theorem PH(hg:∀ o∈l.toList,∀ j b,o.guard=some (j,b)->j<l.size)(hsg:st.guard=none)(hb:∀(j:Nat) (o:Oper),l[j]?=some o->∀ e∈o.after,e.on<j)(hu:Up md l st)(hsb:∀ e∈st.after,e.on<l.size)
 {Q1:Act->Prop} (hro:F.round=none) (hQ:∀ a w,C w->Q1 a->st.wpIn F n P a w (fun a w=>Q .normal a w) Q) :
 ∀(fuel:Nat) (listed:Array Bool) (a:Act) (w:World),C w->listed.size=l.size->Cl md l listed->listed.toList.count false<=fuel->wpAnyQIn F n P md l C Q1 fuel listed a->wpAnyIn F n P md (l.push st) Q (fuel+1) (listed.push false) a w:=by
 have fin:∀(fuel:Nat) (listed:Array Bool) (a:Act) (w:World),C w->listed.size=l.size->listed.toList.count false=0->Q1 a->wpAnyIn F n P md (l.push st) Q (fuel+1) (listed.push false) a w:=by
  intro fuel listed a w hw hs hc hq;refine⟨fun h => ?_,fun i hi => ?_⟩
  ·have:l.size∈Region.ready md (l.push st) (listed.push false):=(fC hsb hs hc).2 rfl;rw[h]at this;cases this
  ·have:=(fC hsb hs hc).1 hi;subst this;unfold wpOpIn;rw[aF3,if_pos rfl];simp only[Region.wanted,hsg,if_true];refine Oper.wpIn_mono (fun a' w' hq' => ?_) (hQ a w hw hq);have a0:Region.ready md (l.push st) ((listed.push false).setIfInBounds l.size true)=[]:=fF fun j=>by
    by_cases hj:j=l.size
    ·subst hj;rw[<-hs];simp[Array.getD]
    ·rw[getD_set_ne true (fun e=>hj e.symm)];by_cases hj2:j<listed.size
     ·rw[bJ hj2];exact dK hc j
     ·simp[Array.getD,show ¬ j<listed.size+1 by omega]
   cases fuel with
   | zero=>exact⟨a0,hq'⟩
   | succ fuel=>exact⟨fun _=>hq',fun i hi=>by rw[a0]at hi;cases hi⟩
 intro fuel
 induction fuel with
 | zero=>intro listed a w hw hs a2 hc h;exact fin 0 listed a w hw hs (by omega) h.2
 | succ fuel ih =>
  intro listed a w hw hs a2 hc h;by_cases hz:listed.toList.count false=0
  ·exact fin _ listed a w hw hs hz (h.1 (fF (dK hz)))
  ·refine⟨fun h0 => ?_,fun i hi => ?_⟩
   ·obtain⟨j,hj,hm⟩:=gN hz;have a7:=getD_lt hj;have:j∈Region.ready md l listed:=mem_ready.2 ⟨hj,l[j],aE2 (by omega),fun e he _=>hm _ (hb j _ (aE2 (by omega)) e he)⟩;rw[<-lF hu hs hb a2 hz,h0]at this;cases this
   ·have a3:=(lF hu hs hb a2 hz).1 hi;have h1:=(mem_ready.1 a3).1;have a4:=getD_lt h1;refine IC (by omega) hg (wpOpIn_of_qOpIn hro hw (fun a' w' hw' hk => ?_) (h.2 i a3));have a8:=nC h1;have:=ih (listed.setIfInBounds i true) a' w' hw' (by simpa using hs) (a2.set a4 fun o ho=>by obtain⟨o2,aE,h5⟩:=(mem_ready.1 a3).2;rw[ho]at aE;cases aE;exact h5) (by omega) hk;rw[show(listed.push false).setIfInBounds i true=(listed.setIfInBounds i true).push false from ?_]
    ·exact this
    ·apply Array.ext_getElem?;intro j;simp only[aH1,aF3,Array.size_push,Array.size_setIfInBounds];split <;> split <;> simp_all <;> omega
def qK(md:Region.Mode)(L:List Oper)(st:Oper):Bool :=
 (L.all fun o=>(match o.guard with | none=>true | some (j,_)=>decide (j<L.length)))&&st.guard.isNone&&(L.zipIdx.all fun p=>p.1.after.all fun e=>decide (e.on<p.2))&&((List.range L.length).all fun j=>(st.after.any fun e=>Region.binds md e&&(e.on == j))||(L.zipIdx.any fun p=>decide (j<p.2)&&(p.1.after.any fun e=>Region.binds md e&&(e.on == j))))&&(st.after.all fun e=>decide (e.on<L.length))
theorem CR{a:Act}{w:World}{L:List Oper}(hro:F.round=none)(hB:Region.lexB .any L.toArray=true)(hok:qK .any L st=true)(hC:C { w with drawn:=w.drawn+1 })
 (h:wpQuietIn F n P L.toArray C (fun a'=>∀ w',C w'->st.wpIn F n P a' w' (fun a w=>Q .normal a w) Q) L a):wpAnyIn F n P .any (L.toArray.push st) Q (L.toArray.push st).size (Array.replicate (L.toArray.push st).size false) a { w with drawn:=w.drawn+1 }:=by
 simp only[qK,aD6,aF1,List.all_eq_true,List.any_eq_true,Array.all_eq_true,Array.any_eq_true,Option.isNone_iff_eq_none,decide_eq_true_eq,List.mem_range,beq_iff_eq]at hok;simp only[Region.lexB,aD6]at hB;obtain⟨⟨⟨⟨h1,h2⟩,h3⟩,h4⟩,h5⟩:=hok;have hq:=wpAnyQIn_lex (F:=F) (n:=n) (C:=C) (md:=.any) hB.1 L 0 (Array.replicate L.toArray.size false) a (by simp) (by simpa using hB.2) h;have:=PH (F:=F) (n:=n) (P:=P) (md:=.any) (l:=L.toArray) (st:=st) (Q:=Q) (C:=C) (fun o ho j b hj=>by have:=h1 o (by simpa using ho);rw[hj]at this;simpa using this) h2 ?_ ?_ ?_ hro (fun a w hw h=>h w hw) L.length (Array.replicate L.toArray.size false) a _ hC (by simp) (J3 _) (by simp) hq
 ·simpa[aI8]using this
 ·intro j o ho e he;have hj:=h3 (o,j) (by rw[aL6];simpa using ho);obtain⟨k,hk,rfl⟩:=Array.getElem_of_mem he;exact hj k hk
 ·intro j hj;rcases h4 j (by simpa using hj)with ⟨k,hk,h6,h7⟩ | ⟨p,hp,h6,k,hk,h7,h8⟩
  ·exact .inl ⟨_,Array.getElem_mem hk,h6,h7⟩
  ·rw[aL6]at hp;exact .inr ⟨p.2,p.1,h6,by simpa using hp,_,Array.getElem_mem hk,h7,h8⟩
 ·intro e he;obtain⟨k,hk,rfl⟩:=Array.getElem_of_mem he;simpa using h5 k hk
end
theorem bC{n id:Nat}{P:Program}{l:List Oper}{st:Oper}{Q:Exit->Act->World->Prop}{a:Act}{w:World}(hst:l.getLast?=some st)(hm:P.follows .mixedOrders=true)(hB:Region.lexB .any l.dropLast.toArray=true)(hok:qK .any l.dropLast st=true)
 (h:wpQuietIn Fence.wide n P l.dropLast.toArray (fun w'=>∃ u,w'=ext w u) (fun a'=>∀ w',(∃ u,w'=ext w u)->st.wpIn Fence.wide n P a' w' (fun a w=>Q .normal a w) Q) l.dropLast a):(Code.region id l.toArray true).wp P Q a w:=by
 have hl:l.toArray=l.dropLast.toArray.push st:=by
  have:l=l.dropLast++[st]:=by
   obtain⟨ys,rfl⟩:=List.getLast?_eq_some_iff.1 hst;simp
  conv=>lhs;rw[this]
  simp
 rw[hl];exact wpIn_wide.1 (wpIn_region_any hm (CR (C:=fun w'=>∃ u,w'=ext w u) rfl hB hok ⟨w.drew,aN ((YQ _ _).drew)⟩ h))
end Go.Proofs.YtphjbbbnbmafnaaGreatDoor.G
namespace Go.Proofs.YtphjbbbnbmafnaaGreatDoor.G
open Go.RowKit
section
variable {P:Program} {md:Region.Mode} {S:World->Prop}
def PL:Op->Bool
 | .move _=>true
 | .assign _=>true
 | .pick _ _ _=>true
 | .load _ _=>true
 | .nilCheck _=>true
 | .binOp _ _ _ _ _=>true
 | .unOp _ _ _=>true
 | .fieldAddr _ _ _=>true
 | .indexAddr _ _ _=>true
 | .index _ _ _=>true
 | .field _ _ _=>true
 | .build _ _=>true
 | _=>false
def AV(P:Program)(s:Sem Next):Prop:=∀ w n w',s.run P w = .ok n w'->∃ u,n = .value u
theorem gM(v:Value):AV P (pure (.value v)):=fun w n w' h=>by
 rw[Sem.run_pure]at h;cases h;exact⟨_,rfl⟩
theorem kU{α:Type}{s:Sem α}{f:α->Sem Next}(h:∀ x,AV P (f x)):AV P (s >>= f):=fun w n w' hr=>by
 rw[Sem.run_bind]at hr;cases hs:s.run P w with
 | ok x w1 =>
  rw[hs,aJ8]at hr;exact h x _ _ _ hr
 | halt x w1 =>
  rw[hs]at hr;simp[Result.andThen]at hr
theorem jO:AV P (runtimePanic .nilDeref:Sem Next):=fun w n w' hr=>by
 simp[go_sem]at hr
theorem O0{ρ:Operand->Value}{o:Oper}(hv:PL o.op=true):AV P (execOp ρ o):=by
 unfold execOp;cases ho:o.op <;> rw[ho]at hv <;> first | exact absurd hv Bool.false_ne_true | skip;all_goals simp only
 case nilCheck x =>
  split
  ·exact jO
  ·exact jO
  ·exact jO
  ·split
   ·exact jO
   ·refine kU fun _=>kU fun _ => ?_;split
    ·exact kU fun _=>gM _
    ·exact gM _
   ·exact gM _
  ·exact gM _
 all_goals first | exact gM _ | exact kU fun _=>gM _
theorem aAd{ρ:Operand->Value}{o:Oper}{w:World}{v:Value}(hv:PL o.op=true)(hq:Oper.quietUpon P S w v ((execOp ρ o).run P w)):(execOp ρ o).run P w = .ok (.value v) w:=by
 cases hr:(execOp ρ o).run P w with
 | halt x w1=>rw[hr]at hq;exact absurd hq (by simp[Oper.quietUpon])
 | ok n w1 =>
  obtain⟨u,rfl⟩:=O0 hv w n w1 hr;rw[hr]at hq;rw[hq.1,hq.2]
def Z9(P:Program)(ops:Array Oper)(S:World->Prop)(Q:Exit->Act->World->Prop)(T:Act->World->Prop):List Oper->Act->World->Prop
 | [],a,w=>T a w
 | o::r,a,w=>∀ K:Act->World->Prop,Shut (∀ a w,S w->(S w->Z9 P ops S Q T r a w)->K a w)->if Region.wanted o (yielded ops a.tmps)=true then Oper.wp P o a w K Q else K (a.put o.dst undef) w
theorem yX{ops:Array Oper}{Q:Exit->Act->World->Prop}{T:Act->World->Prop}{a:Act}{w:World}(h:T a w):Z9 P ops S Q T [] a w:=h
def uH(md:Region.Mode)(ops:Array Oper):List Nat->Array Bool->Bool
 | [],listed=>(Region.ready md ops listed).isEmpty
 | i::r,listed=>(Region.ready md ops listed == [i])&&uH md ops r (listed.setIfInBounds i true)
def vQ(md:Region.Mode)(ops:Array Oper)(ms:List Nat):List Nat->Array Bool->Bool
 | [],listed=>uH md ops ms listed
 | i::r,listed=>Region.free md ops listed i&&(Region.ready md ops listed).contains i&&vQ md ops ms r (listed.setIfInBounds i true)
theorem pO{ops:Array Oper}{Q:Exit->Act->World->Prop}:∀(ms:List Nat) (L:List Oper) (listed:Array Bool) (a:Act) (w:World),ms.map (fun i=>ops[i]?)=L.map some->uH md ops ms listed=true->Z9 P ops S Q (fun a w=>Q .normal a w) L a w->wpAnyH P md ops Q S ms.length listed a w
 | [],L,listed,a,w,hL,hs,h=>by
  cases L with
  | cons o L=>cases hL
  | nil=>exact wpAnyH_done (by simpa[uH]using hs) h _
 | i::r,L,listed,a,w,hL,hs,h=>by
  cases L with
  | nil=>cases hL
  | cons o L =>
   simp only[aJ4,aK0]at hL;simp only[uH,aD6,beq_iff_eq]at hs;refine wpAnyH_ready hs.1 (by simp) (AllReadyH.cons hL.1 (fun K hK=>h K ?_) AllReadyH.nil);intro a w hS hW;exact hK.out a w hS fun hS=>pO r L _ a w hL.2 hs.2 (hW hS)
theorem kS{ops:Array Oper}{Q:Exit->Act->World->Prop}(hsel:Region.noSelect ops=true)(hQ:∀ c a a' w,Q (.panic c) a w->Q (.panic c) a' w){ms:List Nat}{M:List Oper}(hM:ms.map (fun i=>ops[i]?)=M.map some){w:World}(hS:S w):
 ∀(qs:List Nat) (L:List Oper) (listed:Array Bool) (a:Act),qs.map (fun i=>ops[i]?)=L.map some->(∀ o∈L,PL o.op=true)->vQ md ops ms qs listed=true->wpQuiet P ops S (fun a=>Z9 P ops S Q (fun a w=>Q .normal a w) M a w) L a->wpAnyH P md ops Q S (ms.length+qs.length) listed a w
 | [],L,listed,a,hL,hv,ht,h=>by
  cases L with
  | cons o L=>cases hL
  | nil=>exact pO ms M listed a w hM ht h
 | i::r,L,listed,a,hL,hv,ht,h=>by
  cases L with
  | nil=>cases hL
  | cons o L =>
   simp only[aJ4,aK0]at hL;simp only[vQ,aD6]at ht;have hvo:=hv o (by simp);unfold wpQuiet at h;by_cases hw:Region.wanted o (yielded ops a.tmps)=true
   ·rw[if_pos hw]at h;obtain⟨v,hv1,h1⟩:=h;exact wpAnyH_take hL.1 hsel ht.1.1 ht.1.2 (fun c a w=>hQ c _ _ w) (.inl ⟨hw,fun w' hw'=>aAd hvo (hv1 w' hw')⟩) hS (kS hsel hQ hM hS r L _ _ hL.2 (fun o ho=>hv o (by simp[ho])) ht.2 h1)
   ·rw[if_neg hw]at h;exact wpAnyH_take hL.1 hsel ht.1.1 ht.1.2 (fun c a w=>hQ c _ _ w) (.inr ⟨by simpa using hw,rfl⟩) hS (kS hsel hQ hM hS r L _ _ hL.2 (fun o ho=>hv o (by simp[ho])) ht.2 h)
variable {l:Array Oper} {st:Oper} {Q Q':Exit->Act->World->Prop}
theorem FJ{o:Oper}{a:Act}{w:World}{K:Act->World->Prop}(hp:∀ c a w,Q' (.panic c) a w->Q (.panic c) a w)(ho:LetsOut Q'->LetsOut Q)(hh:o.wp P a w K Q'):o.wp P a w K Q:=by
 unfold Oper.wp at *;generalize (execOp a.eval o).run P w=r at *;cases r with
 | ok n w' =>
  cases n <;> simp only[Oper.upon]at hh ⊢ <;> first | exact hh | exact aC0 hh (fun e w'' he=>by cases e <;> first | exact he | exact hp _ _ _ he | exact ho he)
 | halt x w'=>cases x <;> simp only[Oper.upon]at hh ⊢ <;> first | exact hh | exact hp _ _ _ hh
theorem NA{i:Nat}{K:Act->World->Prop}{a:Act}{w:World}(hp:∀ c a w,Q' (.panic c) a w->Q (.panic c) a w)(ho:LetsOut Q'->LetsOut Q)(hi:i<l.size)(hg:∀ o∈l.toList,∀ j b,o.guard=some (j,b)->j<l.size)(h:wpOp P l Q' i K a w):wpOp P (l.push st) Q i K a w:=by
 unfold wpOp at h ⊢;rw[aF3,if_neg (by omega)];rw[aE2 hi]at h ⊢;simp only at h ⊢;rw[uE a.tmps (hg _ (by simp))];split
 ·rename_i hw;rw[if_pos hw]at h;exact h.imp (FJ hp ho) (fun h=>⟨h.1,ho h.2⟩)
 ·rename_i hw;rw[if_neg hw]at h;exact h
theorem TT(hg:∀ o∈l.toList,∀ j b,o.guard=some (j,b)->j<l.size)(hsg:st.guard=none)(hb:∀(j:Nat) (o:Oper),l[j]?=some o->∀ e∈o.after,e.on<j)(hu:Up md l st)(hsb:∀ e∈st.after,e.on<l.size)
 (hp:∀ c a w,Q' (.panic c) a w->Q (.panic c) a w) (ho:LetsOut Q'->LetsOut Q) (hQ:∀ a w,Q' .normal a w->st.wp P a w (fun a w=>Q .normal a w) Q) :
 ∀(fuel:Nat) (listed:Array Bool) (a:Act) (w:World),listed.size=l.size->Cl md l listed->listed.toList.count false<=fuel->wpAny P md l Q' fuel listed a w->wpAny P md (l.push st) Q (fuel+1) (listed.push false) a w:=by
 have fin:∀(fuel:Nat) (listed:Array Bool) (a:Act) (w:World),listed.size=l.size->listed.toList.count false=0->Q' .normal a w->wpAny P md (l.push st) Q (fuel+1) (listed.push false) a w:=by
  intro fuel listed a w hs hc hq;refine⟨fun h => ?_,fun i hi => ?_⟩
  ·have:l.size∈Region.ready md (l.push st) (listed.push false):=(fC hsb hs hc).2 rfl;rw[h]at this;cases this
  ·have:=(fC hsb hs hc).1 hi;subst this;unfold wpOp;rw[aF3,if_pos rfl];simp only[Region.wanted,hsg,if_true];refine .inl (Oper.wp_mono (fun a' w' hq' => ?_) (hQ a w hq));have a0:Region.ready md (l.push st) ((listed.push false).setIfInBounds l.size true)=[]:=fF fun j=>by
    by_cases hj:j=l.size
    ·subst hj;rw[<-hs];simp[Array.getD]
    ·rw[getD_set_ne true (fun e=>hj e.symm)];by_cases hj2:j<listed.size
     ·rw[bJ hj2];exact dK hc j
     ·simp[Array.getD,show ¬ j<listed.size+1 by omega]
   cases fuel with
   | zero=>exact⟨a0,hq'⟩
   | succ fuel=>exact⟨fun _=>hq',fun i hi=>by rw[a0]at hi;cases hi⟩
 intro fuel
 induction fuel with
 | zero=>intro listed a w hs a2 hc h;exact fin 0 listed a w hs (by omega) h.2
 | succ fuel ih =>
  intro listed a w hs a2 hc h;by_cases hz:listed.toList.count false=0
  ·exact fin _ listed a w hs hz (h.1 (fF (dK hz)))
  ·refine⟨fun h0 => ?_,fun i hi => ?_⟩
   ·obtain⟨j,hj,hm⟩:=gN hz;have a7:=getD_lt hj;have:j∈Region.ready md l listed:=mem_ready.2 ⟨hj,l[j],aE2 (by omega),fun e he _=>hm _ (hb j _ (aE2 (by omega)) e he)⟩;rw[<-lF hu hs hb a2 hz,h0]at this;cases this
   ·have a3:=(lF hu hs hb a2 hz).1 hi;have h1:=(mem_ready.1 a3).1;have a4:=getD_lt h1;refine NA hp ho (by omega) hg (wpOp_mono (fun a' w' hk => ?_) (h.2 i a3));have a8:=nC h1;have:=ih (listed.setIfInBounds i true) a' w' (by simpa using hs) (a2.set a4 fun o ho=>by obtain⟨o2,aE,h5⟩:=(mem_ready.1 a3).2;rw[ho]at aE;cases aE;exact h5) (by omega) hk;rw[show(listed.push false).setIfInBounds i true=(listed.setIfInBounds i true).push false from ?_]
    ·exact this
    ·apply Array.ext_getElem?;intro j;simp only[aH1,aF3,Array.size_push,Array.size_setIfInBounds];split <;> split <;> simp_all <;> omega
def mP(P:Program)(st:Oper)(Q:Exit->Act->World->Prop):Exit->Act->World->Prop
 | .normal,a,w=>st.wp P a w (fun a w=>Q .normal a w) Q
 | .panic _,_,_=>False
 | e,a,w=>Q e a w
theorem UT{L:List Oper}{k:Nat}(h:k<=L.length):(List.range k).map (fun i=>L[i]?)=(L.take k).map some:=by
 apply aG6;intro j;by_cases hj:j<k
 ·rw[aD0,aI7 hj,aD0,List.getElem?_take,if_pos hj,A7 (show j<L.length by omega)];simp only[aH9];rw[A7 (show j<L.length by omega)]
 ·rw[aC7 (by simp;omega),aC7 (by simp;omega)]
theorem VC{L:List Oper}{k:Nat}:(List.range' k (L.length-k)).map (fun i=>L[i]?)=(L.drop k).map some:=by
 apply aG6;intro j;by_cases hj:j<L.length-k
 ·rw[aD0,List.getElem?_range' hj,aD0,List.getElem?_drop,A7 (show k+j<L.length by omega),Nat.one_mul];simp only[aH9];rw[A7 (show k+j<L.length by omega)]
 ·rw[aC7 (by simp;omega),aC7 (by simp;omega)]
theorem LX{id:Nat}{l:List Oper}{a:Act}{w:World}(S:World->Prop)(k:Nat)(hk:k<=l.dropLast.length)(hst:l.getLast?=some st)(hm:P.follows .mixedOrders=true)(hok:qK .any l.dropLast st=true)(hsel:Region.noSelect l.dropLast.toArray=true)
 (ht:((l.dropLast.take k).all fun o=>PL o.op)=true/\vQ .any l.dropLast.toArray (List.range' k (l.dropLast.length-k)) (List.range k) (Array.replicate l.dropLast.toArray.size false)=true) (hS:S w.drew)
 (h:wpQuiet P l.dropLast.toArray S (fun a=>Z9 P l.dropLast.toArray S (mP P st Q) (fun a w=>st.wp P a w (fun a w=>Q .normal a w) Q) (l.dropLast.drop k) a w.drew) (l.dropLast.take k) a):(Code.region id l.toArray true).wp P Q a w:=by
 have hl:l.toArray=l.dropLast.toArray.push st:=by
  have:l=l.dropLast++[st]:=by
   obtain⟨ys,rfl⟩:=List.getLast?_eq_some_iff.1 hst;simp
  conv=>lhs;rw[this]
  simp
 rw[hl];generalize l.dropLast=L at *;refine wp_region_any hm ?_;simp only[qK,aD6,aF1,List.all_eq_true,List.any_eq_true,Array.all_eq_true,Array.any_eq_true,Option.isNone_iff_eq_none,decide_eq_true_eq,List.mem_range,beq_iff_eq]at hok;obtain⟨⟨⟨⟨h1,h2⟩,h3⟩,h4⟩,h5⟩:=hok;have hQ':∀ c a a' w,mP P st Q (.panic c) a w->mP P st Q (.panic c) a' w:=fun _ _ _ _ h=>h;have hH:=kS (P:=P) (md:=.any) (S:=S) (Q:=mP P st Q) hsel hQ' (by simpa using VC (L:=L) (k:=k)) hS (List.range k) (L.take k) _ a (by simpa using UT hk) (List.all_eq_true.1 ht.1) ht.2 h;rw[List.length_range',List.length_range,Nat.sub_add_cancel hk]at hH;have hA:=wpAny_of_held _ _ _ _ hH;have:=TT (P:=P) (md:=.any) (l:=L.toArray) (st:=st) (Q:=Q) (Q':=mP P st Q) (fun o ho j b hj=>by have:=h1 o (by simpa using ho);rw[hj]at this;simpa using this) h2 ?_ ?_ ?_ (fun _ _ _ h=>h.elim) (fun h=>h) (fun _ _ h=>h) L.length (Array.replicate L.toArray.size false) a w.drew (by simp) (J3 _) (by simp) hA
 ·simpa[aI8]using this
 ·intro j o ho e he;have hj:=h3 (o,j) (by rw[aL6];simpa using ho);obtain⟨k,hk,rfl⟩:=Array.getElem_of_mem he;exact hj k hk
 ·intro j hj;rcases h4 j (by simpa using hj)with ⟨k,hk,h6,h7⟩ | ⟨p,hp,h6,k,hk,h7,h8⟩
  ·exact .inl ⟨_,Array.getElem_mem hk,h6,h7⟩
  ·rw[aL6]at hp;exact .inr ⟨p.2,p.1,h6,by simpa using hp,_,Array.getElem_mem hk,h7,h8⟩
 ·intro e he;obtain⟨k,hk,rfl⟩:=Array.getElem_of_mem he;simpa using h5 k hk
open Classical in
noncomputable def kept (S:World->Prop) (w0 u:World):World:=if S u then u else w0
theorem nK{S:World->Prop}{w0:World}(h:S w0)(u:World):S (kept S w0 u):=by
 unfold kept;split
 ·assumption
 ·exact h
theorem KV{S:World->Prop}{w0:World}(h:S w0):(fun w'=>∃ u,w'=kept S w0 u)=S:=by
 funext w';apply propext;constructor
 ·rintro⟨u,rfl⟩;exact nK h u
 ·intro hw;exact⟨w',by unfold kept;rw[if_pos hw]⟩
theorem qE{id:Nat}{l:List Oper}{a:Act}{w:World}(S:World->Prop)(k:Nat)(hS:S w.drew)(hk:k<=l.dropLast.length)(hst:l.getLast?=some st)(hm:P.follows .mixedOrders=true)(hok:qK .any l.dropLast st=true)(hsel:Region.noSelect l.dropLast.toArray=true)
 (ht:((l.dropLast.take k).all fun o=>PL o.op)=true/\vQ .any l.dropLast.toArray (List.range' k (l.dropLast.length-k)) (List.range k) (Array.replicate l.dropLast.toArray.size false)=true)
 (h:wpQuiet P l.dropLast.toArray (fun w'=>∃ u,w'=kept S w.drew u) (fun a=>Z9 P l.dropLast.toArray S (mP P st Q) (fun a w=>st.wp P a w (fun a w=>Q .normal a w) Q) (l.dropLast.drop k) a w.drew) (l.dropLast.take k) a):(Code.region id l.toArray true).wp P Q a w:=by
 rw[KV hS]at h;exact LX S k hk hst hm hok hsel ht hS h
end
end Go.Proofs.YtphjbbbnbmafnaaGreatDoor.G

/- Parts: DTr. -/
import Derived.Test.YtphjbbbnbmafnaaGreatDoorDCl
namespace Go.Proofs.YtphjbbbnbmafnaaGreatDoor.G
open Go.RowKit Go.Shelf RxM
variable {w w' w0 w2:World} {F F' S:Nat->Prop} {A B h j p:Nat} {t:Rx} {vA vB:Value} {pp pr:List Nat} {ps rows:List Rx} {α:Type}
abbrev ptrs(l:List Nat):List Value:=l.map fun(p:Nat)=>Value.pointer (some ⟨p,0,none⟩)
theorem mH(l:List Nat)(p:Nat):ptrs (l++[p])=ptrs l++[.pointer (some ⟨p,0,none⟩)]:=by unfold ptrs;simp
def NB:Option Nat->Int | none => -1 | some c=>(c:Int)
def wG(w:World)(F:Nat->Prop)(v:Value)(ps:List Nat):Prop:=(v = .slice none 0 0/\ps=[])\/∃ g cap,v = .slice (some ⟨g,0,none⟩) ps.length cap/\F g/\∀(j p:Nat),ps[j]?=some p->w.cell? ⟨g,j,none⟩=some (.pointer (some ⟨p,0,none⟩))
def dS(w:World)(F:Nat->Prop):Nat->Nat->Rx->Prop
 | 0,_,_=>False
 | h+1,p,t=>F p/\∃(a0:Nat) (lb:Int) (v:Value) (ps:List Nat) (ts:List Rx),w.heap[p]?=some (.cells #[.int .u8 (a0:Int),.int .i64 lb,v] 154 (0,0))/\wG w F v ps/\(ps.length=ts.length/\ts.length<=1000)/\(∀(j p1:Nat) (t1:Rx),ps[j]?=some p1->ts[j]?=some t1->dS w F h p1 t1) /\
  ((a0=97/\∃ l,lb=NB l/\t = .sym l)\/(a0=42/\∃ t1,ts=[t1]/\t = .star t1)\/(a0=38/\t=jU ts)\/(a0=124/\t=alts ts))
theorem wG.same{v:Value}{ps:List Nat}(h:wG w F v ps)(hs:Same w w' S)(hn:∀ k,F k->¬ S k)(hF:∀ k,F k->F' k):wG w' F' v ps:=by
 rcases h with h | ⟨g,cap,h1,h2,h3⟩
 ·exact .inl h
 ·exact .inr ⟨g,cap,h1,hF g h2,fun j p hj=>hs.cell (h3 j p hj) (hn g h2)⟩
theorem dS.same(hs:Same w w' S)(hn:∀ k,F k->¬ S k)(hF:∀ k,F k->F' k):∀{h p:Nat} {t:Rx},dS w F h p t->dS w' F' h p t
 | 0,_,_,h=>h.elim
 | _+1,_,_,⟨h1,a0,lb,v,ps,ts,h2,h3,h4,h5,h6⟩=>⟨hF _ h1,a0,lb,v,ps,ts,hs.row h2 (hn _ h1),h3.same hs hn hF,h4,fun j p1 t1 e1 e2=>dS.same hs hn hF (h5 j p1 t1 e1 e2),h6⟩
theorem dS.up(H:dS w F h p t){m:Nat}(hm:h<=m):dS w F m p t:=by
 induction h generalizing p t m with
 | zero=>exact H.elim
 | succ h ih =>
  obtain⟨h1,a0,lb,v,ps,ts,h2,h3,h4,h5,h6⟩:=H;obtain⟨m,rfl⟩:∃ m',m=m'+1:=⟨m-1,by omega⟩;exact⟨h1,a0,lb,v,ps,ts,h2,h3,h4,fun j p1 t1 e1 e2=>ih (h5 j p1 t1 e1 e2) (by omega),h6⟩
structure iM (w0 w:World) (A B:Nat) (vA vB:Value) (pr pp:List Nat) (rows ps:List Rx) (F:Nat->Prop) (h:Nat):Prop where
 rA:w.heap[A]?=some (.cells #[.int .u8 124,.int .i64 0,vA] 154 (0,0))
 rB:w.heap[B]?=some (.cells #[.int .u8 38,.int .i64 0,vB] 154 (0,0))
 oA:w.ownsRow w0.heap.size 99 1 vA pr.length (ptrs pr)
 oB:w.ownsRow w0.heap.size 99 1 vB pp.length (ptrs pp)
 lA:pr.length=rows.length
 lB:pp.length=ps.length
 tA:∀(j p:Nat) (t:Rx),pr[j]?=some p->rows[j]?=some t->dS w F h p t
 tB:∀(j p:Nat) (t:Rx),pp[j]?=some p->ps[j]?=some t->dS w F h p t
 ne:A≠B/\(∀ g,vA.ownBlock=some g->g≠A/\g≠B/\vB.ownBlock≠some g)/\(∀ g,vB.ownBlock=some g->g≠A/\g≠B)
 fr:∀ k,F k->w0.heap.size<=k/\k<w.heap.size/\k≠A/\k≠B/\vA.ownBlock≠some k/\vB.ownBlock≠some k
 bs:w0.heap.size<=A/\w0.heap.size<=B
 bel:Below w0.heap.size w0 w
theorem iM.lt(H:iM w0 w A B vA vB pr pp rows ps F h):A<w.heap.size/\B<w.heap.size/\(∀ g,vA.ownBlock=some g->w0.heap.size<=g/\g<w.heap.size)/\(∀ g,vB.ownBlock=some g->w0.heap.size<=g/\g<w.heap.size) :=
 ⟨(aC2.1 H.rA).1,(aC2.1 H.rB).1,H.oA.lt,H.oB.lt⟩
theorem iM.below(H:iM w0 w A B vA vB pr pp rows ps F h)(hB:Below w.heap.size w w'):iM w0 w' A B vA vB pr pp rows ps F h:=by
 have hs:=Same.below hB;have hf:∀ k,F k->¬ False:=fun _ _=>id;exact⟨hs.row H.rA id,hs.row H.rB id,aF H.oA hs (fun _ _=>id),aF H.oB hs (fun _ _=>id),H.lA,H.lB,fun j p t e1 e2=>dS.same hs hf (fun _=>id) (H.tA j p t e1 e2),fun j p t e1 e2=>dS.same hs hf (fun _=>id) (H.tB j p t e1 e2),H.ne,fun k hk=>by have:=H.fr k hk;exact⟨this.1,aF0 this.2.1 hB.size,this.2.2⟩,H.bs,H.bel.trans (hB.mono H.bel.size)⟩
theorem lG{l:List α}{a:α}{x:α}(h:(l++[a])[j]?=some x):l[j]?=some x\/(j=l.length/\x=a):=by
 rcases aG5 j l.length with e | e
 ·rw[aD4 e]at h;exact .inl h
 ·rw[aC8 e]at h;have:j-l.length=0:=by
   rcases Nat.eq_zero_or_pos (j-l.length)with e2 | e2
   ·exact e2
   ·rw[aC7 (by simp;omega)]at h;cases h
  rw[this]at h;simp at h;exact .inr ⟨by omega,h.symm⟩
theorem zL{β:Type}{l:List α}{m:List β}(hl:l.length=m.length){a:α}{b:β}{x:α}{y:β}(h1:(l++[a])[j]?=some x)(h2:(m++[b])[j]?=some y):(l[j]?=some x/\m[j]?=some y)\/(x=a/\y=b):=by
 rcases lG h1 with e1 | ⟨e1,rfl⟩
 ·rcases lG h2 with e2 | ⟨e2,rfl⟩
  ·exact .inl ⟨e1,e2⟩
  ·have:=(aC4.1 e1).1;omega
 ·rcases lG h2 with e2 | ⟨e2,rfl⟩
  ·have:=(aC4.1 e2).1;omega
  ·exact .inr ⟨rfl,rfl⟩
theorem iM.piece{F1:Nat->Prop}{h1:Nat}(H:iM w0 w A B vA vB pr pp rows ps F h)(hT:dS w F1 h1 p t)(hF1:∀ k,F1 k->w0.heap.size<=k/\k<w.heap.size/\k≠A/\k≠B/\vA.ownBlock≠some k/\vB.ownBlock≠some k)
 (g cap:Nat) (hown:w2.ownsRow w0.heap.size 99 1 (.slice (some ⟨g,0,none⟩) (pp.length+1) cap) (pp.length+1) (ptrs pp++[.pointer (some ⟨p,0,none⟩)])) (hg:(vB.ownBlock=some g/\w.grownBy w2 (some g))\/(g=w.heap.size/\w.grownBy w2 none)) :
 iM w0 (w2.setCell ⟨B,2,none⟩ (.slice (some ⟨g,0,none⟩) (pp.length+1) cap)) A B vA (.slice (some ⟨g,0,none⟩) (pp.length+1) cap) pr (pp++[p]) rows (ps++[t]) (fun k=>F k\/F1 k) (max h h1):=by
 have a2:=H.lt;have a6:=dN hg;have a7:=Same.set w2 ⟨B,2,none⟩ (.slice (some ⟨g,0,none⟩) (pp.length+1) cap);have hs:Same w (w2.setCell ⟨B,2,none⟩ (.slice (some ⟨g,0,none⟩) (pp.length+1) cap)) (fun k=>vB.ownBlock=some k\/k=B):=a6.trans a7;have a5:vB.ownBlock=some g\/w.heap.size<=g:=by
  rcases hg with ⟨e,_⟩ | ⟨e,_⟩
  ·exact .inl e
  ·exact .inr (by omega)
 have a4:g≠A/\g≠B/\vA.ownBlock≠some g:=by
  rcases a5 with e | e
  ·exact⟨(H.ne.2.2 g e).1,(H.ne.2.2 g e).2,fun e2=>(H.ne.2.1 g e2).2.2 e⟩
  ·refine⟨by omega,by omega,fun e2 => ?_⟩;have:=(a2.2.2.1 g e2).2;omega
 have a8:Below w0.heap.size w w2:=by
  have:=H.bs;rcases hg with ⟨e,hg⟩ | ⟨_,hg⟩
  ·exact(YQ _ w).grown hg (by omega) (fun k e2=>by injection e2 with e2;subst e2;exact(a2.2.2.2 g e).1)
  ·exact(YQ _ w).grown hg (by omega) (fun k e2=>by cases e2)
 have a3:∀ k,F k->¬(vB.ownBlock=some k\/k=B):=fun k hk e=>by
  have:=H.fr k hk;rcases e with e | e
  ·exact this.2.2.2.2.2 e
  ·exact this.2.2.2.1 e
 have a9:∀ k,F1 k->¬(vB.ownBlock=some k\/k=B):=fun k hk e=>by
  have:=hF1 k hk;rcases e with e | e
  ·exact this.2.2.2.2.2 e
  ·exact this.2.2.2.1 e
 refine⟨hs.row H.rA (fun e => ?_),?_,aF H.oA hs (fun k e e2 => ?_),?_,H.lA,by simp[H.lB],fun j q x e1 e2=>((H.tA j q x e1 e2).same hs a3 (fun _=>.inl)).up (by omega),fun j q x e1 e2 => ?_,⟨H.ne.1,fun k e=>⟨(H.ne.2.1 k e).1,(H.ne.2.1 k e).2.1,fun e2 => ?_⟩,fun k e => ?_⟩,fun k hk => ?_,H.bs,(H.bel.trans a8).setCell (p:=⟨B,2,none⟩) H.bs.2 _⟩
 ·rcases e with e | e
  ·exact(H.ne.2.2 A e).1 rfl
  ·exact H.ne.1 e
 ·exact aH w2 B 2 _ _ _ _ (a6.row H.rB fun e=>(H.ne.2.2 B e).2 rfl)
 ·rcases e2 with e2 | e2
  ·exact(H.ne.2.1 k e).2.2 e2
  ·exact(H.ne.2.1 k e).2.1 e2
 ·rw[WT,aF6,mH];exact aF hown a7 (fun k e=>by simp only[Value.ownBlock,aC5]at e;subst e;exact a4.2.1)
 ·rcases zL H.lB e1 e2 with ⟨e1,e2⟩ | ⟨rfl,rfl⟩
  ·exact((H.tB j q x e1 e2).same hs a3 (fun _=>.inl)).up (by omega)
  ·exact(hT.same hs a9 (fun _=>.inr)).up (by omega)
 ·simp only[Value.ownBlock,aC5]at e2;subst e2;exact a4.2.2 e
 ·simp only[Value.ownBlock,aC5]at e;subst e;exact⟨a4.1,a4.2.1⟩
 ·have key:∀ k,(w0.heap.size<=k/\k<w.heap.size/\k≠A/\k≠B/\vA.ownBlock≠some k/\vB.ownBlock≠some k)->w0.heap.size<=k/\k<(w2.setCell ⟨B,2,none⟩ (.slice (some ⟨g,0,none⟩) (pp.length+1) cap)).heap.size/\k≠A/\k≠B/\vA.ownBlock≠some k/\(Value.slice (some ⟨g,0,none⟩) (pp.length+1) cap).ownBlock≠some k:=fun k hk=>by
   refine⟨hk.1,aF0 hk.2.1 hs.1,hk.2.2.1,hk.2.2.2.1,hk.2.2.2.2.1,fun e => ?_⟩;simp only[Value.ownBlock,aC5]at e;subst e;rcases a5 with e | e
   ·exact hk.2.2.2.2.2 e
   ·omega
  rcases hk with hk | hk
  ·exact key k (H.fr k hk)
  ·exact key k (hF1 k hk)
theorem iM.row(H:iM w0 w A B vA vB pr pp rows ps F h)(hc:pp.length<=1000):dS w (fun k=>F k\/k=B\/vB.ownBlock=some k) (h+1) B (jU ps):=by
 refine⟨.inr (.inl rfl),38,0,vB,pp,ps,H.rB,?_,⟨H.lB,by rw[<-H.lB];exact hc⟩,fun j p t e1 e2=>(H.tB j p t e1 e2).same (Same.below (YQ _ w)) (fun _ _=>id) (fun _=>.inl),.inr (.inr (.inl ⟨rfl,rfl⟩))⟩;obtain⟨h1,h2⟩:=H.oB;rcases h2 with ⟨h2,h3⟩ | ⟨g,cap,cur,e,hb,hg,hnc,hcm,hcs,ht⟩
 ·exact .inl ⟨h2,aI6.1 h3⟩
 ·refine .inr ⟨g,cap,e,.inr (.inr (by rw[e];rfl)),fun j p hj => ?_⟩;have hjl:=(aC4.1 hj).1;have ho:=H.oB;rw[e]at ho;rw[ho.cellAt j (by omega),aD0,hj];rfl
abbrev YV(F:Nat->Prop)(B:Nat)(vB:Value):Nat->Prop:=fun k=>F k\/k=B\/vB.ownBlock=some k
theorem iM.put(H:iM w0 w A B vA vB pr pp rows ps F h)(hc:pp.length<=1000)
 (g cap:Nat) (hown:w2.ownsRow w0.heap.size 99 1 (.slice (some ⟨g,0,none⟩) (pr.length+1) cap) (pr.length+1) (ptrs pr++[.pointer (some ⟨B,0,none⟩)])) (hg:(vA.ownBlock=some g/\w.grownBy w2 (some g))\/(g=w.heap.size/\w.grownBy w2 none)) :
 (w2.setCell ⟨A,2,none⟩ (.slice (some ⟨g,0,none⟩) (pr.length+1) cap)).heap[A]?=some (.cells #[.int .u8 124,.int .i64 0,.slice (some ⟨g,0,none⟩) (pr.length+1) cap] 154 (0,0)) /\
 (w2.setCell ⟨A,2,none⟩ (.slice (some ⟨g,0,none⟩) (pr.length+1) cap)).ownsRow w0.heap.size 99 1 (.slice (some ⟨g,0,none⟩) (pr.length+1) cap) (pr++[B]).length (ptrs (pr++[B])) /\
 (∀(j p:Nat) (t:Rx),(pr++[B])[j]?=some p->(rows++[jU ps])[j]?=some t->dS (w2.setCell ⟨A,2,none⟩ (.slice (some ⟨g,0,none⟩) (pr.length+1) cap)) (YV F B vB) (h+1) p t) /\
 (∀ k,YV F B vB k->w0.heap.size<=k/\k<(w2.setCell ⟨A,2,none⟩ (.slice (some ⟨g,0,none⟩) (pr.length+1) cap)).heap.size/\k≠A/\g≠k)/\Below w0.heap.size w0 (w2.setCell ⟨A,2,none⟩ (.slice (some ⟨g,0,none⟩) (pr.length+1) cap))/\g≠A/\(pr++[B]).length=(rows++[jU ps]).length:=by
 have a2:=H.lt;have a6:=dN hg;have a7:=Same.set w2 ⟨A,2,none⟩ (.slice (some ⟨g,0,none⟩) (pr.length+1) cap);have hs:Same w (w2.setCell ⟨A,2,none⟩ (.slice (some ⟨g,0,none⟩) (pr.length+1) cap)) (fun k=>vA.ownBlock=some k\/k=A):=a6.trans a7;have a5:vA.ownBlock=some g\/w.heap.size<=g:=by
  rcases hg with ⟨e,_⟩ | ⟨e,_⟩
  ·exact .inl e
  ·exact .inr (by omega)
 have hgA:g≠A:=by
  rcases a5 with e | e
  ·exact(H.ne.2.1 g e).1
  ·omega
 have a8:Below w0.heap.size w w2:=by
  have:=H.bs;rcases hg with ⟨e,hg⟩ | ⟨_,hg⟩
  ·exact(YQ _ w).grown hg (by omega) (fun k e2=>by injection e2 with e2;subst e2;exact(a2.2.2.1 g e).1)
  ·exact(YQ _ w).grown hg (by omega) (fun k e2=>by cases e2)
 have hF:∀ k,YV F B vB k->w0.heap.size<=k/\k<w.heap.size/\k≠A/\vA.ownBlock≠some k:=fun k hk=>by
  rcases hk with hk | rfl | hk
  ·have:=H.fr k hk;exact⟨this.1,this.2.1,this.2.2.1,this.2.2.2.2.1⟩
  ·exact⟨H.bs.2,a2.2.1,fun e=>H.ne.1 e.symm,fun e=>(H.ne.2.1 _ e).2.1 rfl⟩
  ·exact⟨(a2.2.2.2 k hk).1,(a2.2.2.2 k hk).2,(H.ne.2.2 k hk).1,fun e=>(H.ne.2.1 k e).2.2 hk⟩
 have a3:∀ k,YV F B vB k->¬(vA.ownBlock=some k\/k=A):=fun k hk e=>by
  have:=hF k hk;rcases e with e | e
  ·exact this.2.2.2 e
  ·exact this.2.2.1 e
 refine⟨aH w2 A 2 _ _ _ _ (a6.row H.rA fun e=>(H.ne.2.1 A e).1 rfl),?_,fun j p t e1 e2 => ?_,fun k hk => ?_,(H.bel.trans a8).setCell (p:=⟨A,2,none⟩) H.bs.1 _,hgA,by simp[H.lA]⟩
 ·rw[WT,aF6,mH];exact aF hown a7 (fun k e=>by simp only[Value.ownBlock,aC5]at e;subst e;exact hgA)
 ·rcases zL H.lA e1 e2 with ⟨e1,e2⟩ | ⟨rfl,rfl⟩
  ·exact((H.tA j p t e1 e2).same hs (fun k hk=>a3 k (.inl hk)) (fun _=>.inl)).up (by omega)
  ·exact(H.row hc).same hs a3 (fun _=>id)
 ·have:=hF k hk;refine⟨this.1,aF0 this.2.1 hs.1,this.2.2.1,fun e => ?_⟩;subst e;rcases a5 with e | e
  ·exact this.2.2.2 e
  ·omega
theorem iM.bar(H:iM w0 w A B vA vB pr pp rows ps F h)(hc:pp.length<=1000)
 (g cap:Nat) (hown:w2.ownsRow w0.heap.size 99 1 (.slice (some ⟨g,0,none⟩) (pr.length+1) cap) (pr.length+1) (ptrs pr++[.pointer (some ⟨B,0,none⟩)])) (hg:(vA.ownBlock=some g/\w.grownBy w2 (some g))\/(g=w.heap.size/\w.grownBy w2 none)) :
 iM w0 ((w2.setCell ⟨A,2,none⟩ (.slice (some ⟨g,0,none⟩) (pr.length+1) cap)).alloc (.cells #[.int .u8 38,.int .i64 0,.slice none 0 0] 154)) A (w2.setCell ⟨A,2,none⟩ (.slice (some ⟨g,0,none⟩) (pr.length+1) cap)).heap.size (.slice (some ⟨g,0,none⟩) (pr.length+1) cap) (.slice none 0 0) (pr++[B]) [] (rows++[jU ps]) [] (YV F B vB) (h+1):=by
 obtain⟨h1,h2,h3,h4,h5,h6,h7⟩:=H.put hc g cap hown hg;generalize w2.setCell ⟨A,2,none⟩ (.slice (some ⟨g,0,none⟩) (pr.length+1) cap)=w3 at *;have hb:=aA w3 (.cells #[.int .u8 38,.int .i64 0,.slice none 0 0] 154);have hs:=Same.below hb;have hA:=(aC2.1 h1).1;have hgl:=h2.lt g rfl;refine⟨hs.row h1 id,heap_alloc_new w3 _,aF h2 hs (fun _ _=>id),⟨rfl,.inl ⟨rfl,rfl⟩⟩,h7,rfl,fun j p t e1 e2=>(h3 j p t e1 e2).same hs (fun _ _=>id) (fun _=>id),fun j p t e1 e2=>by simp at e1,⟨by omega,fun k e => ?_,fun k e=>by cases e⟩,fun k hk => ?_,⟨H.bs.1,h5.size⟩,h5.trans (hb.mono h5.size)⟩
 ·simp only[Value.ownBlock,aC5]at e;subst e;exact⟨h6,by omega,by intro e;cases e⟩
 ·have:=h4 k hk;refine⟨this.1,by simp;omega,this.2.2.1,by omega,fun e => ?_,by intro e;cases e⟩;simp only[Value.ownBlock,aC5]at e;exact this.2.2.2 e
theorem iM.all(H:iM w0 w A B vA vB pr pp rows ps F h)(hc:pp.length<=1000)(hr:pr.length+1<=1000)
 (g cap:Nat) (hown:w2.ownsRow w0.heap.size 99 1 (.slice (some ⟨g,0,none⟩) (pr.length+1) cap) (pr.length+1) (ptrs pr++[.pointer (some ⟨B,0,none⟩)])) (hg:(vA.ownBlock=some g/\w.grownBy w2 (some g))\/(g=w.heap.size/\w.grownBy w2 none)) :
 dS (w2.setCell ⟨A,2,none⟩ (.slice (some ⟨g,0,none⟩) (pr.length+1) cap)) (fun k=>YV F B vB k\/k=A\/k=g) (h+2) A (alts (rows++[jU ps]))/\Below w0.heap.size w0 (w2.setCell ⟨A,2,none⟩ (.slice (some ⟨g,0,none⟩) (pr.length+1) cap))/\∀ k,(YV F B vB k\/k=A\/k=g)->w0.heap.size<=k/\k<(w2.setCell ⟨A,2,none⟩ (.slice (some ⟨g,0,none⟩) (pr.length+1) cap)).heap.size:=by
 obtain⟨h1,h2,h3,h4,h5,h6,h7⟩:=H.put hc g cap hown hg;generalize w2.setCell ⟨A,2,none⟩ (.slice (some ⟨g,0,none⟩) (pr.length+1) cap)=w3 at *;have hgl:=h2.lt g rfl;refine⟨⟨.inr (.inl rfl),124,0,_,pr++[B],rows++[jU ps],h1,.inr ⟨g,cap,by simp,.inr (.inr rfl),fun j p hj => ?_⟩,⟨h7,by rw[<-h7];simp;omega⟩,fun j p t e1 e2=>(h3 j p t e1 e2).same (Same.below (YQ _ w3)) (fun _ _=>id) (fun _=>.inl),.inr (.inr (.inr ⟨rfl,rfl⟩))⟩,h5,fun k hk => ?_⟩
 ·have hjl:=(aC4.1 hj).1;rw[show pr.length+1=(pr++[B]).length by simp]at h2;rw[h2.cellAt j (by omega),aD0,hj];rfl
 ·rcases hk with hk | rfl | rfl
  ·exact⟨(h4 k hk).1,(h4 k hk).2.1⟩
  ·exact⟨H.bs.1,(aC2.1 h1).1⟩
  ·exact hgl
theorem UW(l:List α)(a b:α):(l++[a]).set l.length b=l++[b]:=by
 rw[aI1 _ _ (V7 _),aJ1];rfl
theorem iM.star{gB cap:Nat}{qq:List Nat}{pk:Nat}{qs:List Rx}{tk:Rx}(H:iM w0 w A B vA (.slice (some ⟨gB,0,none⟩) (qq.length+1) cap) pr (qq++[pk]) rows (qs++[tk]) F h):
 iM w0 (((w.alloc (.cells #[.pointer (some ⟨pk,0,none⟩)] 99)).alloc (.cells #[.int .u8 42,.int .i64 0,.slice (some ⟨w.heap.size,0,none⟩) 1 1] 154)).setCell ⟨gB,qq.length,none⟩ (.pointer (some ⟨w.heap.size+1,0,none⟩))) A B vA (.slice (some ⟨gB,0,none⟩) (qq.length+1) cap) pr (qq++[w.heap.size+1]) rows (qs++[.star tk]) (fun k=>F k\/k=w.heap.size\/k=w.heap.size+1) (h+1):=by
 have a2:=H.lt;have hgB:=a2.2.2.2 gB rfl;have a4:=H.ne.2.2 gB rfl;have hb:Below w.heap.size w ((w.alloc (.cells #[.pointer (some ⟨pk,0,none⟩)] 99)).alloc (.cells #[.int .u8 42,.int .i64 0,.slice (some ⟨w.heap.size,0,none⟩) 1 1] 154)):=xal (aA _ _);have H2:=H.below hb;have r0:((w.alloc (.cells #[.pointer (some ⟨pk,0,none⟩)] 99)).alloc (.cells #[.int .u8 42,.int .i64 0,.slice (some ⟨w.heap.size,0,none⟩) 1 1] 154)).heap[w.heap.size]?=some (.cells #[.pointer (some ⟨pk,0,none⟩)] 99 (0,0)):=aB (aA _ _) (heap_alloc_new w _);have r1:((w.alloc (.cells #[.pointer (some ⟨pk,0,none⟩)] 99)).alloc (.cells #[.int .u8 42,.int .i64 0,.slice (some ⟨w.heap.size,0,none⟩) 1 1] 154)).heap[w.heap.size+1]?=some (.cells #[.int .u8 42,.int .i64 0,.slice (some ⟨w.heap.size,0,none⟩) 1 1] 154 (0,0)):=by
  have:=heap_alloc_new (w.alloc (.cells #[.pointer (some ⟨pk,0,none⟩)] 99)) (.cells #[.int .u8 42,.int .i64 0,.slice (some ⟨w.heap.size,0,none⟩) 1 1] 154);rwa [aD1]at this
 have hz:((w.alloc (.cells #[.pointer (some ⟨pk,0,none⟩)] 99)).alloc (.cells #[.int .u8 42,.int .i64 0,.slice (some ⟨w.heap.size,0,none⟩) 1 1] 154)).heap.size=w.heap.size+1+1:=by simp
 generalize ((w.alloc (.cells #[.pointer (some ⟨pk,0,none⟩)] 99)).alloc (.cells #[.int .u8 42,.int .i64 0,.slice (some ⟨w.heap.size,0,none⟩) 1 1] 154))=w1 at *;have hs:=Same.set w1 ⟨gB,qq.length,none⟩ (.pointer (some ⟨w.heap.size+1,0,none⟩));have a3:∀ k,F k->¬(k=gB):=fun k hk e=>(H.fr k hk).2.2.2.2.2 (by rw[e];rfl);have a1:(qq++[pk]).length=(qs++[tk]).length:=H.lB;have htk:=H2.tB qq.length pk tk (by simp) (by rw[aC8 (by simp at a1;omega)];simp at a1;rw[a1];simp);refine⟨hs.row H2.rA (fun e=>a4.1 e.symm),hs.row H2.rB (fun e=>a4.2 e.symm),aF H2.oA hs (fun k e e2=>(H.ne.2.1 k e).2.2 (by rw[e2];rfl)),?_,H.lA,by simp at a1 ⊢;exact a1,fun j q x e1 e2=>((H2.tA j q x e1 e2).same hs a3 (fun _=>.inl)).up (by omega),fun j q x e1 e2 => ?_,H.ne,fun k hk => ?_,H.bs,H2.bel.setCell (p:=⟨gB,qq.length,none⟩) hgB.1 _⟩
 ·have ho:=H2.oB;rw[show(qq++[pk]).length=qq.length+1 by simp,mH]at ho;have:=(ho.stored qq.length (.pointer (some ⟨w.heap.size+1,0,none⟩))).1;rw[show(ptrs qq++[Value.pointer (some ⟨pk,0,none⟩)]).set qq.length (.pointer (some ⟨w.heap.size+1,0,none⟩))=ptrs (qq++[w.heap.size+1]) by
   rw[mH,show qq.length=(ptrs qq).length by simp,UW]]at this
  rw[show(qq++[w.heap.size+1]).length=qq.length+1 by simp];exact this
 ·rcases zL (by simp at a1;exact a1) e1 e2 with ⟨e1,e2⟩ | ⟨rfl,rfl⟩
  ·refine((H2.tB j q x ?_ ?_).same hs a3 (fun _=>.inl)).up (by omega)
   ·rw[aD4 (aC4.1 e1).1];exact e1
   ·rw[aD4 (aC4.1 e2).1];exact e2
  ·refine⟨.inr (.inr rfl),42,0,_,[pk],[tk],hs.row r1 (fun e=>by simp only at e;omega),.inr ⟨w.heap.size,1,rfl,.inr (.inl rfl),fun j p hj => ?_⟩,⟨rfl,by simp⟩,fun j p1 t1 e1 e2 => ?_,.inr (.inl ⟨rfl,tk,rfl,rfl⟩)⟩
   ·cases j with
    | zero =>
     simp at hj;subst hj;exact hs.cell (p:=⟨w.heap.size,0,none⟩) (by rw[cell_of_row _ _ 0 _ _ _ r0];rfl) (fun e=>by simp only at e;omega)
    | succ j=>simp at hj
   ·cases j with
    | zero =>
     simp at e1 e2;subst e1 e2;exact htk.same hs a3 (fun _=>.inl)
    | succ j=>simp at e1
 ·rcases hk with hk | rfl | rfl
  ·have:=H2.fr k hk;exact⟨this.1,aF0 this.2.1 hs.1,this.2.2⟩
  ·refine⟨H.bel.size,aF0 (by omega) hs.1,by omega,by omega,fun e => ?_,fun e => ?_⟩
   ·have:=(a2.2.2.1 _ e).2;omega
   ·have:=(a2.2.2.2 _ e).2;omega
  ·refine⟨by have:=H.bel.size;omega,aF0 (by omega) hs.1,by omega,by omega,fun e => ?_,fun e => ?_⟩
   ·have:=(a2.2.2.1 _ e).2;omega
   ·have:=(a2.2.2.2 _ e).2;omega
end Go.Proofs.YtphjbbbnbmafnaaGreatDoor.G
